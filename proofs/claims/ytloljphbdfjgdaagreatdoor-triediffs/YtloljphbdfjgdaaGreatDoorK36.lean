/- The small tree of TrieLong's known. -/
import Derived.Test.YtloljphbdfjgdaaGreatDoorK33
import Derived.Test.YtloljphbdfjgdaaGreatDoorK14
import Derived.Test.YtloljphbdfjgdaaGreatDoorK35
namespace Go.Proofs.YtloljphbdfjgdaaGreatDoor
open Go.RowKit
abbrev kt1:Tr:=.leaf 1099511627777 5 50
abbrev kt2:Tr:=.node 3298534883329 1 4 kt1 (.leaf 2199023255553 7 70)
abbrev kt3:Tr:=.node 6597069766657 1 4 kt1 (.node 5497558138881 0 6 (.leaf 4398046511105 6 60) (.leaf 2199023255553 7 70))
theorem kp1 (g:Nat→Int):putO g 5 50 none=(some (.leaf (g 0) 5 50),1,[]):=rfl
theorem plc75:plc 7 5=1:=by decide
theorem plc67:plc 6 7=0:=by decide
theorem kp2 (g:Nat→Int):putO g 7 70 (some kt1)=(some (.node (g 1) 1 4 kt1 (.leaf (g 0) 7 70)),2,[]):=by
 simp [putO,Tr.stop,Tr.val,Tr.put,Tr.gone,Tr.lo,plc75,fstK]
theorem kp3 (g:Nat→Int):putO g 6 60 (some kt2)=(some (.node (g 2) 1 4 kt1 (.node (g 1) 0 6 (.leaf (g 0) 6 60) (.leaf 2199023255553 7 70))),3,[3298534883329]):=by
 simp [putO,Tr.stop,Tr.val,Tr.put,Tr.gone,Tr.lo,plc67,fstK]
theorem kd (g:Nat→Int):(Tr.del g 6 kt3).2=1:=by
 simp [Tr.del]
theorem kv:Tr.val 6 (kt3.stop 6)=some 60:=by simp [Tr.stop,Tr.val]
theorem kg:Tr.gone 6 kt3=[4398046511105,5497558138881,6597069766657]:=by simp [Tr.gone]
theorem g0_0:gOf (PSt.new 9) (List.range' 1 9) 0=1099511627777:=by decide
theorem g0_1:gOf (PSt.new 9) (List.range' 1 9) 1=2199023255553:=by decide
theorem g0_2:gOf (PSt.new 9) (List.range' 1 9) 2=3298534883329:=by decide
theorem g0_3:gOf (PSt.new 9) (List.range' 1 9) 3=4398046511105:=by decide
theorem g0_4:gOf (PSt.new 9) (List.range' 1 9) 4=5497558138881:=by decide
theorem g0_5:gOf (PSt.new 9) (List.range' 1 9) 5=6597069766657:=by decide
theorem pk1:packV 1 1=1099511627777∧packE 1 1=0:=by decide
theorem pk2:packV 2 1=2199023255553∧packE 2 1=0:=by decide
theorem pk3:packV 3 1=3298534883329∧packE 3 1=0:=by decide
section
variable {s1 s2:PSt}
theorem ke1:putO (gOf (PSt.new 9) (List.range' 1 9)) 5 50 none=(some kt1,1,[]):=by rw [kp1,g0_0]
theorem ke2 (h:MK (PSt.new 9) (List.range' 1 9) 0 1 s1):putO (gOf s1 ((List.range' 1 9).drop 1)) 7 70 (some kt1)=(some kt2,2,[]):=by
 rw [kp2,gOf_next h (by decide),gOf_next h (by decide),show 1+1=2 from rfl,show 1+0=1 from rfl,g0_2,g0_1]
theorem ke3 (h:MK (PSt.new 9) (List.range' 1 9) 0 1 s1) (h':MK s1 ((List.range' 1 9).drop 1) (0+1) 2 s2):putO (gOf s2 (((List.range' 1 9).drop 1).drop 2)) 6 60 (some kt2)=(some kt3,3,[3298534883329]):=by
 rw [kp3,gOf_next h' (by decide),gOf_next h' (by decide),gOf_next h' (by decide),gOf_next h (by decide),gOf_next h (by decide),gOf_next h (by decide)]
 rw [show 1+(2+2)=5 from rfl,show 1+(2+1)=4 from rfl,show 1+(2+0)=3 from rfl,g0_5,g0_4,g0_3]
end
abbrev kbox (r old:Int) (had:Bool) (ga:Option Addr) (gl gc:Nat) (ma:Option Addr) (ml mc:Nat):Obj:=.cells #[.int .i64 r,.int .i64 old,.bool had,.slice ga gl gc,.slice ma ml mc] 40 (0,0)
theorem box_keep {x y:World} {p b:Nat} {F:List Nat} {s:PSt} {cs:Array Value} {T:TypeId} (hb:x.heap[b]?=some (.cells cs T (0,0))) (hA:PoolAt x p F s) (hT:T∉([86,93,156,84,89]:List TypeId)) (ht:Turned F x y):y.heap[b]?=some (.cells cs T (0,0)):=ht.heap hb (poolAt_other hA hb hT)
section
variable {w:World} {tb p:Nat} {F:List Nat} {s:PSt}
theorem kRank (hT:TrieB w tb p) (hA:PoolAt w p F s) (hO:s.Ok) (hH:Holds s (some kt3)):Calls Tryz.prog 23 #[pt tb,.pointer none,.int .i64 6597069766657,.int .i64 7] w fun e w'=>e=.returned (.tuple #[.int .i64 2,.int .i64 0])∧Turned [] w w':=by
 have h:=cRank (k:=7) hT hA hO hH (by decide) (by decide)
 rw [show (rankL (prs (some kt3)) 7:Nat)=2 from by decide] at h
 exact h
theorem kSelect (hT:TrieB w tb p) (hA:PoolAt w p F s) (hO:s.Ok) (hH:Holds s (some kt3)):Calls Tryz.prog 24 #[pt tb,.pointer none,.int .i64 6597069766657,.int .i64 1] w fun e w'=>e=.returned (.tuple #[.agg #[.int .i64 6,.int .i64 60],.int .i64 0])∧Turned [] w w':=by
 refine (cSelect hT hA hO (hH.rep kt3 rfl) (hH.wf kt3 rfl) 1 (by decide)).mono ?_
 rintro e w' ⟨q,hq,rfl,ht⟩
 have e1:kt3.pairs[1]?=some (6,60):=by decide
 rw [e1] at hq
 cases hq
 exact ⟨rfl,ht⟩
theorem kNext5 (hT:TrieB w tb p) (hA:PoolAt w p F s) (hO:s.Ok) (hH:Holds s (some kt3)):Calls Tryz.prog 25 #[pt tb,.pointer none,.int .i64 6597069766657,.int .i64 5] w fun e w'=>e=.returned (.tuple #[.agg #[.int .i64 6,.int .i64 60],.int .i64 0])∧Turned [] w w':=by
 refine (cTNext (k:=5) hT hA hO hH (by decide) (by decide)).mono ?_
 rintro e w' ⟨ht,he⟩
 rw [show ((prs (some kt3)).find? fun x=>decide ((5:Int)+1≤x.1))=some (6,60) from by decide] at he
 exact ⟨he,ht⟩
theorem kNext7 (hT:TrieB w tb p) (hA:PoolAt w p F s) (hO:s.Ok) (hH:Holds s (some kt3)):Calls Tryz.prog 25 #[pt tb,.pointer none,.int .i64 6597069766657,.int .i64 7] w fun e w'=>e=.returned (.tuple #[.agg #[.int .i64 0,.int .i64 0],.int .i64 122])∧Turned [] w w':=by
 refine (cTNext (k:=7) hT hA hO hH (by decide) (by decide)).mono ?_
 rintro e w' ⟨ht,he⟩
 rw [show ((prs (some kt3)).find? fun x=>decide ((7:Int)+1≤x.1))=none from by decide] at he
 exact ⟨he,ht⟩
theorem kDrop {St:List Nat} {it:Nat} (hT:TrieB w tb p) (hA:PoolAt w p F s) (hV:PV s St it) (hit:it≤900000000) (hH:Holds s (some kt3)) (hn:1≤St.length):Calls Tryz.prog 26 #[pt tb,.pointer none,.int .i64 6597069766657,.int .i64 6] w fun e w'=>∃ root ga gc ma mc,e=.returned (.tuple #[edit root 60 true (.slice ga 3 gc) (.slice ma 1 mc),.int .i64 0])∧Turned F w w' :=
 kdrop (t:=kt3) (k:=6) hT hA hV hit hH (by decide) (by decide) kv (kd _) hn kg
end
end Go.Proofs.YtloljphbdfjgdaaGreatDoor
/- A list of pairs with a key's value. -/
namespace Go.Proofs.YtloljphbdfjgdaaGreatDoor
open Go.RowKit
theorem src_one {w:World} {g c:Nat} {k x:Int} (h:w.heap[g]?=some (.cells #[.int .i64 k,.int .i64 x] 60 (0,0))):PSrc w (.slice (some ⟨g,0,none⟩) 1 c) [(k,x)] :=
 psrc_of rfl fun i hi=>by
  have:i=0:=by simp at hi; omega
  subst this
  exact ⟨cell_at h 0,cell_at h 1⟩
theorem PR.lower {B B':Nat} {w:World} {v:Value} {l:List (Int × Int)} (h:PR B w v l) (hb:B'≤B):PR B' w v l:=by
 refine ⟨h.own.1,?_⟩
 rcases h.own.2 with h0 | ⟨g,c,cs,h1,h2,h3⟩
 ·exact .inl h0
 ·exact .inr ⟨g,c,cs,h1,Nat.le_trans hb h2,h3⟩
section
variable {w:World} {v:Value} {l:List (Int × Int)}
set_option maxRecDepth 100000 in
set_option maxHeartbeats 1600000 in
theorem cWith {B:Nat} (h:PR B w v l) (hl:l.length≤1000000) (k x:Int):Calls Tryz.prog 17 #[v,.agg #[.int .i64 k,.int .i64 x]] w fun e w'=>∃ v',e=.returned v'∧PR w.heap.size w' v' (insL l k x)∧Turned [] w w':=by
 have HW:∀ w1,Turned [] w w1→Calls Tryz.prog 40 #[v,.int .i64 k] w1 fun e w'=>e=.returned (.tuple #[.int .i64 (rankL l k),.bool (getL l k).isSome])∧Turned [] w1 w':=fun w1 h1=>cWhere (h.keep h1 (by simp)) hl k
 rcases h.form with ⟨rfl,rfl⟩ | ⟨g,c,cs,rfl,hb,hg,hh,hc,hcell⟩
 ·have e:getL [] k=none:=rfl
  have e1:rankL [] k=0:=rfl
  rw [e,e1] at HW
  simp only [Option.isSome_none] at HW
  clear h
  have HB1:Hid (([]:List (Int × Int)).length+([]:List (Int × Int)).length≤4000000):=by show _≤_; simp
  have HB3:Hid (([]:List (Int × Int)).length + [(k,x)].length≤4000000):=by show _≤_; simp
  have HB2:Hid (([] ++ [(k,x)]).length+([]:List (Int × Int)).length≤4000000):=by show _≤_; simp
  go_enter Tryz.func17,Tryz.ntmps17
  go_wp2_with (first
   | (go_at_call 40; refine (HW _ ((Turned.refl _ _).alloc _)).mono ?_; rintro e w' ⟨rfl,ht⟩; have HT:Turned [] w w':=((Turned.refl _ _).alloc _).trans ht; have hbx:Hid (w'.heap[w.heap.size]?=some (.cells #[.int .i64 k,.int .i64 x] 60 (0,0))):=ht.heap (blk_new _ _) (by simp); have hbs:Hid (w.heap.size < w'.heap.size):=lt_of_heap hbx.out; have p0:w'.cell? ⟨w.heap.size,0,none⟩=some (.int .i64 k):=cell_at hbx.out 0; have p1:w'.cell? ⟨w.heap.size,1,none⟩=some (.int .i64 x):=cell_at hbx.out 1; have HS1:Hid (PSrc w' (.slice none 0 0) ([])):=⟨.inl ⟨rfl,rfl⟩⟩; clear ht)
   | (at_builtin; refine wpList_apPairs (B:=w.heap.size+1) (v:=.slice none 0 0) (u:=.slice none 0 0) (l:=[]) (ms:=[]) rfl _ _ rfl rfl (PR.nil _ _) rfl HS1.out (HB1.out) hbs.out ?_; intro v1 w1 hr1 ht1 ho1; have HR1:Hid (PR (w.heap.size+1) w1 v1 ([]:List (Int × Int))):=hr1; have HT1:Hid (Turned [] w w1):=HT.trans ht1; have q0:w1.cell? ⟨w.heap.size,0,none⟩=some (.int .i64 k):=ht1.cell p0 (by simp [Value.ownBlock]); have q1:w1.cell? ⟨w.heap.size,1,none⟩=some (.int .i64 x):=ht1.cell p1 (by simp [Value.ownBlock]); have hbt:Hid (w.heap.size < w1.heap.size):=Nat.lt_of_lt_of_le hbs.out ht1.size; clear hr1 ht1 ho1 HT HS1 p0 p1)
   | (at_builtin; refine wpList_apPairs (B:=w.heap.size+1) (l:=([]:List (Int × Int))) (u:=.slice (some ⟨w1.heap.size,0,none⟩) 1 1) (ms:=[(k,x)]) rfl _ _ rfl rfl (HR1.out.keep (F:=[]) ((Turned.refl _ _).alloc _) (by simp)) rfl (src_one (blk_new _ _)) (HB3.out) (Nat.le_trans hbt.out (by simp)) ?_; intro v2 w2 hr2 ht2 ho2; have HR2:Hid (PR (w.heap.size+1) w2 v2 (([]:List (Int × Int)) ++ [(k,x)])):=hr2; have HT2:Hid (Turned [] w w2):=(HT1.out.alloc _).inner ht2 (fun y hy=>(by simp at hy; exact .inr (by have:=(HR1.out.fresh hy).1; omega))); have hz2:w1.heap.size≤w2.heap.size:=Nat.le_trans (by simp) ht2.size; clear hr2 ht2 ho2 HT1 q0 q1; have HZ2:Hid (w1.heap.size≤w2.heap.size):=hz2; have HS2:Hid (PSrc w2 (.slice none 0 0) ([])):=⟨.inl ⟨rfl,rfl⟩⟩)
   | (at_builtin; refine wpList_apPairs (B:=w.heap.size+1) (l:=([]:List (Int × Int)) ++ [(k,x)]) (u:=.slice none 0 0) (ms:=[]) rfl _ _ rfl rfl HR2.out rfl HS2.out (HB2.out) (Nat.le_trans hbt.out HZ2.out) ?_; intro v3 w3 hr3 ht3 ho3; have HR3:Hid _:=hr3; have HT3:Hid (Turned [] w w3):=HT2.out.inner ht3 (fun y hy=>(by simp at hy; exact .inr (by have:=(HR2.out.fresh hy).1; omega))); clear hr3 ht3 ho3 HT2))
  go_ret
  exact ⟨_,rfl,HR3.out.lower (by omega),HT3.out⟩
 ·have HC:Hid _:=hcell
  have HH:Hid _:=hh
  have hr:=rank_le l k
  have hsk:=skip_le l k
  have HD:Hid _:=ins_split l k x
  clear hcell hh h
  have hc2:(rankL l k:Int)≤(c:Int):=by omega
  have HB1:Hid (([]:List (Int × Int)).length+(l.take (rankL l k)).length≤4000000):=by show _≤_; simp; omega
  have HB3:Hid ((l.take (rankL l k)).length + [(k,x)].length≤4000000):=by show _≤_; simp; omega
  have HB2:Hid (∀ m,(l.take (rankL l k) ++ [(k,x)]).length+(l.drop m).length≤4000000):=by intro m; simp; omega
  have HB4:Hid ((l.take (rankL l k) ++ [(k,x)]).length+([]:List (Int × Int)).length≤4000000):=by show _≤_; simp; omega
  unfold skipL at hsk HD
  rcases hg2:getL l k with _ | y
  ·rw [hg2] at HW hsk HD
   simp only [oneO,Nat.add_zero,Option.isSome_none] at hsk HD HW
   have hc3:(rankL l k:Int)≤(l.length:Int):=by omega
   clear hg2
   generalize rankL l k=r at *
   by_cases hcr:c=r
   ·have hcr2:l.length=c:=by omega
    subst hcr
    have hd0:l.drop c=[]:=List.drop_eq_nil_of_le (by omega)
    have HB2:=HB4
    have HX:Hid _:=hd0
    clear hd0
    rw [hcr2] at HW
    go_enter Tryz.func17,Tryz.ntmps17
    go_wp2_with (first
     | (go_at_call 40; refine (HW _ ((Turned.refl _ _).alloc _)).mono ?_; rintro e w' ⟨rfl,ht⟩; have HT:Turned [] w w':=((Turned.refl _ _).alloc _).trans ht; have hbx:Hid (w'.heap[w.heap.size]?=some (.cells #[.int .i64 k,.int .i64 x] 60 (0,0))):=ht.heap (blk_new _ _) (by simp); have hbs:Hid (w.heap.size < w'.heap.size):=lt_of_heap hbx.out; have p0:w'.cell? ⟨w.heap.size,0,none⟩=some (.int .i64 k):=cell_at hbx.out 0; have p1:w'.cell? ⟨w.heap.size,1,none⟩=some (.int .i64 x):=cell_at hbx.out 1; have HS1:Hid (PSrc w' (.slice (some ⟨g,0,none⟩) c c) (l.take c)):=psrc_take hr (fun i hi=>⟨HT.cell (HC.out i hi).1 (by simp),HT.cell (HC.out i hi).2 (by simp)⟩); clear ht)
     | (at_builtin; refine wpList_apPairs (B:=w.heap.size+1) (v:=.slice none 0 0) (u:=.slice (some ⟨g,0,none⟩) c c) (l:=[]) (ms:=l.take c) rfl _ _ rfl rfl (PR.nil _ _) rfl HS1.out (HB1.out) hbs.out ?_; intro v1 w1 hr1 ht1 ho1; have HR1:Hid (PR (w.heap.size+1) w1 v1 (l.take c)):=hr1; have HT1:Hid (Turned [] w w1):=HT.trans ht1; have q0:w1.cell? ⟨w.heap.size,0,none⟩=some (.int .i64 k):=ht1.cell p0 (by simp [Value.ownBlock]); have q1:w1.cell? ⟨w.heap.size,1,none⟩=some (.int .i64 x):=ht1.cell p1 (by simp [Value.ownBlock]); have hbt:Hid (w.heap.size < w1.heap.size):=Nat.lt_of_lt_of_le hbs.out ht1.size; clear hr1 ht1 ho1 HT HS1 p0 p1)
     | (at_builtin; refine wpList_apPairs (B:=w.heap.size+1) (l:=(l.take c)) (u:=.slice (some ⟨w1.heap.size,0,none⟩) 1 1) (ms:=[(k,x)]) rfl _ _ rfl rfl (HR1.out.keep (F:=[]) ((Turned.refl _ _).alloc _) (by simp)) rfl (src_one (blk_new _ _)) (HB3.out) (Nat.le_trans hbt.out (by simp)) ?_; intro v2 w2 hr2 ht2 ho2; have HR2:Hid (PR (w.heap.size+1) w2 v2 ((l.take c) ++ [(k,x)])):=hr2; have HT2:Hid (Turned [] w w2):=(HT1.out.alloc _).inner ht2 (fun y hy=>(by simp at hy; exact .inr (by have:=(HR1.out.fresh hy).1; omega))); have hz2:w1.heap.size≤w2.heap.size:=Nat.le_trans (by simp) ht2.size; clear hr2 ht2 ho2 HT1 q0 q1; have HZ2:Hid (w1.heap.size≤w2.heap.size):=hz2; have HS2:Hid (PSrc w2 (.slice (some ⟨g,0,none⟩) 0 0) ([])):=psrc_none)
     | (at_builtin; refine wpList_apPairs (B:=w.heap.size+1) (l:=(l.take c) ++ [(k,x)]) (u:=.slice (some ⟨g,0,none⟩) 0 0) (ms:=[]) rfl _ _ rfl rfl HR2.out rfl HS2.out (HB2.out) (Nat.le_trans hbt.out HZ2.out) ?_; intro v3 w3 hr3 ht3 ho3; have HR3:Hid _:=hr3; have HT3:Hid (Turned [] w w3):=HT2.out.inner ht3 (fun y hy=>(by simp at hy; exact .inr (by have:=(HR2.out.fresh hy).1; omega))); clear hr3 ht3 ho3 HT2))
    go_ret
    exact ⟨_,rfl,by rw [HD.out,HX.out]; exact (by simpa using HR3.out.lower (by omega)),HT3.out⟩
   ·have HB2:=HB2.out r
    have HB2:Hid _:=HB2
    go_enter Tryz.func17,Tryz.ntmps17
    go_wp2_with (first
     | (go_at_call 40; refine (HW _ ((Turned.refl _ _).alloc _)).mono ?_; rintro e w' ⟨rfl,ht⟩; have HT:Turned [] w w':=((Turned.refl _ _).alloc _).trans ht; have hbx:Hid (w'.heap[w.heap.size]?=some (.cells #[.int .i64 k,.int .i64 x] 60 (0,0))):=ht.heap (blk_new _ _) (by simp); have hbs:Hid (w.heap.size < w'.heap.size):=lt_of_heap hbx.out; have p0:w'.cell? ⟨w.heap.size,0,none⟩=some (.int .i64 k):=cell_at hbx.out 0; have p1:w'.cell? ⟨w.heap.size,1,none⟩=some (.int .i64 x):=cell_at hbx.out 1; have HS1:Hid (PSrc w' (.slice (some ⟨g,0,none⟩) r c) (l.take r)):=psrc_take hr (fun i hi=>⟨HT.cell (HC.out i hi).1 (by simp),HT.cell (HC.out i hi).2 (by simp)⟩); clear ht)
     | (at_builtin; refine wpList_apPairs (B:=w.heap.size+1) (v:=.slice none 0 0) (u:=.slice (some ⟨g,0,none⟩) r c) (l:=[]) (ms:=l.take r) rfl _ _ rfl rfl (PR.nil _ _) rfl HS1.out (HB1.out) hbs.out ?_; intro v1 w1 hr1 ht1 ho1; have HR1:Hid (PR (w.heap.size+1) w1 v1 (l.take r)):=hr1; have HT1:Hid (Turned [] w w1):=HT.trans ht1; have q0:w1.cell? ⟨w.heap.size,0,none⟩=some (.int .i64 k):=ht1.cell p0 (by simp [Value.ownBlock]); have q1:w1.cell? ⟨w.heap.size,1,none⟩=some (.int .i64 x):=ht1.cell p1 (by simp [Value.ownBlock]); have hbt:Hid (w.heap.size < w1.heap.size):=Nat.lt_of_lt_of_le hbs.out ht1.size; clear hr1 ht1 ho1 HT HS1 p0 p1)
     | (at_builtin; refine wpList_apPairs (B:=w.heap.size+1) (l:=(l.take r)) (u:=.slice (some ⟨w1.heap.size,0,none⟩) 1 1) (ms:=[(k,x)]) rfl _ _ rfl rfl (HR1.out.keep (F:=[]) ((Turned.refl _ _).alloc _) (by simp)) rfl (src_one (blk_new _ _)) (HB3.out) (Nat.le_trans hbt.out (by simp)) ?_; intro v2 w2 hr2 ht2 ho2; have HR2:Hid (PR (w.heap.size+1) w2 v2 ((l.take r) ++ [(k,x)])):=hr2; have HT2:Hid (Turned [] w w2):=(HT1.out.alloc _).inner ht2 (fun y hy=>(by simp at hy; exact .inr (by have:=(HR1.out.fresh hy).1; omega))); have hz2:w1.heap.size≤w2.heap.size:=Nat.le_trans (by simp) ht2.size; clear hr2 ht2 ho2 HT1 q0 q1; have HZ2:Hid (w1.heap.size≤w2.heap.size):=hz2; have HS2:Hid (PSrc w2 (.slice (some ⟨g,r * 2,none⟩) (l.length - r) (c - r)) (l.drop r)):=psrc_drop (fun i hi=>⟨HT2.out.cell (HC.out i hi).1 (by simp),HT2.out.cell (HC.out i hi).2 (by simp)⟩))
     | (at_builtin; refine wpList_apPairs (B:=w.heap.size+1) (l:=(l.take r) ++ [(k,x)]) (u:=.slice (some ⟨g,r * 2,none⟩) (l.length - r) (c - r)) (ms:=l.drop r) rfl _ _ rfl rfl HR2.out rfl HS2.out (HB2.out) (Nat.le_trans hbt.out HZ2.out) ?_; intro v3 w3 hr3 ht3 ho3; have HR3:Hid _:=hr3; have HT3:Hid (Turned [] w w3):=HT2.out.inner ht3 (fun y hy=>(by simp at hy; exact .inr (by have:=(HR2.out.fresh hy).1; omega))); clear hr3 ht3 ho3 HT2))
    go_ret
    exact ⟨_,rfl,by rw [HD.out]; exact (by simpa using HR3.out.lower (by omega)),HT3.out⟩
  ·rw [hg2] at HW hsk HD
   simp only [oneO,Option.isSome_some] at hsk HD HW
   have hc3:(rankL l k:Int)+1≤(l.length:Int):=by omega
   clear hg2
   generalize rankL l k=r at *
   by_cases hcr:c=r+1
   ·have hcr2:l.length=r+1:=by omega
    subst hcr
    have hd0:l.drop (r+1)=[]:=List.drop_eq_nil_of_le (by omega)
    have HB2:=HB4
    have HX:Hid _:=hd0
    clear hd0
    rw [hcr2] at HW
    go_enter Tryz.func17,Tryz.ntmps17
    go_wp2_with (first
     | (go_at_call 40; refine (HW _ ((Turned.refl _ _).alloc _)).mono ?_; rintro e w' ⟨rfl,ht⟩; have HT:Turned [] w w':=((Turned.refl _ _).alloc _).trans ht; have hbx:Hid (w'.heap[w.heap.size]?=some (.cells #[.int .i64 k,.int .i64 x] 60 (0,0))):=ht.heap (blk_new _ _) (by simp); have hbs:Hid (w.heap.size < w'.heap.size):=lt_of_heap hbx.out; have p0:w'.cell? ⟨w.heap.size,0,none⟩=some (.int .i64 k):=cell_at hbx.out 0; have p1:w'.cell? ⟨w.heap.size,1,none⟩=some (.int .i64 x):=cell_at hbx.out 1; have HS1:Hid (PSrc w' (.slice (some ⟨g,0,none⟩) r (r+1)) (l.take r)):=psrc_take hr (fun i hi=>⟨HT.cell (HC.out i hi).1 (by simp),HT.cell (HC.out i hi).2 (by simp)⟩); clear ht)
     | (at_builtin; refine wpList_apPairs (B:=w.heap.size+1) (v:=.slice none 0 0) (u:=.slice (some ⟨g,0,none⟩) r (r+1)) (l:=[]) (ms:=l.take r) rfl _ _ rfl rfl (PR.nil _ _) rfl HS1.out (HB1.out) hbs.out ?_; intro v1 w1 hr1 ht1 ho1; have HR1:Hid (PR (w.heap.size+1) w1 v1 (l.take r)):=hr1; have HT1:Hid (Turned [] w w1):=HT.trans ht1; have q0:w1.cell? ⟨w.heap.size,0,none⟩=some (.int .i64 k):=ht1.cell p0 (by simp [Value.ownBlock]); have q1:w1.cell? ⟨w.heap.size,1,none⟩=some (.int .i64 x):=ht1.cell p1 (by simp [Value.ownBlock]); have hbt:Hid (w.heap.size < w1.heap.size):=Nat.lt_of_lt_of_le hbs.out ht1.size; clear hr1 ht1 ho1 HT HS1 p0 p1)
     | (at_builtin; refine wpList_apPairs (B:=w.heap.size+1) (l:=(l.take r)) (u:=.slice (some ⟨w1.heap.size,0,none⟩) 1 1) (ms:=[(k,x)]) rfl _ _ rfl rfl (HR1.out.keep (F:=[]) ((Turned.refl _ _).alloc _) (by simp)) rfl (src_one (blk_new _ _)) (HB3.out) (Nat.le_trans hbt.out (by simp)) ?_; intro v2 w2 hr2 ht2 ho2; have HR2:Hid (PR (w.heap.size+1) w2 v2 ((l.take r) ++ [(k,x)])):=hr2; have HT2:Hid (Turned [] w w2):=(HT1.out.alloc _).inner ht2 (fun y hy=>(by simp at hy; exact .inr (by have:=(HR1.out.fresh hy).1; omega))); have hz2:w1.heap.size≤w2.heap.size:=Nat.le_trans (by simp) ht2.size; clear hr2 ht2 ho2 HT1 q0 q1; have HZ2:Hid (w1.heap.size≤w2.heap.size):=hz2; have HS2:Hid (PSrc w2 (.slice (some ⟨g,0,none⟩) 0 0) ([])):=psrc_none)
     | (at_builtin; refine wpList_apPairs (B:=w.heap.size+1) (l:=(l.take r) ++ [(k,x)]) (u:=.slice (some ⟨g,0,none⟩) 0 0) (ms:=[]) rfl _ _ rfl rfl HR2.out rfl HS2.out (HB2.out) (Nat.le_trans hbt.out HZ2.out) ?_; intro v3 w3 hr3 ht3 ho3; have HR3:Hid _:=hr3; have HT3:Hid (Turned [] w w3):=HT2.out.inner ht3 (fun y hy=>(by simp at hy; exact .inr (by have:=(HR2.out.fresh hy).1; omega))); clear hr3 ht3 ho3 HT2))
    go_ret
    exact ⟨_,rfl,by rw [HD.out,HX.out]; exact (by simpa using HR3.out.lower (by omega)),HT3.out⟩
   ·have HB2:=HB2.out (r+1)
    have HB2:Hid _:=HB2
    go_enter Tryz.func17,Tryz.ntmps17
    go_wp2_with (first
     | (go_at_call 40; refine (HW _ ((Turned.refl _ _).alloc _)).mono ?_; rintro e w' ⟨rfl,ht⟩; have HT:Turned [] w w':=((Turned.refl _ _).alloc _).trans ht; have hbx:Hid (w'.heap[w.heap.size]?=some (.cells #[.int .i64 k,.int .i64 x] 60 (0,0))):=ht.heap (blk_new _ _) (by simp); have hbs:Hid (w.heap.size < w'.heap.size):=lt_of_heap hbx.out; have p0:w'.cell? ⟨w.heap.size,0,none⟩=some (.int .i64 k):=cell_at hbx.out 0; have p1:w'.cell? ⟨w.heap.size,1,none⟩=some (.int .i64 x):=cell_at hbx.out 1; have HS1:Hid (PSrc w' (.slice (some ⟨g,0,none⟩) r c) (l.take r)):=psrc_take hr (fun i hi=>⟨HT.cell (HC.out i hi).1 (by simp),HT.cell (HC.out i hi).2 (by simp)⟩); clear ht)
     | (at_builtin; refine wpList_apPairs (B:=w.heap.size+1) (v:=.slice none 0 0) (u:=.slice (some ⟨g,0,none⟩) r c) (l:=[]) (ms:=l.take r) rfl _ _ rfl rfl (PR.nil _ _) rfl HS1.out (HB1.out) hbs.out ?_; intro v1 w1 hr1 ht1 ho1; have HR1:Hid (PR (w.heap.size+1) w1 v1 (l.take r)):=hr1; have HT1:Hid (Turned [] w w1):=HT.trans ht1; have q0:w1.cell? ⟨w.heap.size,0,none⟩=some (.int .i64 k):=ht1.cell p0 (by simp [Value.ownBlock]); have q1:w1.cell? ⟨w.heap.size,1,none⟩=some (.int .i64 x):=ht1.cell p1 (by simp [Value.ownBlock]); have hbt:Hid (w.heap.size < w1.heap.size):=Nat.lt_of_lt_of_le hbs.out ht1.size; clear hr1 ht1 ho1 HT HS1 p0 p1)
     | (at_builtin; refine wpList_apPairs (B:=w.heap.size+1) (l:=(l.take r)) (u:=.slice (some ⟨w1.heap.size,0,none⟩) 1 1) (ms:=[(k,x)]) rfl _ _ rfl rfl (HR1.out.keep (F:=[]) ((Turned.refl _ _).alloc _) (by simp)) rfl (src_one (blk_new _ _)) (HB3.out) (Nat.le_trans hbt.out (by simp)) ?_; intro v2 w2 hr2 ht2 ho2; have HR2:Hid (PR (w.heap.size+1) w2 v2 ((l.take r) ++ [(k,x)])):=hr2; have HT2:Hid (Turned [] w w2):=(HT1.out.alloc _).inner ht2 (fun y hy=>(by simp at hy; exact .inr (by have:=(HR1.out.fresh hy).1; omega))); have hz2:w1.heap.size≤w2.heap.size:=Nat.le_trans (by simp) ht2.size; clear hr2 ht2 ho2 HT1 q0 q1; have HZ2:Hid (w1.heap.size≤w2.heap.size):=hz2; have HS2:Hid (PSrc w2 (.slice (some ⟨g,(r+1) * 2,none⟩) (l.length - (r+1)) (c - (r+1))) (l.drop (r+1))):=psrc_drop (fun i hi=>⟨HT2.out.cell (HC.out i hi).1 (by simp),HT2.out.cell (HC.out i hi).2 (by simp)⟩))
     | (at_builtin; refine wpList_apPairs (B:=w.heap.size+1) (l:=(l.take r) ++ [(k,x)]) (u:=.slice (some ⟨g,(r+1) * 2,none⟩) (l.length - (r+1)) (c - (r+1))) (ms:=l.drop (r+1)) rfl _ _ rfl rfl HR2.out rfl HS2.out (HB2.out) (Nat.le_trans hbt.out HZ2.out) ?_; intro v3 w3 hr3 ht3 ho3; have HR3:Hid _:=hr3; have HT3:Hid (Turned [] w w3):=HT2.out.inner ht3 (fun y hy=>(by simp at hy; exact .inr (by have:=(HR2.out.fresh hy).1; omega))); clear hr3 ht3 ho3 HT2))
    go_ret
    exact ⟨_,rfl,by rw [HD.out]; exact (by simpa using HR3.out.lower (by omega)),HT3.out⟩
end
end Go.Proofs.YtloljphbdfjgdaaGreatDoor
/- What an iterator gives, gathered: all of it. -/
namespace Go.Proofs.YtloljphbdfjgdaaGreatDoor
open Go.RowKit
theorem cNum (x:Int) (w:World):Calls Tryz.prog 7 #[.int .i64 x] w fun e w'=>e=.returned (.int .i64 x)∧w'=w:=by
 go_enter Tryz.func7,Tryz.ntmps7
 go_wp2
 go_ret
 exact ⟨rfl,rfl⟩
structure Gv (B:Nat) (w:World) (b3 b7 b8 b9 b10:Nat) (v:Value) (l:List (Int × Int)):Prop where
 c3:w.heap[b3]?=some (.cells #[.int .i64 (-1)] 3 (0,0))
 c7:w.heap[b7]?=some (.cells #[v] 31 (0,0))
 c8:w.heap[b8]?=some (.cells #[.int .i64 0] 3 (0,0))
 c9:w.heap[b9]?=some (.cells #[.bool true] 4 (0,0))
 c10:w.heap[b10]?=some (.cells #[.bool false] 4 (0,0))
 row:PR B w v l
 base:B≤w.heap.size
 n9:b9≠b10
theorem ownPair {B:Nat} {w:World} {v:Value} {l:List (Int × Int)} (h:PR B w v l) {g:Nat} (hg:v.ownBlock=some g):∃ cs,w.heap[g]?=some (.cells cs 60 (0,0)):=by
 rcases h.form with ⟨rfl,_⟩ | ⟨g',c,cs,rfl,hb,hlt,hh,_⟩
 ·simp [Value.ownBlock] at hg
 ·simp only [Value.ownBlock,Option.some.injEq] at hg
  subst hg
  exact ⟨cs,hh⟩
theorem type_ne {w:World} {a b:Nat} {x y:Array Value} {S T:TypeId} (ha:w.heap[a]?=some (.cells x S (0,0))) (hb:w.heap[b]?=some (.cells y T (0,0))) (h:S≠T):a≠b:=fun e=>by
 subst e
 rw [ha] at hb
 simp only [Option.some.injEq,Obj.cells.injEq] at hb
 exact h hb.2.1
theorem blk_new1 (w:World) (o1 o2:Obj):((w.alloc o1).alloc o2).heap[w.heap.size+1]?=some o2:=by
 have:=blk_new (w.alloc o1) o2
 rwa [show (w.alloc o1).heap.size=w.heap.size+1 by simp] at this
theorem nin {v:Value} {b:Nat} {R:Nat→Prop} (h:∀ g,v.ownBlock=some g→R g) (k:∀ {g},R g→g≠b):b∉v.ownBlock.toList:=fun hm=>by
 cases hv:v.ownBlock with
 | none=>rw [hv] at hm; simp at hm
 | some g=>rw [hv] at hm; simp at hm; exact k (h g hv) hm.symm
theorem PR.somes {B:Nat} {w:World} {v:Value} {l:List (Int × Int)} {x:Int × Int} (h:PR B w v (l ++ [x])):∃ g c,v=.slice (some ⟨g,0,none⟩) (l.length+1) c:=by
 rcases h.form with ⟨_,e⟩ | ⟨g,c,cs,rfl,_⟩
 ·simp at e
 ·exact ⟨g,c,by simp⟩
theorem Gv.apart {B:Nat} {w:World} {b3 b7 b8 b9 b10:Nat} {v:Value} {l:List (Int × Int)} (h:Gv B w b3 b7 b8 b9 b10 v l):(b7≠b3∧b7≠b8∧b7≠b9∧b7≠b10)∧(b10≠b3∧b10≠b8)∧b9≠b10∧∀ g,v.ownBlock=some g→g≠b3∧g≠b7∧g≠b8∧g≠b9∧g≠b10:=by
 refine ⟨⟨type_ne h.c7 h.c3 (by decide),type_ne h.c7 h.c8 (by decide),type_ne h.c7 h.c9 (by decide),type_ne h.c7 h.c10 (by decide)⟩,⟨type_ne h.c10 h.c3 (by decide),type_ne h.c10 h.c8 (by decide)⟩,h.n9,fun g hg=>?_⟩
 obtain ⟨cs,hc⟩:=ownPair h.row hg
 exact ⟨type_ne hc h.c3 (by decide),type_ne hc h.c7 (by decide),type_ne hc h.c8 (by decide),type_ne hc h.c9 (by decide),type_ne hc h.c10 (by decide)⟩
theorem Gv.next {B:Nat} {w w1:World} {b3 b7 b8 b9 b10:Nat} {v v1:Value} {l m:List (Int × Int)} (h:Gv B w b3 b7 b8 b9 b10 v l) (hT:Turned v.ownBlock.toList w w1) (hR:PR B w1 v1 m) :
  Gv B ((w1.setCell ⟨b7,0,none⟩ v1).setCell ⟨b10,0,none⟩ (.bool false)) b3 b7 b8 b9 b10 v1 m∧Turned (b7 :: b10 :: v.ownBlock.toList) w ((w1.setCell ⟨b7,0,none⟩ v1).setCell ⟨b10,0,none⟩ (.bool false)):=by
 obtain ⟨⟨d73,d78,d79,d710⟩,⟨d103,d108⟩,d910,hown⟩:=h.apart
 have a3:=hT.heap h.c3 (nin hown fun q=>q.1)
 have a7:=hT.heap h.c7 (nin hown fun q=>q.2.1)
 have a8:=hT.heap h.c8 (nin hown fun q=>q.2.2.1)
 have a9:=hT.heap h.c9 (nin hown fun q=>q.2.2.2.1)
 have a10:=hT.heap h.c10 (nin hown fun q=>q.2.2.2.2)
 have ht2:Turned [b7,b10] w1 ((w1.setCell ⟨b7,0,none⟩ v1).setCell ⟨b10,0,none⟩ (.bool false)):=((Turned.refl _ _).set (.inl (by simp)) _ _).set (.inl (by simp)) _ _
 refine ⟨⟨?_,?_,?_,?_,?_,hR.keep ht2 fun g hg hm=>?_,Nat.le_trans h.base (Nat.le_trans hT.size ht2.size),h.n9⟩,?_⟩
 ·exact ht2.heap a3 (by simp; exact ⟨fun e=>d73 e.symm,fun e=>d103 e.symm⟩)
 ·rw [blk_other d710,blk_set a7]; rfl
 ·exact ht2.heap a8 (by simp; exact ⟨fun e=>d78 e.symm,fun e=>d108 e.symm⟩)
 ·exact ht2.heap a9 (by simp; exact ⟨fun e=>d79 e.symm,d910⟩)
 ·have:(w1.setCell ⟨b7,0,none⟩ v1).heap[b10]?=some (.cells #[.bool false] 4 (0,0)):=by rw [blk_other (fun e=>d710 e.symm)]; exact a10
  rw [blk_set this]; rfl
 ·obtain ⟨cs,hc⟩:=ownPair hR hg
  simp only [List.mem_cons,List.not_mem_nil,or_false] at hm
  rcases hm with rfl | rfl
  ·exact type_ne hc a7 (by decide) rfl
  ·exact type_ne hc a10 (by decide) rfl
 ·exact (hT.mono fun x hx=>by simp [hx]).trans (ht2.mono fun x hx=>by simp only [List.mem_cons,List.not_mem_nil,or_false] at hx; rcases hx with rfl | rfl <;> simp)
section
variable {B:Nat} {w:World} {b3 b7 b8 b9 b10:Nat} {v:Value} {l:List (Int × Int)}
end
end Go.Proofs.YtloljphbdfjgdaaGreatDoor
/- TrieLong's known. (Written by tools/gen/genknown.py.) -/
namespace Go.Proofs.YtloljphbdfjgdaaGreatDoor
open Go.RowKit
set_option maxRecDepth 100000 in
set_option maxHeartbeats 1000000 in
theorem cKnown {w:World} (hTab:Tab w) (hPos:0 < w.heap.size):Calls Tryz.prog 5 #[] w fun e w'=>e=.returned (.bool true)∧Turned [] w w':=by
 have HTab:Hid (Tab w∧0 < w.heap.size):=⟨hTab,hPos⟩
 have HN:Hid (∀ x:World,0 < x.heap.size→Calls Tryz.prog 6 #[.int .i64 9] x fun e w'=>∃ p F,e=.returned (.tuple #[.pointer (some ⟨p,0,none⟩),.int .i64 0])∧Turned [] x w'∧PoolAt w' p F (PSt.new 9)∧∀ z,z∈F→x.heap.size≤z):=fun x hx=>by
  first
  | exact poolLaws.new x 9 (by decide) (by decide)
  | exact poolLaws.new x 9 (by decide) (by decide) hx
 clear hTab hPos
 go_enter Tryz.func5,Tryz.ntmps5
 go_wp2_with (first
  | (go_at_call 6; refine (HN.out _ HTab.out.2).mono ?_; rintro e w1 ⟨p,F,rfl,ht1,hA1,hF1⟩; have T1:Hid (Turned [] w w1):=ht1; have A1:Hid (PoolAt w1 p F (PSt.new 9)):=hA1; have F1:Hid (∀ z,z∈F→w.heap.size≤z):=hF1; clear ht1 hA1 hF1)
  | (go_at_call 7; refine (cNum _ _).mono ?_; rintro e w' ⟨rfl,hw⟩; obtain rfl:=hw.symm)
  | (go_at_call 8; refine (cTrieNew _ p (Tab.keep HTab.out.1 T1.out (by simp))).mono ?_; rintro e w2 ⟨tb,rfl,ht2,hb2,hs2⟩; have T2:Hid (Turned [] w w2):=T1.out.trans ht2; have A2:Hid (PoolAt w2 p F (PSt.new 9)):=A1.out.still ht2; have B2:Hid (TrieB w2 tb p):=hb2; have Z2:Hid (0∉F):=(fun hm=>by have:=F1.out 0 hm; have:=HTab.out.2; omega); have N2:Hid (tb∉F):=(poolAt_other A2.out hb2.blk (by decide)); clear ht2 hb2 hs2)
  | (go_at_call 19; refine (kput (o:=none) (o':=kt1) (n:=1) (gone:=[]) (k:=5) (v:=50) B2.out A2.out (PV.new (n:=9) (by decide) (by decide)) (by decide) Z2.out (Holds.none _) (by decide) (by decide) ke1 (by decide)).mono ?_; rintro e w3 ⟨old1,had1,ga1,gc1,ma1,mc1,s1,F3,rfl,ht3,hA3,h03,hW3,hn3,hM3,hH3,-,-⟩; simp only [Tr.hd]; have T3:Hid (Turned [] w w3):=T2.out.inner ht3 (fun z hz=>.inr (F1.out z hz)); have A3:Hid (PoolAt w3 p F3 s1):=hA3; have Z3:Hid (0∉F3):=h03; have F3':Hid (∀ z,z∈F3→w.heap.size≤z):=(fun z hz=>by rcases hW3 z hz with h | h; exact F1.out z h; exact Nat.le_trans T2.out.size h); have M3:Hid (MK (PSt.new 9) (List.range' 1 9) 0 1 s1):=hM3; have H3:Hid (Holds s1 (some kt1)):=hH3; have B3:Hid (TrieB w3 tb p):=B2.out.keep ht3 N2.out Z2.out; have N3:Hid (tb∉F3):=hn3; clear ht3 hA3 h03 hW3 hn3 hM3 hH3 A2 B2)
  | (go_at_call 19; refine (kput (o:=some kt1) (o':=kt2) (n:=2) (gone:=[]) (k:=7) (v:=70) (B3.out.still ((Turned.refl [] _).alloc _)) (A3.out.still ((Turned.refl [] _).alloc _)) M3.out.pv (by decide) Z3.out H3.out (by decide) (by decide) (ke2 M3.out) (by decide)).mono ?_; rintro e w4 ⟨old2,had2,ga2,gc2,ma2,mc2,s2,F4,rfl,ht4,hA4,h04,hW4,hn4,hM4,hH4,-,-⟩; simp only [Tr.hd]; have T4:Hid (Turned [] w w4):=(T3.out.alloc _).inner ht4 (fun z hz=>.inr (F3'.out z hz)); have A4:Hid (PoolAt w4 p F4 s2):=hA4; have Z4:Hid (0∉F4):=h04; have F4':Hid (∀ z,z∈F4→w.heap.size≤z):=(fun z hz=>by rcases hW4 z hz with h | h; exact F3'.out z h; have:=T3.out.size; simp at h; omega); have M4:Hid (MK s1 ((List.range' 1 9).drop 1) (0+1) 2 s2):=hM4; have H4:Hid (Holds s2 (some kt2)):=hH4; have B4:Hid (TrieB w4 tb p):=(B3.out.still ((Turned.refl [] _).alloc _)).keep ht4 N3.out Z3.out; have N4:Hid (tb∉F4):=hn4; have xa4:w4.heap[w3.heap.size]?=some (kbox 1099511627777 old1 had1 ga1 0 gc1 ma1 1 mc1):=box_keep (blk_new w3 _) (A3.out.still ((Turned.refl [] _).alloc _)) (by decide) ht4; have ca4:w4.cell? ⟨w3.heap.size,0,none⟩=some (.int .i64 1099511627777):=cell_at xa4 0; have XA4:Hid _:=xa4; have l4:w3.heap.size < w4.heap.size:=lt_of_heap xa4; clear ht4 hA4 h04 hW4 hn4 hM4 hH4 xa4 A3 B3)
  | (go_at_call 19; refine (kput (o:=some kt2) (o':=kt3) (n:=3) (gone:=[3298534883329]) (k:=6) (v:=60) (B4.out.still ((Turned.refl [] _).alloc _)) (A4.out.still ((Turned.refl [] _).alloc _)) M4.out.pv (by decide) Z4.out H4.out (by decide) (by decide) (ke3 M3.out M4.out) (by decide)).mono ?_; rintro e w5 ⟨old3,had3,ga3,gc3,ma3,mc3,s3,F5,rfl,ht5,hA5,h05,hW5,hn5,hM5,hH5,hI5,hg5⟩; simp only [Tr.hd]; have T5:Hid (Turned [] w w5):=(T4.out.alloc _).inner ht5 (fun z hz=>.inr (F4'.out z hz)); have A5:Hid (PoolAt w5 p F5 s3):=hA5; have Z5:Hid (0∉F5):=h05; have F5':Hid (∀ z,z∈F5→w.heap.size≤z):=(fun z hz=>by rcases hW5 z hz with h | h; exact F4'.out z h; have:=T4.out.size; simp at h; omega); have M5:Hid (MK s2 (((List.range' 1 9).drop 1).drop 2) (0+1+2) 3 s3):=hM5; have H5:Hid (Holds s3 (some kt3)):=hH5; have B5:Hid (TrieB w5 tb p):=(B4.out.still ((Turned.refl [] _).alloc _)).keep ht5 N4.out Z4.out; have N5:Hid (tb∉F5):=hn5; have I5:Hid _:=hI5; have xa5:w5.heap[w3.heap.size]?=some (kbox 1099511627777 old1 had1 ga1 0 gc1 ma1 1 mc1):=box_keep (blk_old XA4.out _) (A4.out.still ((Turned.refl [] _).alloc _)) (by decide) ht5; have xb5:w5.heap[w4.heap.size]?=some (kbox 3298534883329 old2 had2 ga2 0 gc2 ma2 2 mc2):=box_keep (blk_new w4 _) (A4.out.still ((Turned.refl [] _).alloc _)) (by decide) ht5; have ca5:w5.cell? ⟨w3.heap.size,0,none⟩=some (.int .i64 1099511627777):=cell_at xa5 0; have cb5:w5.cell? ⟨w4.heap.size,0,none⟩=some (.int .i64 3298534883329):=cell_at xb5 0; have XA5:Hid _:=xa5; have XB5:Hid _:=xb5; have l5:w4.heap.size < w5.heap.size:=lt_of_heap xb5; clear ht5 hA5 h05 hW5 hn5 hM5 hH5 hI5 hg5 xa5 xb5 A4 B4)
  | (go_at_call 20; refine (cPack _ _ _).mono ?_; rintro e w' ⟨rfl,hw⟩; obtain rfl:=hw.symm; first | rw [pk1.1,pk1.2] | rw [pk2.1,pk2.2] | rw [pk3.1,pk3.2])
  | (go_at_call 21; refine (cReadH (A5.out.still ((Turned.refl [] _).alloc _)) M5.out.pv.ok (show Ct s3 3298534883329 ⟨258,1099511627777,2199023255553,2⟩ from M5.out.ct _ _ (H4.out.rep kt2 rfl).top)).mono ?_; rintro e w6 ⟨rfl,ht6⟩; have T6:Hid (Turned [] w5 w6):=(((Turned.refl [] _).alloc _).trans ht6); have xc6:w6.heap[w5.heap.size]?=some (kbox 6597069766657 old3 had3 ga3 1 gc3 ma3 3 mc3):=ht6.heap (blk_new w5 _) (by simp); have ca6:w6.cell? ⟨w3.heap.size,0,none⟩=some (.int .i64 1099511627777):=T6.out.cell ca5 (by simp); have cb6:w6.cell? ⟨w4.heap.size,0,none⟩=some (.int .i64 3298534883329):=T6.out.cell cb5 (by simp); have cc0:w6.cell? ⟨w5.heap.size,0,none⟩=some (.int .i64 6597069766657):=cell_at xc6 0; have cc3:w6.cell? ⟨w5.heap.size,3,none⟩=some (.slice ga3 1 gc3):=cell_at xc6 3; have cc4:w6.cell? ⟨w5.heap.size,4,none⟩=some (.slice ma3 3 mc3):=cell_at xc6 4; have l6:w5.heap.size < w6.heap.size:=lt_of_heap xc6; have l36:w3.heap.size < w6.heap.size:=(by omega); have l46:w4.heap.size < w6.heap.size:=(by omega); have XC6:Hid _:=xc6; clear ht6 xc6 ca5 cb5 ca4)
  | (go_at_call 22; refine (cIntsI (I5.out.keep ((T6.out.alloc _).alloc _) (by simp)) (IR.lit (B:=0) (blk_new1' _ _ _) (Nat.zero_le _)) (by simp) (by simp)).mono ?_; rintro e w7 ⟨rfl,ht7⟩; have T7:Hid (Turned [] w5 w7):=((T6.out.alloc _).alloc _).trans ht7; have t67:Turned [] w6 w7:=(((Turned.refl [] _).alloc _).alloc _).trans ht7; have cc0':w7.cell? ⟨w5.heap.size,0,none⟩=some (.int .i64 6597069766657):=t67.cell cc0 (by simp); have cc4':w7.cell? ⟨w5.heap.size,4,none⟩=some (.slice ma3 3 mc3):=t67.cell cc4 (by simp); have l7:w5.heap.size < w7.heap.size:=Nat.lt_of_lt_of_le l6 t67.size; clear ht7 t67 cc0 cc4 cc3 T6)
  | (go_at_call 23; refine (kRank (B5.out.still T7.out) (A5.out.still T7.out) M5.out.pv.ok H5.out).mono ?_; rintro e w8 ⟨rfl,ht8⟩; have T8:Hid (Turned [] w5 w8):=T7.out.trans ht8; have cc0_8:w8.cell? ⟨w5.heap.size,0,none⟩=some (.int .i64 6597069766657):=ht8.cell cc0' (by simp); have l8:w5.heap.size < w8.heap.size:=Nat.lt_of_lt_of_le l7 ht8.size; clear ht8 cc0' cc4' T7)
  | (go_at_call 24; refine (kSelect (B5.out.still T8.out) (A5.out.still T8.out) M5.out.pv.ok H5.out).mono ?_; rintro e w9 ⟨rfl,ht9⟩; have T9:Hid (Turned [] w5 w9):=T8.out.trans ht9; have cc0_9:w9.cell? ⟨w5.heap.size,0,none⟩=some (.int .i64 6597069766657):=ht9.cell cc0_8 (by simp); have l9:w5.heap.size < w9.heap.size:=Nat.lt_of_lt_of_le l8 ht9.size; clear ht9 cc0_8 T8)
  | (go_at_call 25; refine (kNext5 (B5.out.still (T9.out.alloc _)) (A5.out.still (T9.out.alloc _)) M5.out.pv.ok H5.out).mono ?_; rintro e wa ⟨rfl,hta⟩; obtain ⟨hsb,hta'⟩:=one_cells hta; have Ta:Hid (Turned [] w5 wa):=T9.out.trans hta'; have SB:Hid (wa.heap[w9.heap.size]?=some (.cells #[.int .i64 6,.int .i64 60] 60 (0,0))):=hsb; have cc0_a:wa.cell? ⟨w5.heap.size,0,none⟩=some (.int .i64 6597069766657):=hta'.cell cc0_9 (by simp); have la:w9.heap.size < wa.heap.size:=lt_of_heap hsb; have la5:w5.heap.size < wa.heap.size:=(by omega); clear hta hta' hsb cc0_9 T9)
  | (go_at_call 25; refine (kNext7 (B5.out.still (Ta.out.alloc _)) (A5.out.still (Ta.out.alloc _)) M5.out.pv.ok H5.out).mono ?_; rintro e wb ⟨rfl,htb⟩; obtain ⟨hqb,htb'⟩:=one_cells htb; have Tb':Hid (Turned [] w5 wb):=Ta.out.trans htb'; have SB2:Hid (wb.heap[w9.heap.size]?=some (.cells #[.int .i64 6,.int .i64 60] 60 (0,0))):=htb'.heap SB.out (by simp); have QB:Hid (wb.heap[wa.heap.size]?=some (.cells #[.int .i64 6,.int .i64 60] 60 (0,0))):=hqb; have cc0_b:wb.cell? ⟨w5.heap.size,0,none⟩=some (.int .i64 6597069766657):=htb'.cell cc0_a (by simp); have lb:wa.heap.size < wb.heap.size:=lt_of_heap hqb; have lb5:w5.heap.size < wb.heap.size:=(by omega); clear htb htb' hqb cc0_a Ta SB)
  | (go_at_call 26; refine (kDrop (B5.out.still (Tb'.out.alloc _)) (A5.out.still (Tb'.out.alloc _)) M5.out.pv (by decide) H5.out (by decide)).mono ?_; rintro e wc ⟨rootd,gad,gcd,mad,mcd,rfl,htc⟩; have Tc:Hid (Turned [] w wc):=(T5.out.trans (Tb'.out.alloc _)).inner htc (fun z hz=>.inr (F5'.out z hz)); have sc:wc.heap[w9.heap.size]?=some (.cells #[.int .i64 6,.int .i64 60] 60 (0,0)):=box_keep (blk_old SB2.out _) (A5.out.still (Tb'.out.alloc _)) (by decide) htc; have qc:wc.heap[wa.heap.size]?=some (.cells #[.int .i64 6,.int .i64 60] 60 (0,0)):=box_keep (blk_old QB.out _) (A5.out.still (Tb'.out.alloc _)) (by decide) htc; obtain ⟨⟨s0,s1'⟩,-⟩:=cells2 sc; obtain ⟨⟨q0,q1⟩,-⟩:=cells2 qc; have lc1:w9.heap.size < wc.heap.size:=lt_of_heap sc; have lc2:wa.heap.size < wc.heap.size:=lt_of_heap qc; clear htc sc qc cc0_b))
 go_ret
 exact ⟨rfl,(Tc.out.alloc _)⟩
end Go.Proofs.YtloljphbdfjgdaaGreatDoor
/- Package trie keeps its laws; package pool's, at a pool that is apart from block 0. -/
namespace Go.Proofs.YtloljphbdfjgdaaGreatDoor
open Go.RowKit
theorem zWider {w:World} {p:Nat} {F F':List Nat} {s:PSt} (h:AtZ w p F s) (hW:Wider F F' w):0∉F':=fun hm=>by
 obtain ⟨⟨sb,pb,nb,L,hp,rfl⟩,h0⟩:=h
 have:=lt_of_heap hp.pool
 rcases hW 0 hm with h | h
 ·exact h0 h
 ·omega
theorem poolLawsZ:PoolLaws AtZ where
 keep:=fun h ht hl=>⟨poolLaws.keep h.1 ht hl,h.2⟩
 lt:=fun h=>poolLaws.lt h.1
 new:=fun w n h1 h2 h3=>(poolLaws.new w n h1 h2 h3).mono (by
  rintro e w' ⟨p,F,rfl,ht,hA,hF⟩
  exact ⟨p,F,rfl,ht,⟨hA,fun hm=>by have:=hF 0 hm; omega⟩,hF⟩)
 take:=fun h ho hi h0 g0 g1 a b c d link=>(poolLaws.take h.1 ho hi h0 g0 g1 a b c d link).mono (by
  rintro e w' ⟨rfl,ht,F',hA,hW⟩
  exact ⟨rfl,ht,F',⟨hA,zWider h hW⟩,hW⟩)
 takeFull:=fun h ho hi a b c d link=>(poolLaws.takeFull h.1 ho hi a b c d link).mono (by
  rintro e w' ⟨rfl,ht,hA⟩
  exact ⟨rfl,ht,hA,h.2⟩)
 give:=fun h ho h1 h2 g0 g1 g2 hg=>(poolLaws.give h.1 ho h1 h2 g0 g1 g2 hg).mono (by
  rintro e w' ⟨rfl,ht,F',hA,hW⟩
  exact ⟨rfl,ht,F',⟨hA,zWider h hW⟩,hW⟩)
 giveGone:=fun h ho h1 h2 g0 g1 g2 hg=>(poolLaws.giveGone h.1 ho h1 h2 g0 g1 g2 hg).mono (by
  rintro e w' ⟨rfl,ht,hA⟩
  exact ⟨rfl,ht,hA,h.2⟩)
 read:=fun h ho h1 h2 g0 g1 g2 hg=>(poolLaws.read h.1 ho h1 h2 g0 g1 g2 hg).mono (by
  rintro e w' ⟨rfl,ht,hA⟩
  exact ⟨rfl,ht,hA,h.2⟩)
 readGone:=fun h ho h1 h2 g0 g1 g2 hg f0 f1=>(poolLaws.readGone h.1 ho h1 h2 g0 g1 g2 hg f0 f1).mono (by
  rintro e w' ⟨rfl,ht,hA⟩
  exact ⟨rfl,ht,hA,h.2⟩)
 readBad:=fun h ho hb=>(poolLaws.readBad h.1 ho hb).mono (by
  rintro e w' ⟨rfl,ht,hA⟩
  exact ⟨rfl,ht,hA,h.2⟩)
 faults:=fun h=>(poolLaws.faults h.1).mono (by
  rintro e w' ⟨rfl,ht,hA⟩
  exact ⟨rfl,ht,hA,h.2⟩)
 free:=fun h ho hL hN hS=>(poolLaws.free h.1 ho hL hN hS).mono (by
  rintro e w' ⟨he,ht,hA⟩
  exact ⟨he,ht,hA,h.2⟩)
theorem keyOfZ {s:PSt} {o:Option Tr} (h:Holds s o) {i:Nat} (hi:i < (prs o).length):0≤(prs o)[i].1∧(prs o)[i].1≤4294967295:=by
 cases o with
 | none=>simp [prs,Tr.pairsO] at hi
 | some t =>
  have hw:=h.wf t rfl
  have h1:=Tr.pairs_span hw _ (List.getElem_mem hi)
  have h2:=hw.span
  simp only [prs,Tr.pairsO] at *
  omega
theorem trieLaws:TrieLaws AtZ TrieB where
 keepT:=fun h ht h1 h0=>h.keep ht h1 h0
 outT:=fun _ h=>h.2
 ltT:=fun h=>lt_of_heap h.blk
 new:=fun w p hT=>cTrieNew w p hT
 put:=fun hA hT ntb hV hit hH k v=>lawPut hA hT ntb hV hit hH k v
 drop:=fun hA hT ntb hV hit hH k=>lawDrop hA hT ntb hV hit hH k
end Go.Proofs.YtloljphbdfjgdaaGreatDoor

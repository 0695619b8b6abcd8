/- What an iterator gives, gathered: all of it. -/
import Derived.Test.YtcinlaacgbfojaaGreatDoorJ38
import Derived.Conc.MuLone
import Derived.Test.YtcinlaacgbfojaaGreatDoorJ06
import Derived.Test.YtcinlaacgbfojaaGreatDoorJ03
namespace Go.Proofs.YtcinlaacgbfojaaGreatDoor
open Go.RowKit
end Go.Proofs.YtcinlaacgbfojaaGreatDoor
/- What an iterator gives, gathered: all of it. -/
namespace Go.Proofs.YtcinlaacgbfojaaGreatDoor
open Go.RowKit
theorem taker (B b3 b7 b8 b9 b10:Nat) (L:List (Int × Int)) (hL:L.length≤1000000):Taker Tryz.prog L (fun j G w=>∃ v,Gv B w b3 b7 b8 b9 b10 v (L.take j)∧G=b3 :: b7 :: b8 :: b9 :: b10 :: v.ownBlock.toList) 73 #[pt b10,pt b9,pt b8,pt b7,pt b3] where
 ent:=⟨_,_,Tryz.func73,by kernel_rfl,rfl⟩
 keep:=by
  rintro j G w2 l w3 ⟨v,h,rfl⟩ ht hl
  have q:∀ x,x∈b3 :: b7 :: b8 :: b9 :: b10 :: v.ownBlock.toList→x∉l:=fun x hx hm=>hl x hm hx
  exact ⟨v,⟨ht.heap h.c3 (q _ (by simp)),ht.heap h.c7 (q _ (by simp)),ht.heap h.c8 (q _ (by simp)),ht.heap h.c9 (q _ (by simp)),ht.heap h.c10 (q _ (by simp)),h.row.keep ht fun g hg=>q _ (by simp [hg]),Nat.le_trans h.base ht.size,h.n9⟩,rfl⟩
 lt:=by
  rintro j G w2 ⟨v,h,rfl⟩ x hx
  simp only [List.mem_cons,Option.mem_toList] at hx
  rcases hx with rfl | rfl | rfl | rfl | rfl | hx
  ·exact lt_of_heap h.c3
  ·exact lt_of_heap h.c7
  ·exact lt_of_heap h.c8
  ·exact lt_of_heap h.c9
  ·exact lt_of_heap h.c10
  ·exact (h.row.fresh hx).2
 takes:=by
  rintro j hj G w2 ⟨v,h,rfl⟩
  refine (cGive1 h (by simp; omega) L[j].1 L[j].2).mono ?_
  rintro e w3 ⟨rfl,v',h',ht,ho⟩
  refine ⟨rfl,ht.mono fun x hx=>by simp only [List.mem_cons] at hx ⊢; rcases hx with h1 | h1 | h1 <;> simp [h1],_,⟨v',by rw [List.take_succ_eq_append_getElem hj]; exact h',rfl⟩,fun x hx=>?_⟩
  simp only [List.mem_cons,Option.mem_toList] at hx ⊢
  rcases hx with h1 | h1 | h1 | h1 | h1 | h1
  ·exact .inl (.inl h1)
  ·exact .inl (.inr (.inl h1))
  ·exact .inl (.inr (.inr (.inl h1)))
  ·exact .inl (.inr (.inr (.inr (.inl h1))))
  ·exact .inl (.inr (.inr (.inr (.inr (.inl h1)))))
  ·rcases ho with ho | ⟨g,ho,hg⟩
   ·rw [ho] at h1; exact .inl (.inr (.inr (.inr (.inr (.inr h1)))))
   ·rw [ho] at h1; cases h1; exact .inr hg
theorem heap_al (w:World) (o:Obj) (k:Nat):(w.alloc o).heap[k]?=if k=w.heap.size then some o else w.heap[k]?:=by
 by_cases e:k=w.heap.size
 ·rw [if_pos e,e]; exact blk_new w o
 ·rw [if_neg e]
  by_cases z:k < w.heap.size
  ·exact Below.heap_alloc _ _ _ z
  ·rw [Array.getElem?_eq_none (by simp; omega),Array.getElem?_eq_none (by omega)]
theorem size_al (w:World) (o:Obj):(w.alloc o).heap.size=w.heap.size+1:=by simp
section
variable {w:World}
def Gives (w:World) (F:List Nat) (X:World→Prop) (L:List (Int × Int)) (fn:FuncId) (caps:Array Value):Prop :=
 ∀ (w1:World),Turned [] w w1→X w1→∀ (J:Nat→List Nat→World→Prop) (fy:FuncId) (cy:Array Value) (G:List Nat),Taker Tryz.prog L J fy cy→J 0 G w1→(∀ x,x∈G→x∉F∧w.heap.size≤x) →
  Calls Tryz.prog fn (#[.func (.func fy) #[] cy] ++ caps) w1 fun e w2=>e=.returned (.tuple #[])∧Turned (F ++ G) w1 w2∧X w2∧∃ G',J L.length G' w2∧Wider G G' w1
set_option maxRecDepth 100000 in
set_option maxHeartbeats 1600000 in
theorem cGivenAll {F:List Nat} {X:World→Prop} {L:List (Int × Int)} {fn:FuncId} {caps:Array Value} (hX:X w) (hkX:∀ w1 w2,X w1→Turned [] w1 w2→X w2) (hF:∀ x,x∈F→x < w.heap.size) (hE:Enterable Tryz.prog fn) (hG:Gives w F X L fn caps) (hL:L.length≤1000000) :
  Calls Tryz.prog 36 #[.func (.func fn) #[] caps,.int .i64 (-1)] w fun e w'=>∃ v,e=.returned (.tuple #[v,.int .i64 0,.bool true])∧PR w.heap.size w' v L∧Turned F w w'∧X w':=by
 have hmf:∀ (fn:Fn) (first cap:Array Value) (w:World),(Instr.makeFunc fn first cap).run Tryz.prog w=.ok (.func fn first cap) w:=fun _ _ _ _=>rfl
 have hnf:∀ (fn:Fn) (first cap:Array Value) (w:World),(binOp .eql 116 (.func fn first cap) .nilFunc).run Tryz.prog w=.ok (.bool false) w:=fun _ _ _ _=>by rfl
 have HX:Hid _:=hkX
 have HF:Hid _:=hF
 have HE:Hid _:=hE
 have HG:Hid _:=hG
 have HX0:Hid _:=hX
 clear hX hkX hF hE hG
 go_enter Tryz.func36,Tryz.ntmps36
 go_wp2
 rename_i K hK
 have key:∀ (b8 b9 b10:Nat) (W1:World),Gv w.heap.size W1 w.heap.size (w.heap.size+1) b8 b9 b10 (.slice none 0 0) []→Turned [] w W1→w.heap.size≤b8→w.heap.size≤b9→w.heap.size≤b10 →
   K { tmps:=#[.func (.func fn) #[] caps,.int .i64 (-1),undef,pt w.heap.size,.slice none 0 0,.int .i64 0,.bool false,pt (w.heap.size+1),pt b8,pt b9,pt b10,.func (.func fn) #[] caps,.bool false,.int .i64 (-1),.bool false,undef,undef,undef,undef,undef,undef,undef],defers:=[] } W1:=by
  intro b8 b9 b10 W1 hGv hT n8 n9 n10
  refine hK _ _ ?_
  clear hK K
  have q10:W1.cell? ⟨b10,0,none⟩=some (.bool false):=cell_at hGv.c10 0
  have HV:Hid _:=hGv
  have HC:=HG.out W1 hT (HX.out w W1 HX0.out hT) _ _ _ _ (taker w.heap.size w.heap.size (w.heap.size+1) b8 b9 b10 L hL) ⟨_,by simpa using hGv,rfl⟩ (fun x hx=>by
   simp only [List.mem_cons,Value.ownBlock,Option.toList_none,List.not_mem_nil,or_false] at hx
   have:w.heap.size≤x:=by omega
   exact ⟨fun hm=>by have:=HF.out x hm; omega,this⟩)
  clear hGv HG
  obtain ⟨fn1,c1,f1,f2,f3⟩:=HE.out
  have hcf:∀ (args:Array Value) (w:World),(callFunc fn args).run Tryz.prog w=.ok (.enter fn args) w:=fun args w=>Go.MuLone.run_callFunc_enter f1 f2 f3 args w
  have HCF:Hid _:=hcf
  clear f1 f2 f3 HE hcf
  go_wp2
  rw [HCF.out,Oper.upon_enter]
  refine HC.mono ?_
  rintro e w2 ⟨rfl,ht2,hx2,G',⟨v2,hG2,hGe⟩,hw2⟩
  clear HC HCF hw2 hGe
  rw [List.take_length] at hG2
  have y7:w2.cell? ⟨w.heap.size+1,0,none⟩=some v2:=cell_at hG2.c7 0
  have y8:w2.cell? ⟨b8,0,none⟩=some (.int .i64 0):=cell_at hG2.c8 0
  have y9:w2.cell? ⟨b9,0,none⟩=some (.bool true):=cell_at hG2.c9 0
  have HP:Hid _:=hG2.row
  have HT2:Hid (Turned F w w2):=(hT.mono (m:=F) (fun x hx=>(by simp at hx))).inner ht2 (fun x hx=>by
   simp only [List.mem_append,List.mem_cons,Value.ownBlock,Option.toList_none,List.not_mem_nil,or_false] at hx
   rcases hx with hx | hx
   ·exact .inl hx
   ·exact .inr (by omega))
  have HX2:Hid _:=hx2
  clear hG2 ht2 hx2
  go_wp2
  go_quiet (fail)
  go_wp2
  go_ret3
  exact ⟨_,rfl,(HP.out.keep (F:=[]) ((Turned.refl _ _).drewN _) (by simp)),HT2.out.drewN _,HX.out _ _ HX2.out ((Turned.refl _ _).drewN _)⟩
 go_region
 all_goals (refine key _ _ _ _ ⟨?_,?_,?_,?_,?_,PR.nil _ _,?_,?_⟩ (Turned.drew (Turned.alloc (Turned.alloc (Turned.alloc (Turned.alloc (Turned.alloc (Turned.refl _ _) _) _) _) _) _)) ?_ ?_ ?_)
 all_goals first
  | omega
  | (show (World.alloc _ _).heap[_]?=_; simp only [heap_al,size_al]; repeat (first | rw [if_pos trivial] | rw [if_pos rfl] | rw [if_neg (by omega)]))
  | (show _≤(World.alloc _ _).heap.size; simp only [size_al]; omega)
end
end Go.Proofs.YtcinlaacgbfojaaGreatDoor
/- Drawn regions of the statements' 'changed'. (Written by tools/gen/gentrie.py.) -/
namespace Go.Proofs.YtcinlaacgbfojaaGreatDoor
open Go.RowKit
section
variable {At:World→Nat→List Nat→PSt→Prop} (PL:PoolLaws At) {K:Act→World→Prop} {Q:Exit→Act→World→Prop} {a0:Act} {w:World} {p bc eb:Nat} {F:List Nat} {s:PSt} {St:List Nat} {it:Nat} {of key val root old n:Int} {had:Bool} {gv:Value} {ma:Option Addr} {ml mc:Nat}
include PL
def chgV14 (p bc eb:Nat) (St:List Nat) (old n:Int) (had:Bool) (ma:Option Addr) (ml mc:Nat):Option (Option Addr × Nat)→Nat→Value:=fun g i=>match i with | 0=>(pa bc 3) | 1=>(Value.bool false) | 2=>(Value.bool false) | 3=>undef | 4=>undef | 5=>(Value.bool false) | 6=>(Value.bool false) | 7=>(pa eb 2) | 8=>(Value.bool had) | 9=>(Value.bool had) | 10=>(Value.bool false) | 11=>(Value.bool false) | 12=>(Value.bool false) | 13=>(pa eb 1) | 14=>(Value.int IntKind.i64 old) | 15=>(Value.int IntKind.i64 old) | 16=>(Value.bool false) | 17=>(Value.bool false) | 18=>(Value.bool false) | 19=>(pt p) | 20=>(match g with | some y=>Value.slice y.1 St.length y.2 | none=>undef) | 21=>(Value.int IntKind.i64 St.length) | 22=>(Value.int IntKind.i64 n) | 23=>(pa eb 4) | 24=>(Value.slice ma ml mc) | 25=>(Value.int IntKind.i64 ml) | 26=>(Value.int IntKind.i64 (n - ml)) | 27=>(Value.bool false) | 28=>(Value.bool false) | _=>undef
end
end Go.Proofs.YtcinlaacgbfojaaGreatDoor
/- A drawn region of the statements' 'changed': the next version is made. (Written by tools/gen/gentrie16.py.) -/
namespace Go.Proofs.YtcinlaacgbfojaaGreatDoor
open Go.RowKit
theorem PR.isSl {B:Nat} {w:World} {v:Value} {l:List (Int × Int)} (h:PR B w v l):∃ a c,v=.slice a l.length c:=by
 rcases h.form with ⟨rfl,rfl⟩ | ⟨g,c,cs,rfl,_⟩
 ·exact ⟨_,_,rfl⟩
 ·exact ⟨_,_,rfl⟩
structure G16 where
 v:Option Value
 nb:Option Nat
 st:Bool
def done16 (g:G16):Nat→Bool
 | 9=>g.v.isSome
 | 11=>g.nb.isSome
 | 12=>g.st
 | _=>false
def verObj (root:Int) (v:Value):Obj:=.cells #[.int .i64 root,v] 46 (0,0)
structure S16 (w:World) (root:Int) (l:List (Int × Int)) (g:G16) (x:World):Prop where
 turned:Turned [] w x
 v:∀ v,g.v=some v→PR w.heap.size x v l
 nb:∀ nb,g.nb=some nb→w.heap.size≤nb∧x.heap[nb]?=some (if g.st=true then verObj root (g.v.getD undef) else verObj 0 (.slice none 0 0))
section
variable {K:Act→World→Prop} {Q:Exit→Act→World→Prop} {a0:Act} {w:World} {bv bc eb B:Nat} {of key val root root' old:Int} {dr had:Bool} {gv mv lv:Value} {l:List (Int × Int)}
def chgV16 (bv bc eb:Nat) (root key val:Int) (lv:Value) (g:G16):Nat→Value:=fun i=>match i with | 0=>(pa eb 0) | 1=>(Value.int IntKind.i64 root) | 2=>(pa bv 1) | 3=>lv | 4=>(pa bc 1) | 5=>(Value.int IntKind.i64 key) | 6=>(pa bc 2) | 7=>(Value.int IntKind.i64 val) | 8=>(Value.agg #[Value.int IntKind.i64 key,Value.int IntKind.i64 val]) | 9=>(g.v.getD undef) | 10=>(Value.agg #[Value.int IntKind.i64 root,g.v.getD undef]) | 11=>(pa (g.nb.getD 0) 0) | 12=>undef | _=>undef
end
end Go.Proofs.YtcinlaacgbfojaaGreatDoor
/- A drawn region of the statements' 'changed': nothing was changed. (Written by tools/gen/gentrie13.py.) -/
namespace Go.Proofs.YtcinlaacgbfojaaGreatDoor
open Go.RowKit
theorem edit_set {w:World} {b:Nat} {x0 x1 x2 x3 x4 y0 y1 y2 y3 y4:Value} (h:w.heap[b]?=some (.cells #[x0,x1,x2,x3,x4] 39 (0,0))) :
  (((((w.setCell ⟨b,0,none⟩ y0).setCell ⟨b,1,none⟩ y1).setCell ⟨b,2,none⟩ y2).setCell ⟨b,3,none⟩ y3).setCell ⟨b,4,none⟩ y4).heap[b]?=some (.cells #[y0,y1,y2,y3,y4] 39 (0,0)):=by
 rw [blk_set (blk_set (blk_set (blk_set (blk_set h 0 y0) 1 y1) 2 y2) 3 y3) 4 y4]
 rfl
theorem edit_turned (w:World) (b:Nat) (y0 y1 y2 y3 y4:Value):Turned [b] w (((((w.setCell ⟨b,0,none⟩ y0).setCell ⟨b,1,none⟩ y1).setCell ⟨b,2,none⟩ y2).setCell ⟨b,3,none⟩ y3).setCell ⟨b,4,none⟩ y4) :=
 ((((((Turned.refl _ _).set (.inl (by simp)) _ _).set (.inl (by simp)) _ _).set (.inl (by simp)) _ _).set (.inl (by simp)) _ _).set (.inl (by simp)) _ _)
def done13 (g:Option (Option Addr × Nat) × Bool):Nat→Bool
 | 4=>g.1.isSome
 | 25=>g.2
 | _=>false
structure S13 (At:World→Nat→List Nat→PSt→Prop) (w:World) (p bz:Nat) (F:List Nat) (s:PSt) (E:Obj) (g:Option (Option Addr × Nat) × Bool) (x:World):Prop where
 at_:At x p F s
 turned:Turned (F ++ [bz]) w x
 set:g.2=true→x.heap[bz]?=some E
 old:g.2=false→x.heap[bz]?=some (.cells #[.int .i64 0,.int .i64 0,.bool false,.slice none 0 0,.slice none 0 0] 39 (0,0))
section
variable {At:World→Nat→List Nat→PSt→Prop} (PL:PoolLaws At) {K:Act→World→Prop} {Q:Exit→Act→World→Prop} {a0:Act} {w:World} {p bz eb:Nat} {F:List Nat} {s:PSt} {St:List Nat} {it:Nat} {old n:Int} {had:Bool} {ga ma:Option Addr} {gc mc:Nat}
include PL
def chgV13 (p eb:Nat) (St:List Nat) (old n:Int) (had:Bool) (ga ma:Option Addr) (gc mc:Nat):Option (Option Addr × Nat) × Bool→Nat→Value:=fun g i=>match i with | 0=>(Value.agg #[.int .i64 0,.int .i64 old,.bool had,.slice ga 0 gc,.slice ma 0 mc]) | 1=>(Value.bool true) | 2=>(Value.bool true) | 3=>(pt p) | 4=>(match g.1 with | some y=>Value.slice y.1 St.length y.2 | none=>undef) | 5=>(Value.int IntKind.i64 St.length) | 6=>(Value.int IntKind.i64 n) | 7=>(Value.bool true) | 8=>(Value.bool true) | 9=>(Value.bool true) | 10=>(pa eb 0) | 11=>(Value.int IntKind.i64 0) | 12=>(Value.bool true) | 13=>(Value.bool true) | 14=>(Value.bool true) | 15=>(pa eb 3) | 16=>(Value.slice ga 0 gc) | 17=>(Value.int IntKind.i64 0) | 18=>(pa eb 4) | 19=>(Value.slice ma 0 mc) | 20=>(Value.int IntKind.i64 0) | 21=>(Value.int IntKind.i64 0) | 22=>(Value.bool true) | 23=>(Value.bool true) | 24=>(Value.pointer none) | 25=>undef | 26=>(Value.bool true) | _=>undef
end
end Go.Proofs.YtcinlaacgbfojaaGreatDoor
/- A frame, spelled out. -/
namespace Go.Proofs.YtcinlaacgbfojaaGreatDoor
open Go.RowKit
def lit178 (c:Nat→Value):Array Value:=#[c 0,c 1,c 2,c 3,c 4,c 5,c 6,c 7,c 8,c 9,c 10,c 11,c 12,c 13,c 14,c 15,c 16,c 17,c 18,c 19,c 20,c 21,c 22,c 23,c 24,c 25,c 26,c 27,c 28,c 29,c 30,c 31,c 32,c 33,c 34,c 35,c 36,c 37,c 38,c 39,c 40,c 41,c 42,c 43,c 44,c 45,c 46,c 47,c 48,c 49,c 50,c 51,c 52,c 53,c 54,c 55,c 56,c 57,c 58,c 59,c 60,c 61,c 62,c 63,c 64,c 65,c 66,c 67,c 68,c 69,c 70,c 71,c 72,c 73,c 74,c 75,c 76,c 77,c 78,c 79,c 80,c 81,c 82,c 83,c 84,c 85,c 86,c 87,c 88,c 89,c 90,c 91,c 92,c 93,c 94,c 95,c 96,c 97,c 98,c 99,c 100,c 101,c 102,c 103,c 104,c 105,c 106,c 107,c 108,c 109,c 110,c 111,c 112,c 113,c 114,c 115,c 116,c 117,c 118,c 119,c 120,c 121,c 122,c 123,c 124,c 125,c 126,c 127,c 128,c 129,c 130,c 131,c 132,c 133,c 134,c 135,c 136,c 137,c 138,c 139,c 140,c 141,c 142,c 143,c 144,c 145,c 146,c 147,c 148,c 149,c 150,c 151,c 152,c 153,c 154,c 155,c 156,c 157,c 158,c 159,c 160,c 161,c 162,c 163,c 164,c 165,c 166,c 167,c 168,c 169,c 170,c 171,c 172,c 173,c 174,c 175,c 176,c 177]
end Go.Proofs.YtcinlaacgbfojaaGreatDoor
/- A change of a map, as the statements make it: it is put. -/
namespace Go.Proofs.YtcinlaacgbfojaaGreatDoor
open Go.RowKit
structure ChgPost (At:World→Nat→List Nat→PSt→Prop) (w:World) (p tb:Nat) (F:List Nat) (s:PSt) (St:List Nat) (it:Nat) (o:Option Tr) (l':List (Int × Int)) (e:Ending) (w':World):Prop where
 ex:∃ pv ev s' F' St' it',e=.returned (.tuple #[pv,ev,.bool true])∧Turned F w w'∧At w' p F' s'∧Wider F F' w∧tb∉F'∧Chg s s' St' it it' ∧
  ((pv=.pointer none∧St'.length=St.length∧∃ r od hd ga gl gc ma ml mc,ev=.agg #[.int .i64 r,.int .i64 od,.bool hd,.slice ga gl gc,.slice ma ml mc])∨∃ nb root old had gv mv gone made o' v,pv=pa nb 0∧ev=.agg #[.int .i64 root,.int .i64 old,.bool had,gv,mv]∧w'.heap[nb]?=some (verObj root v)∧w.heap.size≤nb∧nb∉F'∧PR w.heap.size w' v (prs o')∧(∀ g,v.ownBlock=some g→g∉F') ∧
   IR w.heap.size w' gv gone∧(∀ g,gv.ownBlock=some g→g∉F')∧Done s s' St St' o o' root gone made∧prs o'=l'∧IR w.heap.size w' mv made∧(∀ g,mv.ownBlock=some g→g∉F')∧∃ ma ml mc,mv=.slice ma ml mc)
theorem IR.lower {B B':Nat} {w:World} {v:Value} {l:List Int} (h:IR B w v l) (hb:B'≤B):IR B' w v l:=by
 refine ⟨h.own.1,?_⟩
 rcases h.own.2 with h0 | ⟨g,c,cs,h1,h2,h3⟩
 ·exact .inl h0
 ·exact .inr ⟨g,c,cs,h1,Nat.le_trans hb h2,h3⟩
section
variable {At:World→Nat→List Nat→PSt→Prop} {Tb:World→Nat→Nat→Prop} (PL:PoolLaws At) (TL:TrieLaws At Tb) {w:World} {tb p:Nat} {F:List Nat} {s:PSt} {St:List Nat} {it B:Nat} {o:Option Tr} {lv:Value}
include PL TL
end
end Go.Proofs.YtcinlaacgbfojaaGreatDoor
/- Drawn regions of the statements' 'changed', of a drop. (Written by tools/gen/gentried.py.) -/
namespace Go.Proofs.YtcinlaacgbfojaaGreatDoor
open Go.RowKit
section
variable {At:World→Nat→List Nat→PSt→Prop} (PL:PoolLaws At) {K:Act→World→Prop} {Q:Exit→Act→World→Prop} {a0:Act} {w:World} {p bc eb:Nat} {F:List Nat} {s:PSt} {St:List Nat} {it:Nat} {of key val root old n:Int} {gv:Value} {ma:Option Addr} {ml mc:Nat}
include PL
def chgV14d (p bc eb:Nat) (St:List Nat) (old n:Int) (ma:Option Addr) (ml mc:Nat):Option (Option Addr × Nat)→Nat→Value:=fun g i=>match i with | 0=>(pa bc 3) | 1=>(Value.bool true) | 2=>(Value.bool true) | 3=>(Value.bool true) | 4=>(Value.bool false) | 5=>(Value.bool false) | 6=>(Value.bool false) | 7=>(pa eb 2) | 8=>(Value.bool true) | 9=>(Value.bool true) | 10=>(Value.bool false) | 11=>(Value.bool false) | 12=>(Value.bool false) | 13=>(pa eb 1) | 14=>(Value.int IntKind.i64 old) | 15=>(Value.int IntKind.i64 old) | 16=>(Value.bool false) | 17=>(Value.bool false) | 18=>(Value.bool false) | 19=>(pt p) | 20=>(match g with | some y=>Value.slice y.1 St.length y.2 | none=>undef) | 21=>(Value.int IntKind.i64 St.length) | 22=>(Value.int IntKind.i64 n) | 23=>(pa eb 4) | 24=>(Value.slice ma ml mc) | 25=>(Value.int IntKind.i64 ml) | 26=>(Value.int IntKind.i64 (n - ml)) | 27=>(Value.bool false) | 28=>(Value.bool false) | _=>undef
end
end Go.Proofs.YtcinlaacgbfojaaGreatDoor
/- A change of a map, as the statements make it: it is dropped. -/
namespace Go.Proofs.YtcinlaacgbfojaaGreatDoor
open Go.RowKit
section
variable {At:World→Nat→List Nat→PSt→Prop} {Tb:World→Nat→Nat→Prop} (PL:PoolLaws At) (TL:TrieLaws At Tb) {w:World} {tb p:Nat} {F:List Nat} {s:PSt} {St:List Nat} {it B:Nat} {o:Option Tr} {lv:Value}
include PL TL
end
end Go.Proofs.YtcinlaacgbfojaaGreatDoor
/- A frame, spelled out. -/
namespace Go.Proofs.YtcinlaacgbfojaaGreatDoor
open Go.RowKit
def lit299 (c:Nat→Value):Array Value:=#[c 0,c 1,c 2,c 3,c 4,c 5,c 6,c 7,c 8,c 9,c 10,c 11,c 12,c 13,c 14,c 15,c 16,c 17,c 18,c 19,c 20,c 21,c 22,c 23,c 24,c 25,c 26,c 27,c 28,c 29,c 30,c 31,c 32,c 33,c 34,c 35,c 36,c 37,c 38,c 39,c 40,c 41,c 42,c 43,c 44,c 45,c 46,c 47,c 48,c 49,c 50,c 51,c 52,c 53,c 54,c 55,c 56,c 57,c 58,c 59,c 60,c 61,c 62,c 63,c 64,c 65,c 66,c 67,c 68,c 69,c 70,c 71,c 72,c 73,c 74,c 75,c 76,c 77,c 78,c 79,c 80,c 81,c 82,c 83,c 84,c 85,c 86,c 87,c 88,c 89,c 90,c 91,c 92,c 93,c 94,c 95,c 96,c 97,c 98,c 99,c 100,c 101,c 102,c 103,c 104,c 105,c 106,c 107,c 108,c 109,c 110,c 111,c 112,c 113,c 114,c 115,c 116,c 117,c 118,c 119,c 120,c 121,c 122,c 123,c 124,c 125,c 126,c 127,c 128,c 129,c 130,c 131,c 132,c 133,c 134,c 135,c 136,c 137,c 138,c 139,c 140,c 141,c 142,c 143,c 144,c 145,c 146,c 147,c 148,c 149,c 150,c 151,c 152,c 153,c 154,c 155,c 156,c 157,c 158,c 159,c 160,c 161,c 162,c 163,c 164,c 165,c 166,c 167,c 168,c 169,c 170,c 171,c 172,c 173,c 174,c 175,c 176,c 177,c 178,c 179,c 180,c 181,c 182,c 183,c 184,c 185,c 186,c 187,c 188,c 189,c 190,c 191,c 192,c 193,c 194,c 195,c 196,c 197,c 198,c 199,c 200,c 201,c 202,c 203,c 204,c 205,c 206,c 207,c 208,c 209,c 210,c 211,c 212,c 213,c 214,c 215,c 216,c 217,c 218,c 219,c 220,c 221,c 222,c 223,c 224,c 225,c 226,c 227,c 228,c 229,c 230,c 231,c 232,c 233,c 234,c 235,c 236,c 237,c 238,c 239,c 240,c 241,c 242,c 243,c 244,c 245,c 246,c 247,c 248,c 249,c 250,c 251,c 252,c 253,c 254,c 255,c 256,c 257,c 258,c 259,c 260,c 261,c 262,c 263,c 264,c 265,c 266,c 267,c 268,c 269,c 270,c 271,c 272,c 273,c 274,c 275,c 276,c 277,c 278,c 279,c 280,c 281,c 282,c 283,c 284,c 285,c 286,c 287,c 288,c 289,c 290,c 291,c 292,c 293,c 294,c 295,c 296,c 297,c 298]
set_option maxRecDepth 100000 in
theorem lit299_eq (c:Nat→Value):lit299 c=((List.range 299).map c).toArray:=by rfl
theorem expand299 {a:Act} (hs:a.tmps.size=299) (hd:a.defers=[]):∃ c:Nat→Value,a=⟨lit299 c,[]⟩∧∀ s,c s=a.eval (.tmp s):=by
 refine ⟨fun s=>a.tmps.getD s undef,?_,fun s=>rfl⟩
 obtain ⟨t,d⟩:=a
 simp only at hs hd
 subst hd
 congr 1
 rw [lit299_eq]
 refine Array.ext (by simp [hs]) fun i h1 h2=>?_
 simp [Array.getD,h1]
end Go.Proofs.YtcinlaacgbfojaaGreatDoor
/- Drawn regions of the statements' 'tells'. (Written by tools/gen/gentells.py.) -/
namespace Go.Proofs.YtcinlaacgbfojaaGreatDoor
open Go.RowKit
theorem x_extract {ρ:Operand→Value} {o:Oper} {w:World} {x:Operand} {k:Nat} {vs:Array Value} {v:Value} (h:o.op=.extract x k) (hx:ρ x=.tuple vs) (hv:vs[k]?=some v):(execOp ρ o).run Tryz.prog w=.ok (.value v) w:=by
 simp [execOp,h,hx,Instr.extract,hv]
structure TW (At:World→Nat→List Nat→PSt→Prop) (Tb:World→Nat→Nat→Prop) (W:World) (S p tb:Nat) (F:List Nat) (s:PSt) (tr:Option Tr) (lg lc:Nat) (x:World):Prop where
 at_:At x p F s
 tb_:Tb x tb p
 ntb:tb∉F
 box:x.heap[S]?=some (verObj (rootO tr) (.slice (some ⟨lg,0,none⟩) (prs tr).length lc))
 nS:S∉F
 row:PR 0 x (.slice (some ⟨lg,0,none⟩) (prs tr).length lc) (prs tr)
 nl:lg∉F
 turned:Turned F W x
section
variable {At:World→Nat→List Nat→PSt→Prop} {Tb:World→Nat→Nat→Prop} (PL:PoolLaws At) (TL:TrieLaws At Tb) {K:Act→World→Prop} {Q:Exit→Act→World→Prop} {a0:Act} {W w x y:World} {S p tb lg lc i:Nat} {F:List Nat} {s:PSt} {tr:Option Tr} {k v:Int}
include PL TL
omit PL in
theorem TW.step (h:TW At Tb W S p tb F s tr lg lc x) (ht:Turned F x y) (hA:At y p F s):TW At Tb W S p tb F s tr lg lc y :=
 ⟨hA,TL.keepT h.tb_ ht h.ntb (TL.outT h.tb_ h.at_),h.ntb,ht.heap h.box h.nS,h.nS,h.row.keep ht (fun g hg=>by simp only [Value.ownBlock,Option.some.injEq] at hg; subst hg; exact h.nl),h.nl,h.turned.trans ht⟩
theorem TW.fresh (h:TW At Tb W S p tb F s tr lg lc x) (ht:Turned [] x y):TW At Tb W S p tb F s tr lg lc y:=h.step TL (ht.mono (by simp)) (PL.keep h.at_ ht (by simp))
omit PL TL in
theorem TW.cells (h:TW At Tb W S p tb F s tr lg lc x) (hi:i < (prs tr).length):x.cell? ⟨lg,i * 2,none⟩=some (.int .i64 (prs tr)[i].1)∧x.cell? ⟨lg,i * 2+1,none⟩=some (.int .i64 (prs tr)[i].2):=by
 rcases h.row.form with ⟨e,_⟩ | ⟨g,c,cs,e,_,_,_,_,hc⟩
 ·cases e
 ·cases e; exact hc i hi
omit PL TL in
theorem key_of (hO:Holds s tr) (hi:i < (prs tr).length):isKey (prs tr)[i].1:=by
 cases tr with
 | none=>simp [prs,Tr.pairsO] at hi
 | some t =>
  have h1:=(hO.wf t rfl).mem _ (List.getElem_mem hi)
  have h2:=(hO.wf t rfl).span
  exact ⟨by omega,by omega⟩
omit PL TL in
theorem rank_self {l:List (Int × Int)} (h:Rise l) (hi:i < l.length):rankL l l[i].1=i∧getL l l[i].1=some l[i].2:=by
 induction l generalizing i with
 | nil=>simp at hi
 | cons z l ih =>
  obtain ⟨h1,h2⟩:=List.pairwise_cons.1 h
  cases i with
  | zero =>
   have e:¬ z.1 < z.1:=Int.lt_irrefl _
   refine ⟨(rank_stop (l:=l) e).1,?_⟩
   simp [getL]
  | succ i =>
   have hi':i < l.length:=by simpa using hi
   have hz:=h1 _ (List.getElem_mem hi')
   obtain ⟨e1,e2,_⟩:=rank_go (l:=l) hz
   obtain ⟨i1,i2⟩:=ih h2 hi'
   simp only [List.getElem_cons_succ]
   exact ⟨by rw [e1,i1],by rw [e2,i2]⟩
def telV11 (tb S lg lc i:Nat) (tr:Option Tr) (k v:Int):Nat→Value:=fun j=>match j with | 0=>(pt tb) | 1=>(pa S 0) | 2=>(Value.int IntKind.i64 (rootO tr)) | 3=>(Value.slice (some ⟨lg,0,none⟩) (prs tr).length lc) | 4=>(Value.int IntKind.i64 i) | 5=>(pa lg (i * 2)) | 6=>(pa lg (i * 2)) | 7=>(Value.int IntKind.i64 k) | 8=>(Value.tuple #[.int .i64 v,.bool true,.int .i64 0]) | 9=>(Value.tuple #[.int .i64 v,.bool true,.int .i64 0]) | 10=>(Value.int IntKind.i64 v) | 11=>(Value.bool true) | 12=>(Value.int IntKind.i64 0) | 13=>(Value.int IntKind.i64 v) | 14=>(Value.bool true) | 15=>(Value.int IntKind.i64 0) | _=>undef
set_option maxRecDepth 100000 in
set_option maxHeartbeats 1600000 in
theorem tel_r11 (hs:a0.tmps.size=299) (x0:a0.eval (.tmp 0)=pt tb) (x5:a0.eval (.tmp 5)=pa S 0) (x9:a0.eval (.tmp 9)=(Value.slice (some ⟨lg,0,none⟩) (prs tr).length lc)) (x18:a0.eval (.tmp 18)=.int .i64 i) (hW:TW At Tb W S p tb F s tr lg lc w) (hix:i < (prs tr).length) (hk:k=(prs tr)[i].1) (hv_:v=(prs tr)[i].2) (hO:Holds s tr) (hok:s.Ok)
  (hEnd:∀ a' x,a'.tmps.size=a0.tmps.size→a'.defers=a0.defers→(∀ s,some s∉([some 106,some 107,some 108,some 109,some 110,some 111,some 112,some 113,some 114,some 105,some 115,some 116,some 117,some 19,some 20,some 21]:List (Option Nat))→a'.eval (.tmp s)=a0.eval (.tmp s))→a'.eval (.tmp 19)=(Value.int IntKind.i64 v)→a'.eval (.tmp 20)=(Value.bool true)→a'.eval (.tmp 21)=(Value.int IntKind.i64 0)→TW At Tb W S p tb F s tr lg lc x→K a' x):(Code.region 11 (opsOf 11 Tryz.f14.body) true).wp Tryz.prog (Exit.then K Q) a0 w:=by
 have hi2:(i:Int) < ((prs tr).length:Int):=by omega
 have hkk:isKey k:=by rw [hk]; exact key_of hO hix
 have hFind:∀ x,At x p F s→Tb x tb p→Calls Tryz.prog 41 #[pt tb,.pointer none,.int .i64 (rootO tr),.int .i64 k] x fun e w'=>e=.returned (.tuple #[.int .i64 v,.bool true,.int .i64 0])∧Turned F x w'∧At w' p F s:=fun x h1 h2=>by
  have:=TL.find h1 hok h2 hW.ntb hO k hkk
  rw [hk,(rank_self hO.rise hix).2,← hk,← hv_] at this
  exact this
 clear hv_
 refine wp_region_ghost3 (G:=Bool) (by kernel_rfl) [some 106,some 107,some 108,some 109,some 110,some 111,some 112,some 113,some 114,some 105,some 115,some 116,some 117,some 19,some 20,some 21] (by rw [hs]; kernel_rfl) (fun _=>telV11 tb S lg lc i tr k v) [8] ?_ (fun g _=>g) (fun _ x=>TW At Tb W S p tb F s tr lg lc x) (false) (hW.fresh PL TL (Turned.refl [] _).drew) (by simp) (by decide) ?_ ?_
 ·exact fun i g b h _=>absurd h (noG (by kernel_rfl) i g b)
 ·intro i hi hgd
  rcases (by simp at hi; omega:i=0∨i=1∨i=2∨i=3∨i=4∨i=5∨i=6∨i=7∨i=8∨i=9∨i=10∨i=11∨i=12∨i=13∨i=14∨i=15) with rfl | rfl | rfl | rfl | rfl | rfl | rfl | rfl | rfl | rfl | rfl | rfl | rfl | rfl | rfl | rfl
  ·refine soft (by decide) ?_
   intro o ac wa g ho hoff hv hS hdn
   exact (x_move (op_is rfl ho)).trans (by rw [((hoff 0 (by decide)).trans x0)]; rfl)
  ·refine soft (by decide) ?_
   intro o ac wa g ho hoff hv hS hdn
   exact x_field (op_is rfl ho) (by rw [((hoff 5 (by decide)).trans x5)]; show (Instr.fieldAt _ (pa _ _) _).run _ _=.ok (pa _ _) _; unfold pa; go_simp)
  ·refine soft (by decide) ?_
   intro o ac wa g ho hoff hv hS hdn
   have hc:=cell_at hS.box 0
   exact x_load (op_is rfl ho) (by rw [(hv 1 107 rfl (by kernel_rfl))]; show (Instr.loadAt _ (pa _ _)).run _ _=_; unfold pa; go_simp; rfl)
  ·refine soft (by decide) ?_
   intro o ac wa g ho hoff hv hS hdn
   exact (x_move (op_is rfl ho)).trans (by rw [((hoff 9 (by decide)).trans x9)]; rfl)
  ·refine soft (by decide) ?_
   intro o ac wa g ho hoff hv hS hdn
   exact (x_move (op_is rfl ho)).trans (by rw [((hoff 18 (by decide)).trans x18)]; rfl)
  ·refine soft (by decide) ?_
   intro o ac wa g ho hoff hv hS hdn
   exact x_index (op_is rfl ho) (by rw [(hv 3 109 rfl (by kernel_rfl)),(hv 4 110 rfl (by kernel_rfl))]; show (Instr.indexAt _ (Value.slice _ _ _) (Value.int _ _)).run _ _=.ok (pa _ _) _; unfold pa; go_simp)
  ·refine soft (by decide) ?_
   intro o ac wa g ho hoff hv hS hdn
   exact x_field (op_is rfl ho) (by rw [(hv 5 111 rfl (by kernel_rfl))]; show (Instr.fieldAt _ (pa _ _) _).run _ _=.ok (pa _ _) _; unfold pa; go_simp)
  ·refine soft (by decide) ?_
   intro o ac wa g ho hoff hv hS hdn
   have hc:=(hS.cells hix).1.trans (by rw [← hk])
   exact x_load (op_is rfl ho) (by rw [(hv 6 112 rfl (by kernel_rfl))]; show (Instr.loadAt _ (pa _ _)).run _ _=_; unfold pa; go_simp; rfl)
  ·intro o ac wa g K ho hd _ hoff hv hS _ hnd _ hK
   have hg:g=false:=hnd (by simp)
   refine l_callE (op_is rfl ho) (xs:=#[pt tb,.pointer none,.int .i64 (rootO tr),.int .i64 k]) (by simp only [List.map_toArray,List.map_cons,List.map_nil]; rw [hv 0 106 rfl (by kernel_rfl),hv 2 108 rfl (by kernel_rfl),hv 7 113 rfl (by kernel_rfl)]; rfl) Tryz.func41 (by kernel_rfl) rfl (hFind wa hS.at_ hS.tb_) ?_
   rintro e w' ⟨rfl,ht,hA'⟩
   refine ⟨_,rfl,?_⟩
   rw [hd]
   refine hK true w' (hS.step TL ht hA') (by simp [hg]) fun j hj hr=>?_
   match j,hr with
   | 0,_=>rfl
   | 1,_=>rfl
   | 2,_=>rfl
   | 3,_=>rfl
   | 4,_=>rfl
   | 5,_=>rfl
   | 6,_=>rfl
   | 7,_=>rfl
   | 8,_=>exact absurd rfl hj
   | 9,_=>rfl
   | 10,_=>rfl
   | 11,_=>rfl
   | 12,_=>rfl
   | 13,_=>rfl
   | 14,_=>rfl
   | 15,_=>rfl
   | k+16,_=>rfl
  ·refine soft (by decide) ?_
   intro o ac wa g ho hoff hv hS hdn
   exact (x_move (op_is rfl ho)).trans (by rw [(hv 8 114 rfl (by kernel_rfl))]; rfl)
  ·refine soft (by decide) ?_
   intro o ac wa g ho hoff hv hS hdn
   exact x_extract (op_is rfl ho) (hv 9 105 rfl (by kernel_rfl)) rfl
  ·refine soft (by decide) ?_
   intro o ac wa g ho hoff hv hS hdn
   exact x_extract (op_is rfl ho) (hv 9 105 rfl (by kernel_rfl)) rfl
  ·refine soft (by decide) ?_
   intro o ac wa g ho hoff hv hS hdn
   exact x_extract (op_is rfl ho) (hv 9 105 rfl (by kernel_rfl)) rfl
  ·refine soft (by decide) ?_
   intro o ac wa g ho hoff hv hS hdn
   exact (x_assign (op_is rfl ho)).trans (by rw [(hv 10 115 rfl (by kernel_rfl))]; rfl)
  ·refine soft (by decide) ?_
   intro o ac wa g ho hoff hv hS hdn
   exact (x_assign (op_is rfl ho)).trans (by rw [(hv 11 116 rfl (by kernel_rfl))]; rfl)
  ·refine soft (by decide) ?_
   intro o ac wa g ho hoff hv hS hdn
   exact (x_assign (op_is rfl ho)).trans (by rw [(hv 12 117 rfl (by kernel_rfl))]; rfl)
 ·intro a' w' g hsz hdf hoff hS hdn hval
  exact hEnd a' w' hsz hdf (fun s hs=>ev_same (hoff s hs)) (hval 13 19 rfl) (hval 14 20 rfl) (hval 15 21 rfl) hS
def telV12 (tb S lg lc i:Nat) (tr:Option Tr) (k:Int):Nat→Value:=fun j=>match j with | 0=>(pt tb) | 1=>(pa S 0) | 2=>(Value.int IntKind.i64 (rootO tr)) | 3=>(Value.slice (some ⟨lg,0,none⟩) (prs tr).length lc) | 4=>(Value.int IntKind.i64 i) | 5=>(pa lg (i * 2)) | 6=>(pa lg (i * 2)) | 7=>(Value.int IntKind.i64 k) | 8=>(Value.tuple #[.int .i64 i,.int .i64 0]) | 9=>(Value.tuple #[.int .i64 i,.int .i64 0]) | 10=>(Value.int IntKind.i64 i) | 11=>(Value.int IntKind.i64 0) | 12=>(Value.int IntKind.i64 i) | 13=>(Value.int IntKind.i64 0) | _=>undef
set_option maxRecDepth 100000 in
set_option maxHeartbeats 1600000 in
theorem tel_r12 (hs:a0.tmps.size=299) (x0:a0.eval (.tmp 0)=pt tb) (x5:a0.eval (.tmp 5)=pa S 0) (x9:a0.eval (.tmp 9)=(Value.slice (some ⟨lg,0,none⟩) (prs tr).length lc)) (x18:a0.eval (.tmp 18)=.int .i64 i) (hW:TW At Tb W S p tb F s tr lg lc w) (hix:i < (prs tr).length) (hk:k=(prs tr)[i].1) (hO:Holds s tr) (hok:s.Ok)
  (hEnd:∀ a' x,a'.tmps.size=a0.tmps.size→a'.defers=a0.defers→(∀ s,some s∉([some 119,some 120,some 121,some 122,some 123,some 124,some 125,some 126,some 127,some 118,some 128,some 129,some 22,some 23]:List (Option Nat))→a'.eval (.tmp s)=a0.eval (.tmp s))→a'.eval (.tmp 22)=(Value.int IntKind.i64 i)→a'.eval (.tmp 23)=(Value.int IntKind.i64 0)→TW At Tb W S p tb F s tr lg lc x→K a' x):(Code.region 12 (opsOf 12 Tryz.f14.body) true).wp Tryz.prog (Exit.then K Q) a0 w:=by
 have hi2:(i:Int) < ((prs tr).length:Int):=by omega
 have hkk:isKey k:=by rw [hk]; exact key_of hO hix
 have hRank:∀ x,At x p F s→Tb x tb p→Calls Tryz.prog 20 #[pt tb,.pointer none,.int .i64 (rootO tr),.int .i64 k] x fun e w'=>e=.returned (.tuple #[.int .i64 i,.int .i64 0])∧Turned F x w'∧At w' p F s:=fun x h1 h2=>by
  have:=TL.rank h1 hok h2 hW.ntb hO k hkk
  rw [hk,(rank_self hO.rise hix).1,← hk] at this
  exact this
 refine wp_region_ghost3 (G:=Bool) (by kernel_rfl) [some 119,some 120,some 121,some 122,some 123,some 124,some 125,some 126,some 127,some 118,some 128,some 129,some 22,some 23] (by rw [hs]; kernel_rfl) (fun _=>telV12 tb S lg lc i tr k) [8] ?_ (fun g _=>g) (fun _ x=>TW At Tb W S p tb F s tr lg lc x) (false) (hW.fresh PL TL (Turned.refl [] _).drew) (by simp) (by decide) ?_ ?_
 ·exact fun i g b h _=>absurd h (noG (by kernel_rfl) i g b)
 ·intro i hi hgd
  rcases (by simp at hi; omega:i=0∨i=1∨i=2∨i=3∨i=4∨i=5∨i=6∨i=7∨i=8∨i=9∨i=10∨i=11∨i=12∨i=13) with rfl | rfl | rfl | rfl | rfl | rfl | rfl | rfl | rfl | rfl | rfl | rfl | rfl | rfl
  ·refine soft (by decide) ?_
   intro o ac wa g ho hoff hv hS hdn
   exact (x_move (op_is rfl ho)).trans (by rw [((hoff 0 (by decide)).trans x0)]; rfl)
  ·refine soft (by decide) ?_
   intro o ac wa g ho hoff hv hS hdn
   exact x_field (op_is rfl ho) (by rw [((hoff 5 (by decide)).trans x5)]; show (Instr.fieldAt _ (pa _ _) _).run _ _=.ok (pa _ _) _; unfold pa; go_simp)
  ·refine soft (by decide) ?_
   intro o ac wa g ho hoff hv hS hdn
   have hc:=cell_at hS.box 0
   exact x_load (op_is rfl ho) (by rw [(hv 1 120 rfl (by kernel_rfl))]; show (Instr.loadAt _ (pa _ _)).run _ _=_; unfold pa; go_simp; rfl)
  ·refine soft (by decide) ?_
   intro o ac wa g ho hoff hv hS hdn
   exact (x_move (op_is rfl ho)).trans (by rw [((hoff 9 (by decide)).trans x9)]; rfl)
  ·refine soft (by decide) ?_
   intro o ac wa g ho hoff hv hS hdn
   exact (x_move (op_is rfl ho)).trans (by rw [((hoff 18 (by decide)).trans x18)]; rfl)
  ·refine soft (by decide) ?_
   intro o ac wa g ho hoff hv hS hdn
   exact x_index (op_is rfl ho) (by rw [(hv 3 122 rfl (by kernel_rfl)),(hv 4 123 rfl (by kernel_rfl))]; show (Instr.indexAt _ (Value.slice _ _ _) (Value.int _ _)).run _ _=.ok (pa _ _) _; unfold pa; go_simp)
  ·refine soft (by decide) ?_
   intro o ac wa g ho hoff hv hS hdn
   exact x_field (op_is rfl ho) (by rw [(hv 5 124 rfl (by kernel_rfl))]; show (Instr.fieldAt _ (pa _ _) _).run _ _=.ok (pa _ _) _; unfold pa; go_simp)
  ·refine soft (by decide) ?_
   intro o ac wa g ho hoff hv hS hdn
   have hc:=(hS.cells hix).1.trans (by rw [← hk])
   exact x_load (op_is rfl ho) (by rw [(hv 6 125 rfl (by kernel_rfl))]; show (Instr.loadAt _ (pa _ _)).run _ _=_; unfold pa; go_simp; rfl)
  ·intro o ac wa g K ho hd _ hoff hv hS _ hnd _ hK
   have hg:g=false:=hnd (by simp)
   refine l_callE (op_is rfl ho) (xs:=#[pt tb,.pointer none,.int .i64 (rootO tr),.int .i64 k]) (by simp only [List.map_toArray,List.map_cons,List.map_nil]; rw [hv 0 119 rfl (by kernel_rfl),hv 2 121 rfl (by kernel_rfl),hv 7 126 rfl (by kernel_rfl)]; rfl) Tryz.func20 (by kernel_rfl) rfl (hRank wa hS.at_ hS.tb_) ?_
   rintro e w' ⟨rfl,ht,hA'⟩
   refine ⟨_,rfl,?_⟩
   rw [hd]
   refine hK true w' (hS.step TL ht hA') (by simp [hg]) fun j hj hr=>?_
   match j,hr with
   | 0,_=>rfl
   | 1,_=>rfl
   | 2,_=>rfl
   | 3,_=>rfl
   | 4,_=>rfl
   | 5,_=>rfl
   | 6,_=>rfl
   | 7,_=>rfl
   | 8,_=>exact absurd rfl hj
   | 9,_=>rfl
   | 10,_=>rfl
   | 11,_=>rfl
   | 12,_=>rfl
   | 13,_=>rfl
   | k+14,_=>rfl
  ·refine soft (by decide) ?_
   intro o ac wa g ho hoff hv hS hdn
   exact (x_move (op_is rfl ho)).trans (by rw [(hv 8 127 rfl (by kernel_rfl))]; rfl)
  ·refine soft (by decide) ?_
   intro o ac wa g ho hoff hv hS hdn
   exact x_extract (op_is rfl ho) (hv 9 118 rfl (by kernel_rfl)) rfl
  ·refine soft (by decide) ?_
   intro o ac wa g ho hoff hv hS hdn
   exact x_extract (op_is rfl ho) (hv 9 118 rfl (by kernel_rfl)) rfl
  ·refine soft (by decide) ?_
   intro o ac wa g ho hoff hv hS hdn
   exact (x_assign (op_is rfl ho)).trans (by rw [(hv 10 128 rfl (by kernel_rfl))]; rfl)
  ·refine soft (by decide) ?_
   intro o ac wa g ho hoff hv hS hdn
   exact (x_assign (op_is rfl ho)).trans (by rw [(hv 11 129 rfl (by kernel_rfl))]; rfl)
 ·intro a' w' g hsz hdf hoff hS hdn hval
  exact hEnd a' w' hsz hdf (fun s hs=>ev_same (hoff s hs)) (hval 12 22 rfl) (hval 13 23 rfl) hS
end
end Go.Proofs.YtcinlaacgbfojaaGreatDoor
/- A drawn region of the statements' 'tells': the next pair. (Written by tools/gen/gentells14.py.) -/
namespace Go.Proofs.YtcinlaacgbfojaaGreatDoor
open Go.RowKit
structure G14 where
 ca:Bool
 nb:Option Nat
 st:Bool
def done14 (g:G14):Nat→Bool
 | 8=>g.ca
 | 12=>g.nb.isSome
 | 13=>g.st
 | _=>false
def pairObj (u v:Int):Obj:=.cells #[.int .i64 u,.int .i64 v] 28 (0,0)
structure S14 (At:World→Nat→List Nat→PSt→Prop) (Tb:World→Nat→Nat→Prop) (W:World) (S p tb:Nat) (F:List Nat) (s:PSt) (tr:Option Tr) (lg lc B:Nat) (u1 u2:Int) (g:G14) (x:World):Prop where
 tw:TW At Tb W S p tb F s tr lg lc x
 size:B≤x.heap.size
 nb:∀ nb,g.nb=some nb→B≤nb∧x.heap[nb]?=some (if g.st=true then pairObj u1 u2 else pairObj 0 0)
section
variable {At:World→Nat→List Nat→PSt→Prop} {Tb:World→Nat→Nat→Prop} (PL:PoolLaws At) (TL:TrieLaws At Tb) {K:Act→World→Prop} {Q:Exit→Act→World→Prop} {a0:Act} {W w x y:World} {S p tb lg lc i B nb:Nat} {F:List Nat} {s:PSt} {tr:Option Tr} {k u1 u2 er:Int}
include PL TL
theorem TW.other (h:TW At Tb W S p tb F s tr lg lc x) (ht:Turned [nb] x y) (hb:B≤nb) (hF:∀ z,z∈F→z < B) (hW:W.heap.size≤B) (hlt:tb < B∧S < B∧lg < B):TW At Tb W S p tb F s tr lg lc y :=
 ⟨PL.keep h.at_ ht (by simp; exact fun hm=>by have:=hF nb hm; omega),TL.keepT h.tb_ ht (by simp; omega) (by have:=TL.ltT h.tb_; simp; omega),h.ntb,ht.heap h.box (by simp; omega),h.nS,h.row.keep ht (fun g hg=>by simp only [Value.ownBlock,Option.some.injEq] at hg; simp; omega),h.nl,h.turned.inner ht (by simp; omega)⟩
def telV14 (tb S lg lc i:Nat) (tr:Option Tr) (k u1 u2 er:Int) (g:G14):Nat→Value:=fun j=>match j with | 0=>(pt tb) | 1=>(pa S 0) | 2=>(Value.int IntKind.i64 (rootO tr)) | 3=>(Value.slice (some ⟨lg,0,none⟩) (prs tr).length lc) | 4=>(Value.int IntKind.i64 i) | 5=>(pa lg (i * 2)) | 6=>(pa lg (i * 2)) | 7=>(Value.int IntKind.i64 k) | 8=>(Value.tuple #[.agg #[.int .i64 u1,.int .i64 u2],.int .i64 er]) | 9=>(Value.tuple #[.agg #[.int .i64 u1,.int .i64 u2],.int .i64 er]) | 10=>(Value.agg #[.int .i64 u1,.int .i64 u2]) | 11=>(Value.int IntKind.i64 er) | 12=>(pa (g.nb.getD 0) 0) | 13=>undef | 14=>(Value.int IntKind.i64 er) | _=>undef
set_option maxRecDepth 100000 in
set_option maxHeartbeats 1600000 in
theorem tel_r14 (hs:a0.tmps.size=299) (x0:a0.eval (.tmp 0)=pt tb) (x5:a0.eval (.tmp 5)=pa S 0) (x9:a0.eval (.tmp 9)=(Value.slice (some ⟨lg,0,none⟩) (prs tr).length lc)) (x18:a0.eval (.tmp 18)=.int .i64 i) (hW:TW At Tb W S p tb F s tr lg lc w) (hix:i < (prs tr).length) (hk:k=(prs tr)[i].1) (hsw:S < w.heap.size)
  (hNext:∀ x,At x p F s→Tb x tb p→Calls Tryz.prog 22 #[pt tb,.pointer none,.int .i64 (rootO tr),.int .i64 k] x fun e w'=>e=.returned (.tuple #[.agg #[.int .i64 u1,.int .i64 u2],.int .i64 er])∧Turned F x w'∧At w' p F s)
  (hEnd:∀ a' x nb,a'.tmps.size=a0.tmps.size→a'.defers=a0.defers→(∀ s,some s∉([some 139,some 140,some 141,some 142,some 143,some 144,some 145,some 146,some 147,some 138,some 148,some 149,some 26,none,some 27]:List (Option Nat))→a'.eval (.tmp s)=a0.eval (.tmp s))→a'.eval (.tmp 26)=pa nb 0→a'.eval (.tmp 27)=.int .i64 er→TW At Tb W S p tb F s tr lg lc x→x.heap[nb]?=some (pairObj u1 u2)→w.heap.size≤nb→K a' x):(Code.region 14 (opsOf 14 Tryz.f14.body) true).wp Tryz.prog (Exit.then K Q) a0 w:=by
 have hi2:(i:Int) < ((prs tr).length:Int):=by omega
 have hF:=PL.lt hW.at_
 have hlt:tb < w.heap.size∧S < w.heap.size∧lg < w.heap.size:=⟨TL.ltT hW.tb_,hsw,(hW.row.fresh rfl).2⟩
 have hWs:=hW.turned.size
 refine wp_region_ghost3 (G:=G14) (by kernel_rfl) [some 139,some 140,some 141,some 142,some 143,some 144,some 145,some 146,some 147,some 138,some 148,some 149,some 26,none,some 27] (by rw [hs]; kernel_rfl) (telV14 tb S lg lc i tr k u1 u2 er) [8,12,13] ?_ (done14) (S14 At Tb W S p tb F s tr lg lc w.heap.size u1 u2) (⟨false,none,false⟩) (⟨hW.fresh PL TL (Turned.refl [] _).drew,Nat.le_refl _,fun nb hnb=>(by cases hnb)⟩) (by intro x hx; simp at hx; rcases hx with rfl | rfl | rfl <;> rfl) (by decide) ?_ ?_
 ·exact fun i g b h _=>absurd h (noG (by kernel_rfl) i g b)
 ·intro i hi hgd
  rcases (by simp at hi; omega:i=0∨i=1∨i=2∨i=3∨i=4∨i=5∨i=6∨i=7∨i=8∨i=9∨i=10∨i=11∨i=12∨i=13∨i=14) with rfl | rfl | rfl | rfl | rfl | rfl | rfl | rfl | rfl | rfl | rfl | rfl | rfl | rfl | rfl
  ·refine soft (by decide) ?_
   intro o ac wa g ho hoff hv hS hdn
   exact (x_move (op_is rfl ho)).trans (by rw [((hoff 0 (by decide)).trans x0)]; rfl)
  ·refine soft (by decide) ?_
   intro o ac wa g ho hoff hv hS hdn
   exact x_field (op_is rfl ho) (by rw [((hoff 5 (by decide)).trans x5)]; show (Instr.fieldAt _ (pa _ _) _).run _ _=.ok (pa _ _) _; unfold pa; go_simp)
  ·refine soft (by decide) ?_
   intro o ac wa g ho hoff hv hS hdn
   have hc:=cell_at hS.tw.box 0
   exact x_load (op_is rfl ho) (by rw [(hv 1 140 rfl (by kernel_rfl))]; show (Instr.loadAt _ (pa _ _)).run _ _=_; unfold pa; go_simp; rfl)
  ·refine soft (by decide) ?_
   intro o ac wa g ho hoff hv hS hdn
   exact (x_move (op_is rfl ho)).trans (by rw [((hoff 9 (by decide)).trans x9)]; rfl)
  ·refine soft (by decide) ?_
   intro o ac wa g ho hoff hv hS hdn
   exact (x_move (op_is rfl ho)).trans (by rw [((hoff 18 (by decide)).trans x18)]; rfl)
  ·refine soft (by decide) ?_
   intro o ac wa g ho hoff hv hS hdn
   exact x_index (op_is rfl ho) (by rw [(hv 3 142 rfl (by kernel_rfl)),(hv 4 143 rfl (by kernel_rfl))]; show (Instr.indexAt _ (Value.slice _ _ _) (Value.int _ _)).run _ _=.ok (pa _ _) _; unfold pa; go_simp)
  ·refine soft (by decide) ?_
   intro o ac wa g ho hoff hv hS hdn
   exact x_field (op_is rfl ho) (by rw [(hv 5 144 rfl (by kernel_rfl))]; show (Instr.fieldAt _ (pa _ _) _).run _ _=.ok (pa _ _) _; unfold pa; go_simp)
  ·refine soft (by decide) ?_
   intro o ac wa g ho hoff hv hS hdn
   have hc:=(hS.tw.cells hix).1.trans (by rw [← hk])
   exact x_load (op_is rfl ho) (by rw [(hv 6 145 rfl (by kernel_rfl))]; show (Instr.loadAt _ (pa _ _)).run _ _=_; unfold pa; go_simp; rfl)
  ·intro o ac wa g K ho hd _ hoff hv hS hpre hnd hlater hK
   have hg:g.ca=false:=by have:=hnd (by simp); simpa [done14] using this
   have hst:g.st=false:=hlater 13 (by simp) (by kernel_rfl)
   refine l_callE (op_is rfl ho) (xs:=#[pt tb,.pointer none,.int .i64 (rootO tr),.int .i64 k]) (by simp only [List.map_toArray,List.map_cons,List.map_nil]; rw [hv 0 139 rfl (by kernel_rfl),hv 2 141 rfl (by kernel_rfl),hv 7 146 rfl (by kernel_rfl)]; rfl) Tryz.func22 (by kernel_rfl) rfl (hNext wa hS.tw.at_ hS.tw.tb_) ?_
   rintro e w' ⟨rfl,ht,hA'⟩
   refine ⟨_,rfl,?_⟩
   rw [hd]
   refine hK { g with ca:=true } w' ⟨hS.tw.step TL ht hA',Nat.le_trans hS.size ht.size,fun nb hnb=>⟨(hS.nb nb hnb).1,ht.heap (hS.nb nb hnb).2 (fun hm=>by have:=hF nb hm; have:=(hS.nb nb hnb).1; omega)⟩⟩ (by intro x hx; simp at hx; rcases hx with rfl | rfl | rfl <;> simp [done14]) fun j hj hr=>?_
   match j,hr with
   | 0,_=>rfl
   | 1,_=>rfl
   | 2,_=>rfl
   | 3,_=>rfl
   | 4,_=>rfl
   | 5,_=>rfl
   | 6,_=>rfl
   | 7,_=>rfl
   | 8,_=>exact absurd rfl hj
   | 9,_=>rfl
   | 10,_=>rfl
   | 11,_=>rfl
   | 12,_=>rfl
   | 13,_=>rfl
   | 14,_=>rfl
   | k+15,_=>rfl
  ·refine soft (by decide) ?_
   intro o ac wa g ho hoff hv hS hdn
   exact (x_move (op_is rfl ho)).trans (by rw [(hv 8 147 rfl (by kernel_rfl))]; rfl)
  ·refine soft (by decide) ?_
   intro o ac wa g ho hoff hv hS hdn
   exact x_extract (op_is rfl ho) (hv 9 138 rfl (by kernel_rfl)) rfl
  ·refine soft (by decide) ?_
   intro o ac wa g ho hoff hv hS hdn
   exact x_extract (op_is rfl ho) (hv 9 138 rfl (by kernel_rfl)) rfl
  ·intro o ac wa g K ho hd _ hoff hv hS hpre hnd hlater hK
   have hg:g.nb=none:=by have:=hnd (by simp); simpa [done14] using this
   have hst:g.st=false:=hlater 13 (by simp) (by kernel_rfl)
   refine l_val hd (x_alloc (op_is rfl ho) (v:=pa wa.heap.size 0) (w':=wa.alloc (pairObj 0 0)) (by unfold pa pairObj; go_simp)) ?_
   refine hK { g with nb:=some wa.heap.size } _ ⟨hS.tw.fresh PL TL ((Turned.refl _ _).alloc _),Nat.le_trans hS.size (by simp),fun nb hnb=>?_⟩ (by intro x hx; simp at hx; rcases hx with rfl | rfl | rfl <;> simp [done14,hg]) fun j hj hr=>?_
   ·cases hnb
    refine ⟨hS.size,?_⟩
    rw [hst]
    exact blk_new _ _
   ·match j,hr with
    | 0,_=>rfl
    | 1,_=>rfl
    | 2,_=>rfl
    | 3,_=>rfl
    | 4,_=>rfl
    | 5,_=>rfl
    | 6,_=>rfl
    | 7,_=>rfl
    | 8,_=>rfl
    | 9,_=>rfl
    | 10,_=>rfl
    | 11,_=>rfl
    | 12,_=>exact absurd rfl hj
    | 13,hr=>exact absurd (hr.symm.trans (by kernel_rfl:reachB (opsOf 14 Tryz.f14.body) (opsOf 14 Tryz.f14.body).size 13 12=true)) (by decide)
    | 14,_=>rfl
    | k+15,_=>rfl
  ·intro o ac wa g K ho hd _ hoff hv hS hpre hnd hlater hK
   obtain ⟨nb,hnb⟩:=Option.isSome_iff_exists.1 (show g.nb.isSome=true from hpre 12 (by simp) (by kernel_rfl))
   have hst:g.st=false:=by have:=hnd (by simp); simpa [done14] using this
   have e26:=hv 12 26 rfl (by kernel_rfl)
   have e148:=hv 10 148 rfl (by kernel_rfl)
   have hb:=(hS.nb nb hnb).2
   have hbn:=(hS.nb nb hnb).1
   rw [hst] at hb
   have c0:wa.cell? ⟨nb,0,none⟩=some (.int .i64 0):=cell_at hb 0
   have c1:wa.cell? ⟨nb,1,none⟩=some (.int .i64 0):=cell_at hb 1
   have z:=froz_at hb
   refine l_skip hd (w':=(wa.setCell ⟨nb,0,none⟩ (.int .i64 u1)).setCell ⟨nb,1,none⟩ (.int .i64 u2)) (x_store (op_is rfl ho) (by
    rw [e26,e148]
    show (Instr.storeAt _ (pa (g.nb.getD 0) 0) (.agg #[.int .i64 u1,.int .i64 u2])).run _ _=_
    rw [hnb]
    show (Instr.storeAt _ (pa nb 0) (.agg #[.int .i64 u1,.int .i64 u2])).run _ _=_
    unfold pa
    go_simp)) ?_
   have htn:Turned [nb] wa ((wa.setCell ⟨nb,0,none⟩ (.int .i64 u1)).setCell ⟨nb,1,none⟩ (.int .i64 u2)):=((Turned.refl _ _).set (.inl (by simp)) _ _).set (.inl (by simp)) _ _
   refine hK { g with st:=true } _ ⟨hS.tw.other PL TL htn hbn hF hWs hlt,Nat.le_trans hS.size htn.size,fun nb' hnb'=>?_⟩ (by intro x hx; simp at hx; rcases hx with rfl | rfl | rfl <;> simp [done14]) fun j hj hr=>?_
   ·have:nb'=nb:=by rw [hnb] at hnb'; cases hnb'; rfl
    subst this
    refine ⟨hbn,?_⟩
    show _=some (if true=true then pairObj u1 u2 else _)
    rw [if_pos rfl,blk_set (blk_set hb 0 _) 1 _]
    rfl
   ·match j,hr with
    | 0,_=>rfl
    | 1,_=>rfl
    | 2,_=>rfl
    | 3,_=>rfl
    | 4,_=>rfl
    | 5,_=>rfl
    | 6,_=>rfl
    | 7,_=>rfl
    | 8,_=>rfl
    | 9,_=>rfl
    | 10,_=>rfl
    | 11,_=>rfl
    | 12,_=>rfl
    | 13,_=>exact absurd rfl hj
    | 14,_=>rfl
    | k+15,_=>rfl
  ·refine soft (by decide) ?_
   intro o ac wa g ho hoff hv hS hdn
   exact (x_assign (op_is rfl ho)).trans (by rw [(hv 11 149 rfl (by kernel_rfl))]; rfl)
 ·intro a' w' g hsz hdf hoff hS hdn hval
  obtain ⟨nb,hnb⟩:=Option.isSome_iff_exists.1 (show g.nb.isSome=true from hdn 12 (by simp))
  have hst:g.st=true:=hdn 13 (by simp)
  have hb:=(hS.nb nb hnb).2
  rw [hst,if_pos rfl] at hb
  exact hEnd a' w' nb hsz hdf (fun s hs=>ev_same (hoff s hs)) ((hval 12 26 rfl).trans (by show pa (g.nb.getD 0) 0=_; rw [hnb]; rfl)) (hval 14 27 rfl) hS.tw hb (hS.nb nb hnb).1

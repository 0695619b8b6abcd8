/- What the rows of TrieMaps and TrieDiffs have in common: the table of bits; the reading of changes. -/
import Derived.Test.YtloljphbdfjgdaaGreatDoorRows
import Derived.Test.YtloljphbdfjgdaaGreatDoorTie
import Derived.Test.YtloljphbdfjgdaaGreatDoorCards
import Derived.Test.YtloljphbdfjgdaaGreatDoorJ37
import Derived.Test.YtloljphbdfjgdaaGreatDoorJ44
import Derived.ProofKit
import Derived.LaidMore
import Derived.OpenShut
import Derived.Stop.Joined
import Derived.SizedLaws
import Derived.Lib.LaidTab
import Derived.SevenTiedAt
import Derived.Deep.Slices
import Derived.Test.YtloljphbdfjgdaaGreatDoorJ03
import Derived.Test.YtloljphbdfjgdaaGreatDoorJ23
import Derived.Test.YtloljphbdfjgdaaGreatDoorJ42
namespace Go.Proofs.YtloljphbdfjgdaaGreatDoor
open Go.ChangeShapes Go.WideShapes Go.ChangeAt Go.WideMaps Go.WideElems Go.RowKit Go.Deep
theorem Tryz.own:ownKnob Tryz.prog.godebug=none:=by kernel_rfl
theorem gBit:Tryz.prog.globalNamed "skein/word.bitAt" = some 0:=by kernel_rfl
theorem tBit:(Tryz.prog.globals[0]?).map (·.type)=some 228:=by kernel_rfl
theorem cellsIntR:Tryz.prog.cellsOf 3=1:=by kernel_rfl
theorem cellsChgR:Tryz.prog.cellsOf 36=4:=by kernel_rfl
theorem cellsBoolR:Tryz.prog.cellsOf 4=1:=by kernel_rfl
theorem cellsBit:Tryz.prog.cellsOf 228=32:=by kernel_rfl
theorem laidOutR:laidOutB Tryz.prog=true:=by kernel_rfl
def laidOne:List (String × DataW Unit):=[("skein/word.bitAt",Rows.laid_skein_word_bitAt)]
def zsB:List Int:=(List.range 32).map p2
theorem zs_at (i:Nat) (h:i < 32):zsB[i]?=some (p2 i):=by
 simp [zsB,h]
theorem laid_zs:laidOne=[("skein/word.bitAt",Lib.tabData .i64 zsB)]:=by kernel_rfl
theorem tab_of_laid {W:World} (h:laidMetH Tryz.prog laidOne W):Tab W:=by
 rw [MakeChecks.laidMetH_plain _ _ _ (by kernel_rfl)] at h
 rw [laid_zs] at h
 have ht:=Lib.tabIs_of_head gBit tBit Tryz.underlying228 Tryz.underlying3 cellsIntR cellsBit h
 intro i hi
 have hc:=World.var?_cell gBit ht i
 rw [hc]
 simp [zs_at i hi]
theorem door_met (os:Os) (args:Array Value):laidMetH Tryz.prog laidOne ((World.doorLaid Tryz.prog 1103 os).forCall (fun _ _=>0) ⟨#[],args,[]⟩).memory :=
 laidMetH_of_parts3 (fuel:=8) (laidMet_of_run' 8 (by kernel_rfl) (by kernel_rfl)) (by kernel_rfl) (by kernel_rfl)
theorem Tab.pos {w:World} (hT:Tab w):0 < w.heap.size:=by
 have h:=hT 0 (by omega)
 apply Classical.byContradiction
 intro hn
 rw [World.cell?] at h
 have:w.heap[0]?=none:=Array.getElem?_eq_none (by omega)
 simp [this] at h
section
variable {H:Type} {enc:TypeId × Value→H} {W:World} {base:Nat} {v:Value} {d:DataW H} {p:List MemPlace}
set_option maxRecDepth 100000 in
theorem view_chgs (hok:Value.okWide Tryz.prog W .any base 22 v) (h:DataW.Trod enc Tryz.prog W 0 (fun _=>true) true 22 v d p):∃ la ll lc,v=.slice la ll lc∧ChgsAt W la ll:=by
 obtain ⟨a0,len,cap,rfl⟩:=okWide_slice Tryz.underlying22 hok
 obtain ⟨fuel,hf⟩:=h
 rcases open_slice Tryz.underlying22 hf with ⟨hcs,_⟩ | ⟨a,len',cap',m,n,D,Pl,hcs,_,hl,_,hm,_,hel⟩
 ·simp [Value.cells] at hcs
  obtain ⟨rfl,rfl,rfl⟩:=hcs
  exact ⟨none,0,0,rfl,⟨fun j hj=>absurd hj (Nat.not_lt_zero _)⟩⟩
 ·simp [Value.cells] at hcs
  obtain ⟨rfl,rfl,rfl⟩:=hcs
  simp only [if_true] at hm
  refine ⟨some a,len,cap,rfl,⟨fun i hi=>?_⟩⟩
  obtain ⟨cs0,h10,-⟩:=hel 0 (by omega)
  rw [cellsChgR] at h10
  obtain ⟨-,hl0,hc0⟩:=World.cells?_some h10
  have t00:=hc0 0 (by omega)
  rw [add_add] at t00
  obtain ⟨cs',h1,h2⟩:=hel i (by omega)
  rw [cellsChgR] at h1
  obtain ⟨_,hlen,hcell⟩:=World.cells?_some h1
  obtain ⟨xs,k,_,_,_,hxl,hfs⟩:=DataW.trod_struct Tryz.underlying36 h2
  match xs,hxl,cs',hlen with
  | [y0,y1,y2,y3],_,[v0,v1,v2,v3],_ =>
   have g0:=hfs 0 _ rfl
   have g1:=hfs 1 _ rfl
   have g2:=hfs 2 _ rfl
   have g3:=hfs 3 _ rfl
   simp [cellsIntR,cellsBoolR] at g0 g1 g2 g3
   obtain ⟨z0,e0,_⟩:=DataW.trod_int Tryz.underlying3 g0
   obtain ⟨z1,e1,_⟩:=DataW.trod_int Tryz.underlying3 g1
   obtain ⟨z2,e2,_⟩:=DataW.trod_int Tryz.underlying3 g2
   obtain ⟨z3,e3,_⟩:=DataW.trod_bool Tryz.underlying4 g3
   simp at e0 e1 e2 e3
   subst e0 e1 e2 e3
   obtain ⟨b,off,spot⟩:=a
   have q:∀ j,j < 4→W.cell? ((⟨b,off,spot⟩:Addr).add (i * 4+j))=[Value.int .i64 z0,.int .i64 z1,.int .i64 z2,.bool z3][j]?:=fun j hj=>by
    have t0:=hcell j (by simpa using hj)
    rw [add_add] at t0
    exact t0.trans (by simp)
   have hspot:spot=none:=by simpa [Addr.add] using World.cell?_spot (t00.trans (List.getElem?_eq_getElem (show 0 < cs0.length by omega)))
   subst hspot
   have q':∀ j,j < 4→W.cell? ⟨b,off+i * 4+j,none⟩=[Value.int .i64 z0,.int .i64 z1,.int .i64 z2,.bool z3][j]?:=fun j hj=>by
    have:=q j hj
    simpa [add_plain,Nat.add_assoc] using this
   exact ⟨b,off,z0,z1,z2,z3,rfl,q' 0 (by omega),q' 1 (by omega),q' 2 (by omega),q' 3 (by omega)⟩
end
end Go.Proofs.YtloljphbdfjgdaaGreatDoor
/- A frame, spelled out. -/
namespace Go.Proofs.YtloljphbdfjgdaaGreatDoor
open Go.RowKit
def lit109 (c:Nat→Value):Array Value:=#[c 0,c 1,c 2,c 3,c 4,c 5,c 6,c 7,c 8,c 9,c 10,c 11,c 12,c 13,c 14,c 15,c 16,c 17,c 18,c 19,c 20,c 21,c 22,c 23,c 24,c 25,c 26,c 27,c 28,c 29,c 30,c 31,c 32,c 33,c 34,c 35,c 36,c 37,c 38,c 39,c 40,c 41,c 42,c 43,c 44,c 45,c 46,c 47,c 48,c 49,c 50,c 51,c 52,c 53,c 54,c 55,c 56,c 57,c 58,c 59,c 60,c 61,c 62,c 63,c 64,c 65,c 66,c 67,c 68,c 69,c 70,c 71,c 72,c 73,c 74,c 75,c 76,c 77,c 78,c 79,c 80,c 81,c 82,c 83,c 84,c 85,c 86,c 87,c 88,c 89,c 90,c 91,c 92,c 93,c 94,c 95,c 96,c 97,c 98,c 99,c 100,c 101,c 102,c 103,c 104,c 105,c 106,c 107,c 108]
set_option maxRecDepth 100000 in
theorem lit109_eq (c:Nat→Value):lit109 c=((List.range 109).map c).toArray:=by rfl
theorem expand109 {a:Act} (hs:a.tmps.size=109) (hd:a.defers=[]):∃ c:Nat→Value,a=⟨lit109 c,[]⟩∧∀ s,c s=a.eval (.tmp s):=by
 refine ⟨fun s=>a.tmps.getD s undef,?_,fun s=>rfl⟩
 obtain ⟨t,d⟩:=a
 simp only at hs hd
 subst hd
 congr 1
 rw [lit109_eq]
 refine Array.ext (by simp [hs]) fun i h1 h2=>?_
 simp [Array.getD,h1]
end Go.Proofs.YtloljphbdfjgdaaGreatDoor
/- The ways through shares. (Written by tools/gen/genshr.py.) -/
namespace Go.Proofs.YtloljphbdfjgdaaGreatDoor
open Go.RowKit
theorem wp_endB {P:Program} {c:Code} {Q:Exit→Act→World→Prop} {a:Act} {x:World} (h:c.wp P (Exit.then (Q .normal) Q) a x):c.wp P Q a x :=
 wp_mono h (fun e a w h=>by cases e <;> exact h)
section
variable {x y:World} {eb b xl xc yl yc gl gc ml mc i g:Nat} {xa ya ga ma:Option Addr} {k:Int} {t:Bool} {a:Act} {K:Act→World→Prop} {Q:Exit→Act→World→Prop}
set_option maxRecDepth 100000 in
set_option maxHeartbeats 1600000 in
theorem sh_1ini (hs:a.tmps.size=109) (hd:a.defers=[]) (x7:a.eval (.tmp 7)=.pointer (some ⟨eb,0,none⟩)) (x9:a.eval (.tmp 9)=.slice xa xl xc) (x11:a.eval (.tmp 11)=.slice ya yl yc) (x13:a.eval (.tmp 13)=.map (some b))
  
  (hK:∀ a',a'.tmps.size=109→a'.defers=[]→a'.eval (.tmp 7)=.pointer (some ⟨eb,0,none⟩)→a'.eval (.tmp 9)=.slice xa xl xc→a'.eval (.tmp 11)=.slice ya yl yc→a'.eval (.tmp 13)=.map (some b)→a'.eval (.tmp 14)=.int .i64 0→ K a' x):(atc Tryz.f10.body [1,1,1,1,1,0,0]).wp Tryz.prog (Exit.then K Q) a x:=by
 obtain ⟨cc,hcc,hce⟩:=expand109 hs hd
 have g7:=(hce 7).trans x7
 have g9:=(hce 9).trans x9
 have g11:=(hce 11).trans x11
 have g13:=(hce 13).trans x13
 clear hce hs hd x7 x9 x11 x13
 subst hcc
 conv=>arg 2; whnf
 simp only [lit109,g7,g9,g11,g13]
 clear g7 g9 g11 g13
 have HK:Hid _:=hK
 clear hK
 go_wp2
 exact HK.out _ rfl rfl rfl rfl rfl rfl rfl 
set_option maxRecDepth 100000 in
set_option maxHeartbeats 1600000 in
theorem sh_1in (hs:a.tmps.size=109) (hd:a.defers=[]) (x7:a.eval (.tmp 7)=.pointer (some ⟨eb,0,none⟩)) (x9:a.eval (.tmp 9)=.slice xa xl xc) (x11:a.eval (.tmp 11)=.slice ya yl yc) (x13:a.eval (.tmp 13)=.map (some b)) (x14:a.eval (.tmp 14)=.int .i64 i)
   (hi:(i:Int) < xl)
  (hK:∀ a',a'.tmps.size=109→a'.defers=[]→a'.eval (.tmp 7)=.pointer (some ⟨eb,0,none⟩)→a'.eval (.tmp 9)=.slice xa xl xc→a'.eval (.tmp 11)=.slice ya yl yc→a'.eval (.tmp 13)=.map (some b)→a'.eval (.tmp 14)=.int .i64 i→ K a' x):(atc Tryz.f10.body [1,1,1,1,1,0,1,0,0,0]).wp Tryz.prog (Exit.then K Q) a x:=by
 obtain ⟨cc,hcc,hce⟩:=expand109 hs hd
 have g7:=(hce 7).trans x7
 have g9:=(hce 9).trans x9
 have g11:=(hce 11).trans x11
 have g13:=(hce 13).trans x13
 have g14:=(hce 14).trans x14
 clear hce hs hd x7 x9 x11 x13 x14
 subst hcc
 conv=>arg 2; whnf
 simp only [lit109,g7,g9,g11,g13,g14]
 clear g7 g9 g11 g13 g14
 have HK:Hid _:=hK
 clear hK
 go_wp2
 exact HK.out _ rfl rfl rfl rfl rfl rfl rfl 
set_option maxRecDepth 100000 in
set_option maxHeartbeats 1600000 in
theorem sh_1out (hs:a.tmps.size=109) (hd:a.defers=[]) (x7:a.eval (.tmp 7)=.pointer (some ⟨eb,0,none⟩)) (x9:a.eval (.tmp 9)=.slice xa xl xc) (x11:a.eval (.tmp 11)=.slice ya yl yc) (x13:a.eval (.tmp 13)=.map (some b)) (x14:a.eval (.tmp 14)=.int .i64 i)
   (hi:¬ (i:Int) < xl)
  (hQ:∀ a',a'.tmps.size=109→a'.defers=[]→a'.eval (.tmp 7)=.pointer (some ⟨eb,0,none⟩)→a'.eval (.tmp 9)=.slice xa xl xc→a'.eval (.tmp 11)=.slice ya yl yc→a'.eval (.tmp 13)=.map (some b)→ Q (.exit 0) a' x):(atc Tryz.f10.body [1,1,1,1,1,0,1,0,0,0]).wp Tryz.prog (Exit.then K Q) a x:=by
 obtain ⟨cc,hcc,hce⟩:=expand109 hs hd
 have g7:=(hce 7).trans x7
 have g9:=(hce 9).trans x9
 have g11:=(hce 11).trans x11
 have g13:=(hce 13).trans x13
 have g14:=(hce 14).trans x14
 clear hce hs hd x7 x9 x11 x13 x14
 subst hcc
 conv=>arg 2; whnf
 simp only [lit109,g7,g9,g11,g13,g14]
 clear g7 g9 g11 g13 g14
 have HK:Hid _:=hQ
 clear hQ
 go_wp2
 exact HK.out _ rfl rfl rfl rfl rfl rfl 
set_option maxRecDepth 100000 in
set_option maxHeartbeats 1600000 in
theorem sh_1put (hs:a.tmps.size=109) (hd:a.defers=[]) (x7:a.eval (.tmp 7)=.pointer (some ⟨eb,0,none⟩)) (x9:a.eval (.tmp 9)=.slice (some ⟨g,0,none⟩) xl xc) (x11:a.eval (.tmp 11)=.slice ya yl yc) (x13:a.eval (.tmp 13)=.map (some b)) (x14:a.eval (.tmp 14)=.int .i64 i)
  (hi:(i:Int) < xl) (hc:x.cell? ⟨g,i,none⟩=some (.int .i64 k)) (hm:(Instr.mapUpdate 100 (.map (some b)) (.int .i64 k) (.bool true)).run Tryz.prog x=.ok () y)
  (hK:∀ a',a'.tmps.size=109→a'.defers=[]→a'.eval (.tmp 7)=.pointer (some ⟨eb,0,none⟩)→a'.eval (.tmp 9)=.slice (some ⟨g,0,none⟩) xl xc→a'.eval (.tmp 11)=.slice ya yl yc→a'.eval (.tmp 13)=.map (some b)→a'.eval (.tmp 14)=.int .i64 i→ K a' y):(atc Tryz.f10.body [1,1,1,1,1,0,1,0,0,1,0,0]).wp Tryz.prog (Exit.then K Q) a x:=by
 obtain ⟨cc,hcc,hce⟩:=expand109 hs hd
 have g7:=(hce 7).trans x7
 have g9:=(hce 9).trans x9
 have g11:=(hce 11).trans x11
 have g13:=(hce 13).trans x13
 have g14:=(hce 14).trans x14
 clear hce hs hd x7 x9 x11 x13 x14
 subst hcc
 conv=>arg 2; whnf
 simp only [lit109,g7,g9,g11,g13,g14]
 clear g7 g9 g11 g13 g14
 have HK:Hid _:=hK
 clear hK
 go_wp2
 exact HK.out _ rfl rfl rfl rfl rfl rfl rfl 
set_option maxRecDepth 100000 in
set_option maxHeartbeats 1600000 in
theorem sh_1inc (hs:a.tmps.size=109) (hd:a.defers=[]) (x7:a.eval (.tmp 7)=.pointer (some ⟨eb,0,none⟩)) (x9:a.eval (.tmp 9)=.slice xa xl xc) (x11:a.eval (.tmp 11)=.slice ya yl yc) (x13:a.eval (.tmp 13)=.map (some b)) (x14:a.eval (.tmp 14)=.int .i64 i)
  (hi:i < 100000)
  (hK:∀ a',a'.tmps.size=109→a'.defers=[]→a'.eval (.tmp 7)=.pointer (some ⟨eb,0,none⟩)→a'.eval (.tmp 9)=.slice xa xl xc→a'.eval (.tmp 11)=.slice ya yl yc→a'.eval (.tmp 13)=.map (some b)→a'.eval (.tmp 14)=.int .i64 (i+1:Nat)→K a' x):(atc Tryz.f10.body [1,1,1,1,1,0,1,0,0,1,1]).wp Tryz.prog (Exit.then K Q) a x:=by
 obtain ⟨cc,hcc,hce⟩:=expand109 hs hd
 have g7:=(hce 7).trans x7
 have g9:=(hce 9).trans x9
 have g11:=(hce 11).trans x11
 have g13:=(hce 13).trans x13
 have g14:=(hce 14).trans x14
 clear hce hs hd x7 x9 x11 x13 x14
 subst hcc
 conv=>arg 2; whnf
 simp only [lit109,g7,g9,g11,g13,g14]
 clear g7 g9 g11 g13 g14
 have hq:IntKind.i64.wrap ((i:Int)+1)=((i+1:Nat):Int):=by simp [IntKind.wrap,IntKind.bits,IntKind.signed]; omega
 have HK:Hid _:=hK
 clear hK
 go_wp2
 refine HK.out _ rfl rfl rfl rfl rfl rfl ?_
 first | rfl | exact congrArg (Value.int .i64) (by omega) | (show Value.int .i64 _=_; rw [← hq])
set_option maxRecDepth 100000 in
set_option maxHeartbeats 1600000 in
theorem sh_2ini (hs:a.tmps.size=109) (hd:a.defers=[]) (x7:a.eval (.tmp 7)=.pointer (some ⟨eb,0,none⟩)) (x9:a.eval (.tmp 9)=.slice xa xl xc) (x11:a.eval (.tmp 11)=.slice ya yl yc) (x13:a.eval (.tmp 13)=.map (some b))
  
  (hK:∀ a',a'.tmps.size=109→a'.defers=[]→a'.eval (.tmp 7)=.pointer (some ⟨eb,0,none⟩)→a'.eval (.tmp 9)=.slice xa xl xc→a'.eval (.tmp 11)=.slice ya yl yc→a'.eval (.tmp 13)=.map (some b)→a'.eval (.tmp 15)=.int .i64 0→ K a' x):(atc Tryz.f10.body [1,1,1,1,1,1,0,0]).wp Tryz.prog (Exit.then K Q) a x:=by
 obtain ⟨cc,hcc,hce⟩:=expand109 hs hd
 have g7:=(hce 7).trans x7
 have g9:=(hce 9).trans x9
 have g11:=(hce 11).trans x11
 have g13:=(hce 13).trans x13
 clear hce hs hd x7 x9 x11 x13
 subst hcc
 conv=>arg 2; whnf
 simp only [lit109,g7,g9,g11,g13]
 clear g7 g9 g11 g13
 have HK:Hid _:=hK
 clear hK
 go_wp2
 exact HK.out _ rfl rfl rfl rfl rfl rfl rfl 
set_option maxRecDepth 100000 in
set_option maxHeartbeats 1600000 in
theorem sh_2in (hs:a.tmps.size=109) (hd:a.defers=[]) (x7:a.eval (.tmp 7)=.pointer (some ⟨eb,0,none⟩)) (x9:a.eval (.tmp 9)=.slice xa xl xc) (x11:a.eval (.tmp 11)=.slice ya yl yc) (x13:a.eval (.tmp 13)=.map (some b)) (x15:a.eval (.tmp 15)=.int .i64 i)
  (hb:x.cell? ⟨eb,3,none⟩=some (.slice ga gl gc)) (hi:(i:Int) < gl)
  (hK:∀ a',a'.tmps.size=109→a'.defers=[]→a'.eval (.tmp 7)=.pointer (some ⟨eb,0,none⟩)→a'.eval (.tmp 9)=.slice xa xl xc→a'.eval (.tmp 11)=.slice ya yl yc→a'.eval (.tmp 13)=.map (some b)→a'.eval (.tmp 15)=.int .i64 i→ K a' x):(atc Tryz.f10.body [1,1,1,1,1,1,0,1,0,0,0]).wp Tryz.prog (Exit.then K Q) a x:=by
 obtain ⟨cc,hcc,hce⟩:=expand109 hs hd
 have g7:=(hce 7).trans x7
 have g9:=(hce 9).trans x9
 have g11:=(hce 11).trans x11
 have g13:=(hce 13).trans x13
 have g15:=(hce 15).trans x15
 clear hce hs hd x7 x9 x11 x13 x15
 subst hcc
 conv=>arg 2; whnf
 simp only [lit109,g7,g9,g11,g13,g15]
 clear g7 g9 g11 g13 g15
 have HK:Hid _:=hK
 clear hK
 go_wp2
 exact HK.out _ rfl rfl rfl rfl rfl rfl rfl 
set_option maxRecDepth 100000 in
set_option maxHeartbeats 1600000 in
theorem sh_2out (hs:a.tmps.size=109) (hd:a.defers=[]) (x7:a.eval (.tmp 7)=.pointer (some ⟨eb,0,none⟩)) (x9:a.eval (.tmp 9)=.slice xa xl xc) (x11:a.eval (.tmp 11)=.slice ya yl yc) (x13:a.eval (.tmp 13)=.map (some b)) (x15:a.eval (.tmp 15)=.int .i64 i)
  (hb:x.cell? ⟨eb,3,none⟩=some (.slice ga gl gc)) (hi:¬ (i:Int) < gl)
  (hQ:∀ a',a'.tmps.size=109→a'.defers=[]→a'.eval (.tmp 7)=.pointer (some ⟨eb,0,none⟩)→a'.eval (.tmp 9)=.slice xa xl xc→a'.eval (.tmp 11)=.slice ya yl yc→a'.eval (.tmp 13)=.map (some b)→ Q (.exit 2) a' x):(atc Tryz.f10.body [1,1,1,1,1,1,0,1,0,0,0]).wp Tryz.prog (Exit.then K Q) a x:=by
 obtain ⟨cc,hcc,hce⟩:=expand109 hs hd
 have g7:=(hce 7).trans x7
 have g9:=(hce 9).trans x9
 have g11:=(hce 11).trans x11
 have g13:=(hce 13).trans x13
 have g15:=(hce 15).trans x15
 clear hce hs hd x7 x9 x11 x13 x15
 subst hcc
 conv=>arg 2; whnf
 simp only [lit109,g7,g9,g11,g13,g15]
 clear g7 g9 g11 g13 g15
 have HK:Hid _:=hQ
 clear hQ
 go_wp2
 exact HK.out _ rfl rfl rfl rfl rfl rfl 
set_option maxRecDepth 100000 in
set_option maxHeartbeats 1600000 in
theorem sh_2look (hs:a.tmps.size=109) (hd:a.defers=[]) (x7:a.eval (.tmp 7)=.pointer (some ⟨eb,0,none⟩)) (x9:a.eval (.tmp 9)=.slice xa xl xc) (x11:a.eval (.tmp 11)=.slice ya yl yc) (x13:a.eval (.tmp 13)=.map (some b)) (x15:a.eval (.tmp 15)=.int .i64 i)
  (hb:x.cell? ⟨eb,3,none⟩=some (.slice (some ⟨g,0,none⟩) gl gc)) (hi:(i:Int) < gl) (hc:x.cell? ⟨g,i,none⟩=some (.int .i64 k)) (hm:(Instr.lookup 100 (.map (some b)) (.int .i64 k) false).run Tryz.prog x=.ok (.bool t) x) (ht:t=true)
  (hK:∀ a',a'.tmps.size=109→a'.defers=[]→a'.eval (.tmp 7)=.pointer (some ⟨eb,0,none⟩)→a'.eval (.tmp 9)=.slice xa xl xc→a'.eval (.tmp 11)=.slice ya yl yc→a'.eval (.tmp 13)=.map (some b)→a'.eval (.tmp 15)=.int .i64 i→ K a' x):(atc Tryz.f10.body [1,1,1,1,1,1,0,1,0,0,1,0,0,0]).wp Tryz.prog (Exit.then K Q) a x:=by
 obtain ⟨cc,hcc,hce⟩:=expand109 hs hd
 have g7:=(hce 7).trans x7
 have g9:=(hce 9).trans x9
 have g11:=(hce 11).trans x11
 have g13:=(hce 13).trans x13
 have g15:=(hce 15).trans x15
 clear hce hs hd x7 x9 x11 x13 x15
 subst hcc
 conv=>arg 2; whnf
 simp only [lit109,g7,g9,g11,g13,g15]
 clear g7 g9 g11 g13 g15
 subst ht
 have HK:Hid _:=hK
 clear hK
 go_wp2
 exact HK.out _ rfl rfl rfl rfl rfl rfl rfl 
set_option maxRecDepth 100000 in
set_option maxHeartbeats 1600000 in
theorem sh_2del (hs:a.tmps.size=109) (hd:a.defers=[]) (x7:a.eval (.tmp 7)=.pointer (some ⟨eb,0,none⟩)) (x9:a.eval (.tmp 9)=.slice xa xl xc) (x11:a.eval (.tmp 11)=.slice ya yl yc) (x13:a.eval (.tmp 13)=.map (some b)) (x15:a.eval (.tmp 15)=.int .i64 i)
  (hb:x.cell? ⟨eb,3,none⟩=some (.slice (some ⟨g,0,none⟩) gl gc)) (hi:(i:Int) < gl) (hc:x.cell? ⟨g,i,none⟩=some (.int .i64 k)) (hm:∀ ty,(Builtin.delete_ #[100,3] ty #[.map (some b),.int .i64 k]).run Tryz.prog x=.ok (.tuple #[]) y)
  (hK:∀ a',a'.tmps.size=109→a'.defers=[]→a'.eval (.tmp 7)=.pointer (some ⟨eb,0,none⟩)→a'.eval (.tmp 9)=.slice xa xl xc→a'.eval (.tmp 11)=.slice ya yl yc→a'.eval (.tmp 13)=.map (some b)→a'.eval (.tmp 15)=.int .i64 i→ K a' y):(atc Tryz.f10.body [1,1,1,1,1,1,0,1,0,0,1,0,0,1]).wp Tryz.prog (Exit.then K Q) a x:=by
 obtain ⟨cc,hcc,hce⟩:=expand109 hs hd
 have g7:=(hce 7).trans x7
 have g9:=(hce 9).trans x9
 have g11:=(hce 11).trans x11
 have g13:=(hce 13).trans x13
 have g15:=(hce 15).trans x15
 clear hce hs hd x7 x9 x11 x13 x15
 subst hcc
 conv=>arg 2; whnf
 simp only [lit109,g7,g9,g11,g13,g15]
 clear g7 g9 g11 g13 g15
 have HK:Hid _:=hK
 clear hK
 go_wp2
 exact HK.out _ rfl rfl rfl rfl rfl rfl rfl 
set_option maxRecDepth 100000 in
set_option maxHeartbeats 1600000 in
theorem sh_2inc (hs:a.tmps.size=109) (hd:a.defers=[]) (x7:a.eval (.tmp 7)=.pointer (some ⟨eb,0,none⟩)) (x9:a.eval (.tmp 9)=.slice xa xl xc) (x11:a.eval (.tmp 11)=.slice ya yl yc) (x13:a.eval (.tmp 13)=.map (some b)) (x15:a.eval (.tmp 15)=.int .i64 i)
  (hi:i < 100000)
  (hK:∀ a',a'.tmps.size=109→a'.defers=[]→a'.eval (.tmp 7)=.pointer (some ⟨eb,0,none⟩)→a'.eval (.tmp 9)=.slice xa xl xc→a'.eval (.tmp 11)=.slice ya yl yc→a'.eval (.tmp 13)=.map (some b)→a'.eval (.tmp 15)=.int .i64 (i+1:Nat)→K a' x):(atc Tryz.f10.body [1,1,1,1,1,1,0,1,0,0,1,1]).wp Tryz.prog (Exit.then K Q) a x:=by
 obtain ⟨cc,hcc,hce⟩:=expand109 hs hd
 have g7:=(hce 7).trans x7
 have g9:=(hce 9).trans x9
 have g11:=(hce 11).trans x11
 have g13:=(hce 13).trans x13
 have g15:=(hce 15).trans x15
 clear hce hs hd x7 x9 x11 x13 x15
 subst hcc
 conv=>arg 2; whnf
 simp only [lit109,g7,g9,g11,g13,g15]
 clear g7 g9 g11 g13 g15
 have hq:IntKind.i64.wrap ((i:Int)+1)=((i+1:Nat):Int):=by simp [IntKind.wrap,IntKind.bits,IntKind.signed]; omega
 have HK:Hid _:=hK
 clear hK
 go_wp2
 refine HK.out _ rfl rfl rfl rfl rfl rfl ?_
 first | rfl | exact congrArg (Value.int .i64) (by omega) | (show Value.int .i64 _=_; rw [← hq])
set_option maxRecDepth 100000 in
set_option maxHeartbeats 1600000 in
theorem sh_3ini (hs:a.tmps.size=109) (hd:a.defers=[]) (x7:a.eval (.tmp 7)=.pointer (some ⟨eb,0,none⟩)) (x9:a.eval (.tmp 9)=.slice xa xl xc) (x11:a.eval (.tmp 11)=.slice ya yl yc) (x13:a.eval (.tmp 13)=.map (some b))
  
  (hK:∀ a',a'.tmps.size=109→a'.defers=[]→a'.eval (.tmp 7)=.pointer (some ⟨eb,0,none⟩)→a'.eval (.tmp 9)=.slice xa xl xc→a'.eval (.tmp 11)=.slice ya yl yc→a'.eval (.tmp 13)=.map (some b)→a'.eval (.tmp 16)=.int .i64 0→ K a' x):(atc Tryz.f10.body [1,1,1,1,1,1,1,0,0]).wp Tryz.prog (Exit.then K Q) a x:=by
 obtain ⟨cc,hcc,hce⟩:=expand109 hs hd
 have g7:=(hce 7).trans x7
 have g9:=(hce 9).trans x9
 have g11:=(hce 11).trans x11
 have g13:=(hce 13).trans x13
 clear hce hs hd x7 x9 x11 x13
 subst hcc
 conv=>arg 2; whnf
 simp only [lit109,g7,g9,g11,g13]
 clear g7 g9 g11 g13
 have HK:Hid _:=hK
 clear hK
 go_wp2
 exact HK.out _ rfl rfl rfl rfl rfl rfl rfl 
set_option maxRecDepth 100000 in
set_option maxHeartbeats 1600000 in
theorem sh_3in (hs:a.tmps.size=109) (hd:a.defers=[]) (x7:a.eval (.tmp 7)=.pointer (some ⟨eb,0,none⟩)) (x9:a.eval (.tmp 9)=.slice xa xl xc) (x11:a.eval (.tmp 11)=.slice ya yl yc) (x13:a.eval (.tmp 13)=.map (some b)) (x16:a.eval (.tmp 16)=.int .i64 i)
  (hb:x.cell? ⟨eb,4,none⟩=some (.slice ma ml mc)) (hi:(i:Int) < ml)
  (hK:∀ a',a'.tmps.size=109→a'.defers=[]→a'.eval (.tmp 7)=.pointer (some ⟨eb,0,none⟩)→a'.eval (.tmp 9)=.slice xa xl xc→a'.eval (.tmp 11)=.slice ya yl yc→a'.eval (.tmp 13)=.map (some b)→a'.eval (.tmp 16)=.int .i64 i→ K a' x):(atc Tryz.f10.body [1,1,1,1,1,1,1,0,1,0,0,0]).wp Tryz.prog (Exit.then K Q) a x:=by
 obtain ⟨cc,hcc,hce⟩:=expand109 hs hd
 have g7:=(hce 7).trans x7
 have g9:=(hce 9).trans x9
 have g11:=(hce 11).trans x11
 have g13:=(hce 13).trans x13
 have g16:=(hce 16).trans x16
 clear hce hs hd x7 x9 x11 x13 x16
 subst hcc
 conv=>arg 2; whnf
 simp only [lit109,g7,g9,g11,g13,g16]
 clear g7 g9 g11 g13 g16
 have HK:Hid _:=hK
 clear hK
 go_wp2
 exact HK.out _ rfl rfl rfl rfl rfl rfl rfl 
set_option maxRecDepth 100000 in
set_option maxHeartbeats 1600000 in
theorem sh_3out (hs:a.tmps.size=109) (hd:a.defers=[]) (x7:a.eval (.tmp 7)=.pointer (some ⟨eb,0,none⟩)) (x9:a.eval (.tmp 9)=.slice xa xl xc) (x11:a.eval (.tmp 11)=.slice ya yl yc) (x13:a.eval (.tmp 13)=.map (some b)) (x16:a.eval (.tmp 16)=.int .i64 i)
  (hb:x.cell? ⟨eb,4,none⟩=some (.slice ma ml mc)) (hi:¬ (i:Int) < ml)
  (hQ:∀ a',a'.tmps.size=109→a'.defers=[]→a'.eval (.tmp 7)=.pointer (some ⟨eb,0,none⟩)→a'.eval (.tmp 9)=.slice xa xl xc→a'.eval (.tmp 11)=.slice ya yl yc→a'.eval (.tmp 13)=.map (some b)→ Q (.exit 4) a' x):(atc Tryz.f10.body [1,1,1,1,1,1,1,0,1,0,0,0]).wp Tryz.prog (Exit.then K Q) a x:=by
 obtain ⟨cc,hcc,hce⟩:=expand109 hs hd
 have g7:=(hce 7).trans x7
 have g9:=(hce 9).trans x9
 have g11:=(hce 11).trans x11
 have g13:=(hce 13).trans x13
 have g16:=(hce 16).trans x16
 clear hce hs hd x7 x9 x11 x13 x16
 subst hcc
 conv=>arg 2; whnf
 simp only [lit109,g7,g9,g11,g13,g16]
 clear g7 g9 g11 g13 g16
 have HK:Hid _:=hQ
 clear hQ
 go_wp2
 exact HK.out _ rfl rfl rfl rfl rfl rfl 
set_option maxRecDepth 100000 in
set_option maxHeartbeats 1600000 in
theorem sh_3look (hs:a.tmps.size=109) (hd:a.defers=[]) (x7:a.eval (.tmp 7)=.pointer (some ⟨eb,0,none⟩)) (x9:a.eval (.tmp 9)=.slice xa xl xc) (x11:a.eval (.tmp 11)=.slice ya yl yc) (x13:a.eval (.tmp 13)=.map (some b)) (x16:a.eval (.tmp 16)=.int .i64 i)
  (hb:x.cell? ⟨eb,4,none⟩=some (.slice (some ⟨g,0,none⟩) ml mc)) (hi:(i:Int) < ml) (hc:x.cell? ⟨g,i,none⟩=some (.int .i64 k)) (hm:(Instr.lookup 100 (.map (some b)) (.int .i64 k) false).run Tryz.prog x=.ok (.bool t) x) (ht:t=false)
  (hK:∀ a',a'.tmps.size=109→a'.defers=[]→a'.eval (.tmp 7)=.pointer (some ⟨eb,0,none⟩)→a'.eval (.tmp 9)=.slice xa xl xc→a'.eval (.tmp 11)=.slice ya yl yc→a'.eval (.tmp 13)=.map (some b)→a'.eval (.tmp 16)=.int .i64 i→ K a' x):(atc Tryz.f10.body [1,1,1,1,1,1,1,0,1,0,0,1,0,0,0]).wp Tryz.prog (Exit.then K Q) a x:=by
 obtain ⟨cc,hcc,hce⟩:=expand109 hs hd
 have g7:=(hce 7).trans x7
 have g9:=(hce 9).trans x9
 have g11:=(hce 11).trans x11
 have g13:=(hce 13).trans x13
 have g16:=(hce 16).trans x16
 clear hce hs hd x7 x9 x11 x13 x16
 subst hcc
 conv=>arg 2; whnf
 simp only [lit109,g7,g9,g11,g13,g16]
 clear g7 g9 g11 g13 g16
 subst ht
 have HK:Hid _:=hK
 clear hK
 go_wp2
 exact HK.out _ rfl rfl rfl rfl rfl rfl rfl 
set_option maxRecDepth 100000 in
set_option maxHeartbeats 1600000 in
theorem sh_3put (hs:a.tmps.size=109) (hd:a.defers=[]) (x7:a.eval (.tmp 7)=.pointer (some ⟨eb,0,none⟩)) (x9:a.eval (.tmp 9)=.slice xa xl xc) (x11:a.eval (.tmp 11)=.slice ya yl yc) (x13:a.eval (.tmp 13)=.map (some b)) (x16:a.eval (.tmp 16)=.int .i64 i)
  (hb:x.cell? ⟨eb,4,none⟩=some (.slice (some ⟨g,0,none⟩) ml mc)) (hi:(i:Int) < ml) (hc:x.cell? ⟨g,i,none⟩=some (.int .i64 k)) (hm:(Instr.mapUpdate 100 (.map (some b)) (.int .i64 k) (.bool true)).run Tryz.prog x=.ok () y)
  (hK:∀ a',a'.tmps.size=109→a'.defers=[]→a'.eval (.tmp 7)=.pointer (some ⟨eb,0,none⟩)→a'.eval (.tmp 9)=.slice xa xl xc→a'.eval (.tmp 11)=.slice ya yl yc→a'.eval (.tmp 13)=.map (some b)→a'.eval (.tmp 16)=.int .i64 i→ K a' y):(atc Tryz.f10.body [1,1,1,1,1,1,1,0,1,0,0,1,0,0,1]).wp Tryz.prog (Exit.then K Q) a x:=by
 obtain ⟨cc,hcc,hce⟩:=expand109 hs hd
 have g7:=(hce 7).trans x7
 have g9:=(hce 9).trans x9
 have g11:=(hce 11).trans x11
 have g13:=(hce 13).trans x13
 have g16:=(hce 16).trans x16
 clear hce hs hd x7 x9 x11 x13 x16
 subst hcc
 conv=>arg 2; whnf
 simp only [lit109,g7,g9,g11,g13,g16]
 clear g7 g9 g11 g13 g16
 have HK:Hid _:=hK
 clear hK
 go_wp2
 exact HK.out _ rfl rfl rfl rfl rfl rfl rfl 
set_option maxRecDepth 100000 in
set_option maxHeartbeats 1600000 in
theorem sh_3inc (hs:a.tmps.size=109) (hd:a.defers=[]) (x7:a.eval (.tmp 7)=.pointer (some ⟨eb,0,none⟩)) (x9:a.eval (.tmp 9)=.slice xa xl xc) (x11:a.eval (.tmp 11)=.slice ya yl yc) (x13:a.eval (.tmp 13)=.map (some b)) (x16:a.eval (.tmp 16)=.int .i64 i)
  (hi:i < 100000)
  (hK:∀ a',a'.tmps.size=109→a'.defers=[]→a'.eval (.tmp 7)=.pointer (some ⟨eb,0,none⟩)→a'.eval (.tmp 9)=.slice xa xl xc→a'.eval (.tmp 11)=.slice ya yl yc→a'.eval (.tmp 13)=.map (some b)→a'.eval (.tmp 16)=.int .i64 (i+1:Nat)→K a' x):(atc Tryz.f10.body [1,1,1,1,1,1,1,0,1,0,0,1,1]).wp Tryz.prog (Exit.then K Q) a x:=by
 obtain ⟨cc,hcc,hce⟩:=expand109 hs hd
 have g7:=(hce 7).trans x7
 have g9:=(hce 9).trans x9
 have g11:=(hce 11).trans x11
 have g13:=(hce 13).trans x13
 have g16:=(hce 16).trans x16
 clear hce hs hd x7 x9 x11 x13 x16
 subst hcc
 conv=>arg 2; whnf
 simp only [lit109,g7,g9,g11,g13,g16]
 clear g7 g9 g11 g13 g16
 have hq:IntKind.i64.wrap ((i:Int)+1)=((i+1:Nat):Int):=by simp [IntKind.wrap,IntKind.bits,IntKind.signed]; omega
 have HK:Hid _:=hK
 clear hK
 go_wp2
 refine HK.out _ rfl rfl rfl rfl rfl rfl ?_
 first | rfl | exact congrArg (Value.int .i64) (by omega) | (show Value.int .i64 _=_; rw [← hq])
set_option maxRecDepth 100000 in
set_option maxHeartbeats 1600000 in
theorem sh_4ini (hs:a.tmps.size=109) (hd:a.defers=[]) (x7:a.eval (.tmp 7)=.pointer (some ⟨eb,0,none⟩)) (x9:a.eval (.tmp 9)=.slice xa xl xc) (x11:a.eval (.tmp 11)=.slice ya yl yc) (x13:a.eval (.tmp 13)=.map (some b))
  
  (hK:∀ a',a'.tmps.size=109→a'.defers=[]→a'.eval (.tmp 7)=.pointer (some ⟨eb,0,none⟩)→a'.eval (.tmp 9)=.slice xa xl xc→a'.eval (.tmp 11)=.slice ya yl yc→a'.eval (.tmp 13)=.map (some b)→a'.eval (.tmp 17)=.int .i64 0→ K a' x):(atc Tryz.f10.body [1,1,1,1,1,1,1,1,0,0]).wp Tryz.prog (Exit.then K Q) a x:=by
 obtain ⟨cc,hcc,hce⟩:=expand109 hs hd
 have g7:=(hce 7).trans x7
 have g9:=(hce 9).trans x9
 have g11:=(hce 11).trans x11
 have g13:=(hce 13).trans x13
 clear hce hs hd x7 x9 x11 x13
 subst hcc
 conv=>arg 2; whnf
 simp only [lit109,g7,g9,g11,g13]
 clear g7 g9 g11 g13
 have HK:Hid _:=hK
 clear hK
 go_wp2
 exact HK.out _ rfl rfl rfl rfl rfl rfl rfl 
set_option maxRecDepth 100000 in
set_option maxHeartbeats 1600000 in
theorem sh_4in (hs:a.tmps.size=109) (hd:a.defers=[]) (x7:a.eval (.tmp 7)=.pointer (some ⟨eb,0,none⟩)) (x9:a.eval (.tmp 9)=.slice xa xl xc) (x11:a.eval (.tmp 11)=.slice ya yl yc) (x13:a.eval (.tmp 13)=.map (some b)) (x17:a.eval (.tmp 17)=.int .i64 i)
   (hi:(i:Int) < yl)
  (hK:∀ a',a'.tmps.size=109→a'.defers=[]→a'.eval (.tmp 7)=.pointer (some ⟨eb,0,none⟩)→a'.eval (.tmp 9)=.slice xa xl xc→a'.eval (.tmp 11)=.slice ya yl yc→a'.eval (.tmp 13)=.map (some b)→a'.eval (.tmp 17)=.int .i64 i→ K a' x):(atc Tryz.f10.body [1,1,1,1,1,1,1,1,0,1,0,0,0]).wp Tryz.prog (Exit.then K Q) a x:=by
 obtain ⟨cc,hcc,hce⟩:=expand109 hs hd
 have g7:=(hce 7).trans x7
 have g9:=(hce 9).trans x9
 have g11:=(hce 11).trans x11
 have g13:=(hce 13).trans x13
 have g17:=(hce 17).trans x17
 clear hce hs hd x7 x9 x11 x13 x17
 subst hcc
 conv=>arg 2; whnf
 simp only [lit109,g7,g9,g11,g13,g17]
 clear g7 g9 g11 g13 g17
 have HK:Hid _:=hK
 clear hK
 go_wp2
 exact HK.out _ rfl rfl rfl rfl rfl rfl rfl 
set_option maxRecDepth 100000 in
set_option maxHeartbeats 1600000 in
theorem sh_4out (hs:a.tmps.size=109) (hd:a.defers=[]) (x7:a.eval (.tmp 7)=.pointer (some ⟨eb,0,none⟩)) (x9:a.eval (.tmp 9)=.slice xa xl xc) (x11:a.eval (.tmp 11)=.slice ya yl yc) (x13:a.eval (.tmp 13)=.map (some b)) (x17:a.eval (.tmp 17)=.int .i64 i)
   (hi:¬ (i:Int) < yl)
  (hQ:∀ a',a'.tmps.size=109→a'.defers=[]→a'.eval (.tmp 7)=.pointer (some ⟨eb,0,none⟩)→a'.eval (.tmp 9)=.slice xa xl xc→a'.eval (.tmp 11)=.slice ya yl yc→a'.eval (.tmp 13)=.map (some b)→ Q (.exit 6) a' x):(atc Tryz.f10.body [1,1,1,1,1,1,1,1,0,1,0,0,0]).wp Tryz.prog (Exit.then K Q) a x:=by
 obtain ⟨cc,hcc,hce⟩:=expand109 hs hd
 have g7:=(hce 7).trans x7
 have g9:=(hce 9).trans x9
 have g11:=(hce 11).trans x11
 have g13:=(hce 13).trans x13
 have g17:=(hce 17).trans x17
 clear hce hs hd x7 x9 x11 x13 x17
 subst hcc
 conv=>arg 2; whnf
 simp only [lit109,g7,g9,g11,g13,g17]
 clear g7 g9 g11 g13 g17
 have HK:Hid _:=hQ
 clear hQ
 go_wp2
 exact HK.out _ rfl rfl rfl rfl rfl rfl 
set_option maxRecDepth 100000 in
set_option maxHeartbeats 1600000 in
theorem sh_4look (hs:a.tmps.size=109) (hd:a.defers=[]) (x7:a.eval (.tmp 7)=.pointer (some ⟨eb,0,none⟩)) (x9:a.eval (.tmp 9)=.slice xa xl xc) (x11:a.eval (.tmp 11)=.slice (some ⟨g,0,none⟩) yl yc) (x13:a.eval (.tmp 13)=.map (some b)) (x17:a.eval (.tmp 17)=.int .i64 i)
  (hi:(i:Int) < yl) (hc:x.cell? ⟨g,i,none⟩=some (.int .i64 k)) (hm:(Instr.lookup 100 (.map (some b)) (.int .i64 k) false).run Tryz.prog x=.ok (.bool t) x) (ht:t=true)
  (hK:∀ a',a'.tmps.size=109→a'.defers=[]→a'.eval (.tmp 7)=.pointer (some ⟨eb,0,none⟩)→a'.eval (.tmp 9)=.slice xa xl xc→a'.eval (.tmp 11)=.slice (some ⟨g,0,none⟩) yl yc→a'.eval (.tmp 13)=.map (some b)→a'.eval (.tmp 17)=.int .i64 i→ K a' x):(atc Tryz.f10.body [1,1,1,1,1,1,1,1,0,1,0,0,1,0,0]).wp Tryz.prog (Exit.then K Q) a x:=by
 obtain ⟨cc,hcc,hce⟩:=expand109 hs hd
 have g7:=(hce 7).trans x7
 have g9:=(hce 9).trans x9
 have g11:=(hce 11).trans x11
 have g13:=(hce 13).trans x13
 have g17:=(hce 17).trans x17
 clear hce hs hd x7 x9 x11 x13 x17
 subst hcc
 conv=>arg 2; whnf
 simp only [lit109,g7,g9,g11,g13,g17]
 clear g7 g9 g11 g13 g17
 subst ht
 have HK:Hid _:=hK
 clear hK
 go_wp2
 exact HK.out _ rfl rfl rfl rfl rfl rfl rfl 
set_option maxRecDepth 100000 in
set_option maxHeartbeats 1600000 in
theorem sh_4inc (hs:a.tmps.size=109) (hd:a.defers=[]) (x7:a.eval (.tmp 7)=.pointer (some ⟨eb,0,none⟩)) (x9:a.eval (.tmp 9)=.slice xa xl xc) (x11:a.eval (.tmp 11)=.slice ya yl yc) (x13:a.eval (.tmp 13)=.map (some b)) (x17:a.eval (.tmp 17)=.int .i64 i)
  (hi:i < 100000)
  (hK:∀ a',a'.tmps.size=109→a'.defers=[]→a'.eval (.tmp 7)=.pointer (some ⟨eb,0,none⟩)→a'.eval (.tmp 9)=.slice xa xl xc→a'.eval (.tmp 11)=.slice ya yl yc→a'.eval (.tmp 13)=.map (some b)→a'.eval (.tmp 17)=.int .i64 (i+1:Nat)→K a' x):(atc Tryz.f10.body [1,1,1,1,1,1,1,1,0,1,0,0,1,1]).wp Tryz.prog (Exit.then K Q) a x:=by
 obtain ⟨cc,hcc,hce⟩:=expand109 hs hd
 have g7:=(hce 7).trans x7
 have g9:=(hce 9).trans x9
 have g11:=(hce 11).trans x11
 have g13:=(hce 13).trans x13
 have g17:=(hce 17).trans x17
 clear hce hs hd x7 x9 x11 x13 x17
 subst hcc
 conv=>arg 2; whnf
 simp only [lit109,g7,g9,g11,g13,g17]
 clear g7 g9 g11 g13 g17
 have hq:IntKind.i64.wrap ((i:Int)+1)=((i+1:Nat):Int):=by simp [IntKind.wrap,IntKind.bits,IntKind.signed]; omega
 have HK:Hid _:=hK
 clear hK
 go_wp2
 refine HK.out _ rfl rfl rfl rfl rfl rfl ?_
 first | rfl | exact congrArg (Value.int .i64) (by omega) | (show Value.int .i64 _=_; rw [← hq])
set_option maxRecDepth 100000 in
set_option maxHeartbeats 1600000 in
theorem sh_end (hs:a.tmps.size=109) (hd:a.defers=[]) (x7:a.eval (.tmp 7)=.pointer (some ⟨eb,0,none⟩)) (x9:a.eval (.tmp 9)=.slice xa xl xc) (x11:a.eval (.tmp 11)=.slice ya yl yc) (x13:a.eval (.tmp 13)=.map (some b))
  (hm:(Builtin.len_ #[100] 3 #[.map (some b)]).run Tryz.prog x=.ok (.int .i64 yl) x)
  (hQ:∀ a',a'.tmps.size=109→a'.defers=[]→a'.eval (.tmp 8)=.bool true→ Q (.ret) a' x):(atc Tryz.f10.body [1,1,1,1,1,1,1,1,1]).wp Tryz.prog (Exit.then K Q) a x:=by
 obtain ⟨cc,hcc,hce⟩:=expand109 hs hd
 have g7:=(hce 7).trans x7
 have g9:=(hce 9).trans x9
 have g11:=(hce 11).trans x11
 have g13:=(hce 13).trans x13
 clear hce hs hd x7 x9 x11 x13
 subst hcc
 conv=>arg 2; whnf
 simp only [lit109,g7,g9,g11,g13]
 clear g7 g9 g11 g13
 have HK:Hid _:=hQ
 clear hQ
 go_wp2
 exact HK.out _ rfl rfl rfl 
end
end Go.Proofs.YtloljphbdfjgdaaGreatDoor
/- shares (skeinlaw12), alone, by contract: are the new root's nodes the old one's, less Gone, and Made? (Written by tools/gen/genshr2.py.) -/
namespace Go.Proofs.YtloljphbdfjgdaaGreatDoor
open Go.RowKit
theorem undMapS:Tryz.prog.underlying 100=some (.map 3 4):=by kernel_rfl
theorem undIntS:Tryz.prog.underlying 3=some (.int .i64):=by kernel_rfl
theorem zeroB (w:World):(zeroValue 4).run Tryz.prog w=.ok (.bool false) w:=by kernel_rfl
structure SF (eb b:Nat) (xv yv:Value) (a:Act):Prop where
 hs:a.tmps.size=109
 hd:a.defers=[]
 x7:a.eval (.tmp 7)=.pointer (some ⟨eb,0,none⟩)
 x9:a.eval (.tmp 9)=xv
 x11:a.eval (.tmp 11)=yv
 x13:a.eval (.tmp 13)=.map (some b)
structure SS (w1 x:World) (eb b:Nat) (r old:Int) (had:Bool) (xv yv gv mv:Value) (xs ys gone made S:List Int):Prop where
 tw:Turned [] w1 x
 low:w1.heap.size≤b
 box:x.heap[eb]?=some (.cells #[.int .i64 r,.int .i64 old,.bool had,gv,mv] 40 (0,0))
 rx:IR 0 x xv xs
 ry:IR 0 x yv ys
 rg:IR 0 x gv gone
 rm:IR 0 x mv made
 ms:MS x b S
theorem IR.offMap {B b:Nat} {w:World} {v:Value} {l S:List Int} (h:IR B w v l) (hm:MS w b S):∀ g,v.ownBlock=some g→g∉[b]:=fun g hg hb=>by
 obtain ⟨cs,hc⟩:=h.type hg
 obtain ⟨es,c,h1,-⟩:=hm.ex
 simp only [List.mem_singleton] at hb
 subst hb
 rw [hc] at h1
 cases h1
section
variable {w1 x x':World} {eb b:Nat} {r old:Int} {had:Bool} {xv yv gv mv:Value} {xs ys gone made S S':List Int}
theorem SS.step (h:SS w1 x eb b r old had xv yv gv mv xs ys gone made S) (ht:Turned [b] x x') (hm:MS x' b S'):SS w1 x' eb b r old had xv yv gv mv xs ys gone made S':=by
 refine ⟨h.tw.inner ht (fun z hz=>by simp at hz; subst hz; exact .inr h.low),h.low,ht.heap h.box (fun hb=>?_),h.rx.keep ht (h.rx.offMap h.ms),h.ry.keep ht (h.ry.offMap h.ms),h.rg.keep ht (h.rg.offMap h.ms),h.rm.keep ht (h.rm.offMap h.ms),hm⟩
 obtain ⟨es,c,h1,-⟩:=h.ms.ex
 simp only [List.mem_singleton] at hb
 subst hb
 rw [h.box] at h1
 cases h1
theorem IR.isAt {B:Nat} {w:World} {v:Value} {l:List Int} (h:IR B w v l) {i:Nat} (hi:i < l.length):∃ g c,v=.slice (some ⟨g,0,none⟩) l.length c∧w.cell? ⟨g,i,none⟩=some (.int .i64 l[i]):=by
 rcases h.own.2 with ⟨rfl,h0⟩ | ⟨g,c,cs,rfl,hb,hg,h3⟩
 ·omega
 ·exact ⟨g,c,rfl,IR.cells h hi⟩
end
section
variable {w1 x:World} {eb b xc yc gc mc:Nat} {xa ya ga ma:Option Addr} {r old:Int} {had:Bool} {xs ys gone made S:List Int} {a:Act} {K:Act→World→Prop} {Q:Exit→Act→World→Prop}
theorem sh_loop1 (hX:Shr xs ys gone made) (hlen:xs.length≤90000) (f:SF eb b (.slice xa xs.length xc) (.slice ya ys.length yc) a) (h:SS w1 x eb b r old had (.slice xa xs.length xc) (.slice ya ys.length yc) (.slice ga gone.length gc) (.slice ma made.length mc) xs ys gone made ([]))
  (hK:∀ a' y,SF eb b (.slice xa xs.length xc) (.slice ya ys.length yc) a'→SS w1 y eb b r old had (.slice xa xs.length xc) (.slice ya ys.length yc) (.slice ga gone.length gc) (.slice ma made.length mc) xs ys gone made (xs)→K a' y):(atc Tryz.f10.body [1,1,1,1,1,0]).wp Tryz.prog (Exit.then K Q) a x:=by
 refine wp_seq (sh_1ini f.hs f.hd f.x7 f.x9 f.x11 f.x13 ?_)
 clear f
 intro a1 hs hd x7 x9 x11 x13 xi
 refine wp_block ?_
 refine wp_loop (fun a' y=>∃ i,i≤xs.length∧SF eb b (.slice xa xs.length xc) (.slice ya ys.length yc) a'∧a'.eval (.tmp 14)=.int .i64 (i:Nat)∧SS w1 y eb b r old had (.slice xa xs.length xc) (.slice ya ys.length yc) (.slice ga gone.length gc) (.slice ma made.length mc) xs ys gone made (xs.take i)) (fun a' _=>xs.length - (intOf (a'.eval (.tmp 14))).toNat) ⟨0,Nat.zero_le _,⟨hs,hd,x7,x9,x11,x13⟩,xi,h⟩ ?_
 clear hs hd x7 x9 x11 x13 xi h
 rintro a2 y ⟨i,hi,f,xi,h⟩
 have hmu:(intOf (a2.eval (.tmp 14))).toNat=i:=by rw [xi]; simp [intOf]
 rw [hmu]
 by_cases hlt:i < xs.length
 ·refine wp_seq (sh_1in f.hs f.hd f.x7 f.x9 f.x11 f.x13 xi (by omega) ?_)
  clear f xi hmu
  intro a3 hs hd x7 x9 x11 x13 xi
  refine wp_seq (wp_block ?_)
  obtain ⟨g,c,hv,hc⟩:=h.rx.isAt hlt
  cases hv
  have hn:xs[i]∉xs.take i:=nodup_take hX.x1 hlt
  obtain ⟨z,hz,htz,hmz⟩:=put_ms (P:=Tryz.prog) h.ms undMapS undIntS xs[i] hn
  have h2:=h.step htz hmz
  rw [← take_snoc hlt] at h2
  refine wp_endB (sh_1put hs hd x7 x9 x11 x13 xi (by omega) hc hz ?_)
  clear hs hd x7 x9 x11 x13 xi
  intro a5 hs hd x7 x9 x11 x13 xi
  refine wp_endB (sh_1inc hs hd x7 x9 x11 x13 xi (by omega) ?_)
  clear hs hd x7 x9 x11 x13 xi
  intro a6 hs hd x7 x9 x11 x13 xi
  refine ⟨⟨i+1,by omega,⟨hs,hd,x7,x9,x11,x13⟩,xi,h2⟩,?_⟩
  rw [xi]; simp only [intOf]; omega
 ·have e:i=xs.length:=by omega
  subst e
  refine wp_seq (sh_1out f.hs f.hd f.x7 f.x9 f.x11 f.x13 xi (by omega) ?_)
  intro a3 hs hd x7 x9 x11 x13
  rw [List.take_of_length_le (Nat.le_refl _)] at h
  exact hK a3 y ⟨hs,hd,x7,x9,x11,x13⟩ h
theorem sh_loop2 (hX:Shr xs ys gone made) (hlen:gone.length≤90000) (f:SF eb b (.slice xa xs.length xc) (.slice ya ys.length yc) a) (h:SS w1 x eb b r old had (.slice xa xs.length xc) (.slice ya ys.length yc) (.slice ga gone.length gc) (.slice ma made.length mc) xs ys gone made (xs))
  (hK:∀ a' y,SF eb b (.slice xa xs.length xc) (.slice ya ys.length yc) a'→SS w1 y eb b r old had (.slice xa xs.length xc) (.slice ya ys.length yc) (.slice ga gone.length gc) (.slice ma made.length mc) xs ys gone made (erL xs gone)→K a' y):(atc Tryz.f10.body [1,1,1,1,1,1,0]).wp Tryz.prog (Exit.then K Q) a x:=by
 refine wp_seq (sh_2ini f.hs f.hd f.x7 f.x9 f.x11 f.x13 ?_)
 clear f
 intro a1 hs hd x7 x9 x11 x13 xi
 refine wp_block ?_
 refine wp_loop (fun a' y=>∃ i,i≤gone.length∧SF eb b (.slice xa xs.length xc) (.slice ya ys.length yc) a'∧a'.eval (.tmp 15)=.int .i64 (i:Nat)∧SS w1 y eb b r old had (.slice xa xs.length xc) (.slice ya ys.length yc) (.slice ga gone.length gc) (.slice ma made.length mc) xs ys gone made (erL xs (gone.take i))) (fun a' _=>gone.length - (intOf (a'.eval (.tmp 15))).toNat) ⟨0,Nat.zero_le _,⟨hs,hd,x7,x9,x11,x13⟩,xi,h⟩ ?_
 clear hs hd x7 x9 x11 x13 xi h
 rintro a2 y ⟨i,hi,f,xi,h⟩
 have hmu:(intOf (a2.eval (.tmp 15))).toNat=i:=by rw [xi]; simp [intOf]
 rw [hmu]
 by_cases hlt:i < gone.length
 ·refine wp_seq (sh_2in f.hs f.hd f.x7 f.x9 f.x11 f.x13 xi (cell_at h.box 3) (by omega) ?_)
  clear f xi hmu
  intro a3 hs hd x7 x9 x11 x13 xi
  refine wp_seq (wp_block ?_)
  obtain ⟨g,c,hv,hc⟩:=h.rg.isAt hlt
  have hbx:=cell_at h.box 3
  simp at hbx
  rw [hv] at hbx
  have hn:=hX.gone_in hlt
  have hlk:=look_ms (P:=Tryz.prog) h.ms undMapS undIntS (zeroB _) gone[i]
  rw [decide_eq_true hn] at hlk
  obtain ⟨z,hz,htz,hmz⟩:∃ z,(∀ ty,(Builtin.delete_ #[100,3] ty #[.map (some b),.int .i64 gone[i]]).run Tryz.prog y=.ok (.tuple #[]) z)∧Turned [b] y z∧MS z b ((erL xs (gone.take i)).erase gone[i]):=by
   obtain ⟨z,hz,h1,h2⟩:=drop_ms (P:=Tryz.prog) (ty:=0) h.ms undMapS undIntS gone[i] hn
   exact ⟨z,fun ty=>hz,h1,h2⟩
  have h2:=h.step htz hmz
  rw [← erL_snoc,← take_snoc hlt] at h2
  refine wp_seq (sh_2look hs hd x7 x9 x11 x13 xi hbx (by omega) hc hlk rfl ?_)
  clear hs hd x7 x9 x11 x13 xi
  intro a4 hs hd x7 x9 x11 x13 xi
  refine wp_endB (sh_2del hs hd x7 x9 x11 x13 xi hbx (by omega) hc hz ?_)
  clear hs hd x7 x9 x11 x13 xi
  intro a5 hs hd x7 x9 x11 x13 xi
  refine wp_endB (sh_2inc hs hd x7 x9 x11 x13 xi (by omega) ?_)
  clear hs hd x7 x9 x11 x13 xi
  intro a6 hs hd x7 x9 x11 x13 xi
  refine ⟨⟨i+1,by omega,⟨hs,hd,x7,x9,x11,x13⟩,xi,h2⟩,?_⟩
  rw [xi]; simp only [intOf]; omega
 ·have e:i=gone.length:=by omega
  subst e
  refine wp_seq (sh_2out f.hs f.hd f.x7 f.x9 f.x11 f.x13 xi (cell_at h.box 3) (by omega) ?_)
  intro a3 hs hd x7 x9 x11 x13
  rw [List.take_of_length_le (Nat.le_refl _)] at h
  exact hK a3 y ⟨hs,hd,x7,x9,x11,x13⟩ h
theorem sh_loop3 (hX:Shr xs ys gone made) (hlen:made.length≤90000) (f:SF eb b (.slice xa xs.length xc) (.slice ya ys.length yc) a) (h:SS w1 x eb b r old had (.slice xa xs.length xc) (.slice ya ys.length yc) (.slice ga gone.length gc) (.slice ma made.length mc) xs ys gone made (erL xs gone))
  (hK:∀ a' y,SF eb b (.slice xa xs.length xc) (.slice ya ys.length yc) a'→SS w1 y eb b r old had (.slice xa xs.length xc) (.slice ya ys.length yc) (.slice ga gone.length gc) (.slice ma made.length mc) xs ys gone made (erL xs gone ++ made)→K a' y):(atc Tryz.f10.body [1,1,1,1,1,1,1,0]).wp Tryz.prog (Exit.then K Q) a x:=by
 refine wp_seq (sh_3ini f.hs f.hd f.x7 f.x9 f.x11 f.x13 ?_)
 clear f
 intro a1 hs hd x7 x9 x11 x13 xi
 refine wp_block ?_
 refine wp_loop (fun a' y=>∃ i,i≤made.length∧SF eb b (.slice xa xs.length xc) (.slice ya ys.length yc) a'∧a'.eval (.tmp 16)=.int .i64 (i:Nat)∧SS w1 y eb b r old had (.slice xa xs.length xc) (.slice ya ys.length yc) (.slice ga gone.length gc) (.slice ma made.length mc) xs ys gone made (erL xs gone ++ made.take i)) (fun a' _=>made.length - (intOf (a'.eval (.tmp 16))).toNat) ⟨0,Nat.zero_le _,⟨hs,hd,x7,x9,x11,x13⟩,xi,by simpa using h⟩ ?_
 clear hs hd x7 x9 x11 x13 xi h
 rintro a2 y ⟨i,hi,f,xi,h⟩
 have hmu:(intOf (a2.eval (.tmp 16))).toNat=i:=by rw [xi]; simp [intOf]
 rw [hmu]
 by_cases hlt:i < made.length
 ·refine wp_seq (sh_3in f.hs f.hd f.x7 f.x9 f.x11 f.x13 xi (cell_at h.box 4) (by omega) ?_)
  clear f xi hmu
  intro a3 hs hd x7 x9 x11 x13 xi
  refine wp_seq (wp_block ?_)
  obtain ⟨g,c,hv,hc⟩:=h.rm.isAt hlt
  have hbx:=cell_at h.box 4
  simp at hbx
  rw [hv] at hbx
  have hn:=hX.made_out hlt
  have hlk:=look_ms (P:=Tryz.prog) h.ms undMapS undIntS (zeroB _) made[i]
  rw [decide_eq_false hn] at hlk
  obtain ⟨z,hz,htz,hmz⟩:=put_ms (P:=Tryz.prog) h.ms undMapS undIntS made[i] hn
  have h2:=h.step htz hmz
  rw [List.append_assoc,← take_snoc hlt] at h2
  refine wp_seq (sh_3look hs hd x7 x9 x11 x13 xi hbx (by omega) hc hlk rfl ?_)
  clear hs hd x7 x9 x11 x13 xi
  intro a4 hs hd x7 x9 x11 x13 xi
  refine wp_endB (sh_3put hs hd x7 x9 x11 x13 xi hbx (by omega) hc hz ?_)
  clear hs hd x7 x9 x11 x13 xi
  intro a5 hs hd x7 x9 x11 x13 xi
  refine wp_endB (sh_3inc hs hd x7 x9 x11 x13 xi (by omega) ?_)
  clear hs hd x7 x9 x11 x13 xi
  intro a6 hs hd x7 x9 x11 x13 xi
  refine ⟨⟨i+1,by omega,⟨hs,hd,x7,x9,x11,x13⟩,xi,h2⟩,?_⟩
  rw [xi]; simp only [intOf]; omega
 ·have e:i=made.length:=by omega
  subst e
  refine wp_seq (sh_3out f.hs f.hd f.x7 f.x9 f.x11 f.x13 xi (cell_at h.box 4) (by omega) ?_)
  intro a3 hs hd x7 x9 x11 x13
  rw [List.take_of_length_le (Nat.le_refl _)] at h
  exact hK a3 y ⟨hs,hd,x7,x9,x11,x13⟩ h
theorem sh_loop4 (hS:S=erL xs gone ++ made) (hX:Shr xs ys gone made) (hlen:ys.length≤90000) (f:SF eb b (.slice xa xs.length xc) (.slice ya ys.length yc) a) (h:SS w1 x eb b r old had (.slice xa xs.length xc) (.slice ya ys.length yc) (.slice ga gone.length gc) (.slice ma made.length mc) xs ys gone made (S))
  (hK:∀ a' y,SF eb b (.slice xa xs.length xc) (.slice ya ys.length yc) a'→SS w1 y eb b r old had (.slice xa xs.length xc) (.slice ya ys.length yc) (.slice ga gone.length gc) (.slice ma made.length mc) xs ys gone made (S)→K a' y):(atc Tryz.f10.body [1,1,1,1,1,1,1,1,0]).wp Tryz.prog (Exit.then K Q) a x:=by
 refine wp_seq (sh_4ini f.hs f.hd f.x7 f.x9 f.x11 f.x13 ?_)
 clear f
 intro a1 hs hd x7 x9 x11 x13 xi
 refine wp_block ?_
 refine wp_loop (fun a' y=>∃ i,i≤ys.length∧SF eb b (.slice xa xs.length xc) (.slice ya ys.length yc) a'∧a'.eval (.tmp 17)=.int .i64 (i:Nat)∧SS w1 y eb b r old had (.slice xa xs.length xc) (.slice ya ys.length yc) (.slice ga gone.length gc) (.slice ma made.length mc) xs ys gone made (S)) (fun a' _=>ys.length - (intOf (a'.eval (.tmp 17))).toNat) ⟨0,Nat.zero_le _,⟨hs,hd,x7,x9,x11,x13⟩,xi,h⟩ ?_
 clear hs hd x7 x9 x11 x13 xi h
 rintro a2 y ⟨i,hi,f,xi,h⟩
 have hmu:(intOf (a2.eval (.tmp 17))).toNat=i:=by rw [xi]; simp [intOf]
 rw [hmu]
 by_cases hlt:i < ys.length
 ·refine wp_seq (sh_4in f.hs f.hd f.x7 f.x9 f.x11 f.x13 xi (by omega) ?_)
  clear f xi hmu
  intro a3 hs hd x7 x9 x11 x13 xi
  refine wp_seq (wp_block ?_)
  obtain ⟨g,c,hv,hc⟩:=h.ry.isAt hlt
  cases hv
  have hn:=hX.y1 _ (List.getElem_mem hlt)
  rw [← hS] at hn
  have hlk:=look_ms (P:=Tryz.prog) h.ms undMapS undIntS (zeroB _) ys[i]
  rw [decide_eq_true hn] at hlk
  refine wp_endB (sh_4look hs hd x7 x9 x11 x13 xi (by omega) hc hlk rfl ?_)
  clear hs hd x7 x9 x11 x13 xi
  intro a5 hs hd x7 x9 x11 x13 xi
  refine wp_endB (sh_4inc hs hd x7 x9 x11 x13 xi (by omega) ?_)
  clear hs hd x7 x9 x11 x13 xi
  intro a6 hs hd x7 x9 x11 x13 xi
  refine ⟨⟨i+1,by omega,⟨hs,hd,x7,x9,x11,x13⟩,xi,h⟩,?_⟩
  rw [xi]; simp only [intOf]; omega
 ·have e:i=ys.length:=by omega
  subst e
  refine wp_seq (sh_4out f.hs f.hd f.x7 f.x9 f.x11 f.x13 xi (by omega) ?_)
  intro a3 hs hd x7 x9 x11 x13
  exact hK a3 y ⟨hs,hd,x7,x9,x11,x13⟩ h
end
section
variable {w:World} {tb p:Nat} {F:List Nat} {s:PSt} {o o':Option Tr} {B:Nat} {gv mv:Value} {gone made:List Int}
set_option maxRecDepth 100000 in
set_option maxHeartbeats 3200000 in
theorem cShares (hA:AtZ w p F s) (hO:s.Ok) (hT:TrieB w tb p) (ntb:tb∉F) (hH:Holds s o) (hH':Holds s o') (hg:IR B w gv gone) (hm:IR B w mv made) (hX:Shr (hsx o) (hsx o') gone made) (hl1:(hsx o).length≤90000) (hl2:(hsx o').length≤90000) (hl3:gone.length≤90000) (hl4:made.length≤90000) (r old:Int) (had:Bool) :
  Calls Tryz.prog 10 #[pt tb,.int .i64 (rootO o),.int .i64 (rootO o'),.agg #[.int .i64 r,.int .i64 old,.bool had,gv,mv]] w fun e w'=>e=.returned (.bool true)∧Turned F w w'∧AtZ w' p F s:=by
 obtain ⟨ga,gc,rfl⟩:=hg.form
 obtain ⟨ma,mc,rfl⟩:=hm.form
 have hFlt:=poolLawsZ.lt hA
 have lowIR:∀ {B:Nat} {w:World} {v:Value} {l:List Int},IR B w v l→IR 0 w v l:=fun h=>h.lower (Nat.zero_le _)
 have HN:Hid (∀ w1,AtZ w1 p F s→TrieB w1 tb p→∀ q,Holds s q→Calls Tryz.prog 30 #[pt tb,.pointer none,.int .i64 (rootO q)] w1 fun e w'=>∃ v,e=.returned (.tuple #[v,.int .i64 0])∧Turned F w1 w'∧AtZ w' p F s∧IR w1.heap.size w' v (hsx q)):=fun w1 a1 a2 q a3=>trieLaws.nodes a1 hO a2 ntb a3
 have HA:Hid (AtZ w p F s∧TrieB w tb p∧Holds s o∧Holds s o'∧(∀ z,z∈F→z < w.heap.size)):=⟨hA,hT,hH,hH',hFlt⟩
 have HG:Hid (IR B w (.slice ga gone.length gc) gone∧IR B w (.slice ma made.length mc) made∧tb∉F):=⟨hg,hm,ntb⟩
 have HX:Hid (Shr (hsx o) (hsx o') gone made∧(hsx o).length≤90000∧(hsx o').length≤90000∧gone.length≤90000∧made.length≤90000):=⟨hX,hl1,hl2,hl3,hl4⟩
 clear hA hO hT ntb hH hH' hg hm hX hl1 hl2 hl3 hl4 hFlt
 go_enter Tryz.func10,Tryz.ntmps10
 refine wp_seq_k fun K0 hK0=>?_
 have H0:Hid _:=hK0
 clear hK0
 go_wp2
 refine H0.out _ _ ?_
 clear H0 K0
 have T0:Turned [] w (w.alloc (.cells #[.int .i64 r,.int .i64 old,.bool had,.slice ga gone.length gc,.slice ma made.length mc] 40 (0,0))):=(Turned.refl [] _).alloc _
 have hbx0:=blk_new w (.cells #[.int .i64 r,.int .i64 old,.bool had,.slice ga gone.length gc,.slice ma made.length mc] 40 (0,0))
 generalize hw0:World.alloc w _=w0 at T0 hbx0 ⊢
 clear hw0
 have HW:Hid (Turned [] w w0∧w0.heap[w.heap.size]?=some (.cells #[.int .i64 r,.int .i64 old,.bool had,.slice ga gone.length gc,.slice ma made.length mc] 40 (0,0))):=⟨T0,hbx0⟩
 clear T0 hbx0
 refine wp_seq_k fun K0 hK0=>?_
 have H0:Hid _:=hK0
 clear hK0
 have HN1:=HN.out w0 (poolLawsZ.keep HA.out.1 HW.out.1 (by simp)) (HA.out.2.1.still HW.out.1) o HA.out.2.2.1
 go_wp2_with (go_at_call 30; refine HN1.mono ?_; rintro e w1 ⟨xv,rfl,ht1,hA1,hx1⟩; obtain ⟨xa,xc,rfl⟩:=hx1.form; have H1:Hid (Turned F w0 w1∧AtZ w1 p F s∧IR w0.heap.size w1 (.slice xa (hsx o).length xc) (hsx o)):=⟨ht1,hA1,hx1⟩; clear ht1 hA1 hx1 HN1)
 refine H0.out _ _ ?_
 clear H0 K0
 refine wp_seq_k fun K0 hK0=>?_
 have H0:Hid _:=hK0
 clear hK0
 have HN1:=HN.out w1 H1.out.2.1 ((HA.out.2.1.still HW.out.1).keep H1.out.1 HG.out.2.2 HA.out.1.2) o' HA.out.2.2.2.1
 go_wp2_with (go_at_call 30; refine HN1.mono ?_; rintro e w2 ⟨yv,rfl,ht2,hA2,hy2⟩; obtain ⟨ya,yc,rfl⟩:=hy2.form; have H2:Hid (Turned F w1 w2∧AtZ w2 p F s∧IR w1.heap.size w2 (.slice ya (hsx o').length yc) (hsx o')):=⟨ht2,hA2,hy2⟩; clear ht2 hA2 hy2 HN1)
 refine H0.out _ _ ?_
 clear H0 K0 HN
 refine wp_seq_k fun K0 hK0=>?_
 have H0:Hid _:=hK0
 clear hK0
 go_wp2_with (go_at_call 7; refine (cNum _ _).mono ?_; rintro e w' ⟨rfl,hw⟩; obtain rfl:=hw.symm)
 refine H0.out _ _ ?_
 clear H0 K0
 refine wp_seq_k fun K0 hK0=>?_
 have H0:Hid _:=hK0
 clear hK0
 have hmm:=@run_makeMap Tryz.prog
 go_wp2
 refine H0.out _ _ ?_
 clear H0 K0 hmm
 obtain ⟨T0,hbx0⟩:=HW.out
 obtain ⟨t1,a1,hx1⟩:=H1.out
 obtain ⟨t2,a2,hy2⟩:=H2.out
 obtain ⟨hA,hT,hH,hH',hFlt⟩:=HA.out
 obtain ⟨hg,hm,ntb⟩:=HG.out
 obtain ⟨hX,hl1,hl2,hl3,hl4⟩:=HX.out
 have offI:∀ {B:Nat} {x:World} {v:Value} {l:List Int},AtZ x p F s→IR B x v l→∀ g,v.ownBlock=some g→g∉F:=fun hA h g hg=>by
  obtain ⟨cs,hc⟩:=h.type hg
  exact poolAt_other hA.1 hc (by decide)
 have hAw0:=poolLawsZ.keep hA T0 (by simp)
 have nE:w.heap.size∉F:=fun hm=>by have:=hFlt _ hm; omega
 have T2:Turned F w w2:=((T0.mono (by simp)).trans t1).trans t2
 have T3:Turned [] w2 (w2.alloc (.map #[] 0)):=(Turned.refl [] _).alloc _
 have h0:SS w2 (w2.alloc (.map #[] 0)) w.heap.size w2.heap.size r old had (.slice xa (hsx o).length xc) (.slice ya (hsx o').length yc) (.slice ga gone.length gc) (.slice ma made.length mc) (hsx o) (hsx o') gone made [] :=
  ⟨T3,Nat.le_refl _,T3.heap (t2.heap (t1.heap hbx0 nE) nE) (by simp),lowIR ((hx1.keep t2 (offI a1 hx1)).keep T3 (by simp)),lowIR (hy2.keep T3 (by simp)),lowIR ((hg.keep T2 (offI hA hg)).keep T3 (by simp)),lowIR ((hm.keep T2 (offI hA hm)).keep T3 (by simp)),MS.made _⟩
 refine (show (Code.seq (atc Tryz.f10.body [1,1,1,1,1,0]) (atc Tryz.f10.body [1,1,1,1,1,1])).wp _ _ _ _ from ?_)
 refine wp_seq (sh_loop1 hX hl1 ⟨rfl,rfl,rfl,rfl,rfl,rfl⟩ h0 ?_)
 intro a3 y3 f3 h3
 refine wp_seq (sh_loop2 hX hl3 f3 h3 ?_)
 intro a4 y4 f4 h4
 refine wp_seq (sh_loop3 hX hl4 f4 h4 ?_)
 intro a5 y5 f5 h5
 refine wp_seq (sh_loop4 rfl hX hl2 f5 h5 ?_)
 intro a6 y6 f6 h6
 have hlen:=len_ms (P:=Tryz.prog) (ts:=#[100]) (ty:=3) h6.ms undMapS rfl
 rw [← hX.len] at hlen
 refine wp_endB (sh_end f6.hs f6.hd f6.x7 f6.x9 f6.x11 f6.x13 hlen ?_)
 intro a7 hs hd x8
 exact bodyPost_ret (results_tmp rfl _ _ _) hd ⟨congrArg Ending.returned x8,T2.trans (h6.tw.mono (by simp)),poolLawsZ.keep a2 h6.tw (by simp)⟩
end
end Go.Proofs.YtloljphbdfjgdaaGreatDoor
/- A frame, spelled out. -/
namespace Go.Proofs.YtloljphbdfjgdaaGreatDoor
open Go.RowKit
def lit137 (c:Nat→Value):Array Value:=#[c 0,c 1,c 2,c 3,c 4,c 5,c 6,c 7,c 8,c 9,c 10,c 11,c 12,c 13,c 14,c 15,c 16,c 17,c 18,c 19,c 20,c 21,c 22,c 23,c 24,c 25,c 26,c 27,c 28,c 29,c 30,c 31,c 32,c 33,c 34,c 35,c 36,c 37,c 38,c 39,c 40,c 41,c 42,c 43,c 44,c 45,c 46,c 47,c 48,c 49,c 50,c 51,c 52,c 53,c 54,c 55,c 56,c 57,c 58,c 59,c 60,c 61,c 62,c 63,c 64,c 65,c 66,c 67,c 68,c 69,c 70,c 71,c 72,c 73,c 74,c 75,c 76,c 77,c 78,c 79,c 80,c 81,c 82,c 83,c 84,c 85,c 86,c 87,c 88,c 89,c 90,c 91,c 92,c 93,c 94,c 95,c 96,c 97,c 98,c 99,c 100,c 101,c 102,c 103,c 104,c 105,c 106,c 107,c 108,c 109,c 110,c 111,c 112,c 113,c 114,c 115,c 116,c 117,c 118,c 119,c 120,c 121,c 122,c 123,c 124,c 125,c 126,c 127,c 128,c 129,c 130,c 131,c 132,c 133,c 134,c 135,c 136]
set_option maxRecDepth 100000 in
theorem lit137_eq (c:Nat→Value):lit137 c=((List.range 137).map c).toArray:=by rfl
theorem expand137 {a:Act} (hs:a.tmps.size=137) (hd:a.defers=[]):∃ c:Nat→Value,a=⟨lit137 c,[]⟩∧∀ s,c s=a.eval (.tmp s):=by
 refine ⟨fun s=>a.tmps.getD s undef,?_,fun s=>rfl⟩
 obtain ⟨t,d⟩:=a
 simp only at hs hd
 subst hd
 congr 1
 rw [lit137_eq]
 refine Array.ext (by simp [hs]) fun i h1 h2=>?_
 simp [Array.getD,h1]
end Go.Proofs.YtloljphbdfjgdaaGreatDoor

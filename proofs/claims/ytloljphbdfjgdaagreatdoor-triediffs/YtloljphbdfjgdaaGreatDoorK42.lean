/- What the rows of TrieMaps and TrieDiffs have in common: the table of bits; the reading of changes. -/
import Derived.Test.YtloljphbdfjgdaaGreatDoorRows
import Derived.Test.YtloljphbdfjgdaaGreatDoorTie
import Derived.Test.YtloljphbdfjgdaaGreatDoorCards
import Derived.Test.YtloljphbdfjgdaaGreatDoorK36
import Derived.Test.YtloljphbdfjgdaaGreatDoorK41
import Derived.ProofKit
import Derived.LaidMore
import Derived.OpenShut
import Derived.Stop.Joined
import Derived.SizedLaws
import Derived.Lib.LaidTab
import Derived.SevenTiedAt
import Derived.Deep.Slices
namespace Go.Proofs.YtloljphbdfjgdaaGreatDoor
open Go.ChangeShapes Go.WideShapes Go.ChangeAt Go.WideMaps Go.WideElems Go.RowKit Go.Deep
theorem Tryz.own:ownKnob Tryz.prog.godebug=none:=by kernel_rfl
theorem gBit:Tryz.prog.globalNamed "skein/word.bitAt" = some 0:=by kernel_rfl
theorem tBit:(Tryz.prog.globals[0]?).map (·.type)=some 228:=by kernel_rfl
theorem cellsIntR:Tryz.prog.cellsOf 3=1:=by kernel_rfl
theorem cellsChgR:Tryz.prog.cellsOf 36=4:=by kernel_rfl
theorem cellsBoolR:Tryz.prog.cellsOf 4=1:=by kernel_rfl
theorem cellsBit:Tryz.prog.cellsOf 228=32:=by kernel_rfl
theorem laidOutR:laidOutB Tryz.prog=true:=by kernel_rfl
def laidOne:List (String × DataW Unit):=[("skein/word.bitAt",Rows.laid_skein_word_bitAt)]
def zsB:List Int:=(List.range 32).map p2
theorem zs_at (i:Nat) (h:i < 32):zsB[i]?=some (p2 i):=by
 simp [zsB,h]
theorem laid_zs:laidOne=[("skein/word.bitAt",Lib.tabData .i64 zsB)]:=by kernel_rfl
theorem tab_of_laid {W:World} (h:laidMetH Tryz.prog laidOne W):Tab W:=by
 rw [MakeChecks.laidMetH_plain _ _ _ (by kernel_rfl)] at h
 rw [laid_zs] at h
 have ht:=Lib.tabIs_of_head gBit tBit Tryz.underlying228 Tryz.underlying3 cellsIntR cellsBit h
 intro i hi
 have hc:=World.var?_cell gBit ht i
 rw [hc]
 simp [zs_at i hi]
theorem door_met (os:Os) (args:Array Value):laidMetH Tryz.prog laidOne ((World.doorLaid Tryz.prog 1103 os).forCall (fun _ _=>0) ⟨#[],args,[]⟩).memory :=
 laidMetH_of_parts3 (fuel:=8) (laidMet_of_run' 8 (by kernel_rfl) (by kernel_rfl)) (by kernel_rfl) (by kernel_rfl)
theorem Tab.pos {w:World} (hT:Tab w):0 < w.heap.size:=by
 have h:=hT 0 (by omega)
 apply Classical.byContradiction
 intro hn
 rw [World.cell?] at h
 have:w.heap[0]?=none:=Array.getElem?_eq_none (by omega)
 simp [this] at h
section
variable {H:Type} {enc:TypeId × Value→H} {W:World} {base:Nat} {v:Value} {d:DataW H} {p:List MemPlace}
set_option maxRecDepth 100000 in
theorem view_chgs (hok:Value.okWide Tryz.prog W .any base 22 v) (h:DataW.Trod enc Tryz.prog W 0 (fun _=>true) true 22 v d p):∃ la ll lc,v=.slice la ll lc∧ChgsAt W la ll:=by
 obtain ⟨a0,len,cap,rfl⟩:=okWide_slice Tryz.underlying22 hok
 obtain ⟨fuel,hf⟩:=h
 rcases open_slice Tryz.underlying22 hf with ⟨hcs,_⟩ | ⟨a,len',cap',m,n,D,Pl,hcs,_,hl,_,hm,_,hel⟩
 ·simp [Value.cells] at hcs
  obtain ⟨rfl,rfl,rfl⟩:=hcs
  exact ⟨none,0,0,rfl,⟨fun j hj=>absurd hj (Nat.not_lt_zero _)⟩⟩
 ·simp [Value.cells] at hcs
  obtain ⟨rfl,rfl,rfl⟩:=hcs
  simp only [if_true] at hm
  refine ⟨some a,len,cap,rfl,⟨fun i hi=>?_⟩⟩
  obtain ⟨cs0,h10,-⟩:=hel 0 (by omega)
  rw [cellsChgR] at h10
  obtain ⟨-,hl0,hc0⟩:=World.cells?_some h10
  have t00:=hc0 0 (by omega)
  rw [add_add] at t00
  obtain ⟨cs',h1,h2⟩:=hel i (by omega)
  rw [cellsChgR] at h1
  obtain ⟨_,hlen,hcell⟩:=World.cells?_some h1
  obtain ⟨xs,k,_,_,_,hxl,hfs⟩:=DataW.trod_struct Tryz.underlying36 h2
  match xs,hxl,cs',hlen with
  | [y0,y1,y2,y3],_,[v0,v1,v2,v3],_ =>
   have g0:=hfs 0 _ rfl
   have g1:=hfs 1 _ rfl
   have g2:=hfs 2 _ rfl
   have g3:=hfs 3 _ rfl
   simp [cellsIntR,cellsBoolR] at g0 g1 g2 g3
   obtain ⟨z0,e0,_⟩:=DataW.trod_int Tryz.underlying3 g0
   obtain ⟨z1,e1,_⟩:=DataW.trod_int Tryz.underlying3 g1
   obtain ⟨z2,e2,_⟩:=DataW.trod_int Tryz.underlying3 g2
   obtain ⟨z3,e3,_⟩:=DataW.trod_bool Tryz.underlying4 g3
   simp at e0 e1 e2 e3
   subst e0 e1 e2 e3
   obtain ⟨b,off,spot⟩:=a
   have q:∀ j,j < 4→W.cell? ((⟨b,off,spot⟩:Addr).add (i * 4+j))=[Value.int .i64 z0,.int .i64 z1,.int .i64 z2,.bool z3][j]?:=fun j hj=>by
    have t0:=hcell j (by simpa using hj)
    rw [add_add] at t0
    exact t0.trans (by simp)
   have hspot:spot=none:=by simpa [Addr.add] using World.cell?_spot (t00.trans (List.getElem?_eq_getElem (show 0 < cs0.length by omega)))
   subst hspot
   have q':∀ j,j < 4→W.cell? ⟨b,off+i * 4+j,none⟩=[Value.int .i64 z0,.int .i64 z1,.int .i64 z2,.bool z3][j]?:=fun j hj=>by
    have:=q j hj
    simpa [add_plain,Nat.add_assoc] using this
   exact ⟨b,off,z0,z1,z2,z3,rfl,q' 0 (by omega),q' 1 (by omega),q' 2 (by omega),q' 3 (by omega)⟩
end
end Go.Proofs.YtloljphbdfjgdaaGreatDoor
/- Drawn regions of TrieDiffs: a change's answer is laid into a new block; two versions are. (Written by tools/gen/gendify.py.) -/
namespace Go.Proofs.YtloljphbdfjgdaaGreatDoor
open Go.RowKit
theorem x_remN {ρ:Operand→Value} {o:Oper} {w:World} {x y:Operand} {t:TypeId} {a b z:Int} (h:o.op=.binOp .rem 3 x y t) (hx:ρ x=.int .i64 a) (hy:ρ y=.int .i64 b) (hb:¬ b=0) (hz:a.tmod b=z) (h0:-1000000000≤z) (h1:z≤1000000000):(execOp ρ o).run Tryz.prog w=.ok (.value (.int .i64 z)) w:=by
 refine x_bin h hx hy (by go_simp) ?_
 have hw:IntKind.i64.wrap z=z:=by simp [IntKind.wrap,IntKind.bits,IntKind.signed]; omega
 subst hz
 go_simp
theorem ver_set {w:World} {b:Nat} {x0 x1 y0 y1:Value} (h:w.heap[b]?=some (.cells #[x0,x1] 33 (0,0))):((w.setCell ⟨b,0,none⟩ y0).setCell ⟨b,1,none⟩ y1).heap[b]?=some (.cells #[y0,y1] 33 (0,0)):=by
 rw [blk_set (blk_set h 0 y0) 1 y1]
 rfl
theorem ver_turned (w:World) (b:Nat) (y0 y1:Value):Turned [b] w ((w.setCell ⟨b,0,none⟩ y0).setCell ⟨b,1,none⟩ y1):=((Turned.refl _ _).set (.inl (by simp)) _ _).set (.inl (by simp)) _ _
structure GX where
 b1:Option Nat
 b2:Option Nat
 s1:Bool
 s2:Bool
def doneX (g:GX):Nat→Bool
 | 26=>g.b1.isSome
 | 27=>g.b2.isSome
 | 28=>g.s1
 | 29=>g.s2
 | _=>false
def verZ:Obj:=verObj 0 (.slice none 0 0)
structure SX (w:World) (r1 r2:Int) (l1 l2:Value) (g:GX) (x:World):Prop where
 tu:Turned [] w x
 bx1:∀ b,g.b1=some b→w.heap.size≤b∧x.heap[b]?=some (match g.s1 with | true=>verObj r1 l1 | false=>verZ)
 bx2:∀ b,g.b2=some b→w.heap.size≤b∧x.heap[b]?=some (match g.s2 with | true=>verObj r2 l2 | false=>verZ)
 ne:∀ b c,g.b1=some b→g.b2=some c→b≠c
def df_r13V (p tb qb qo ll lc i ag al ac c:Nat) (rt cf ky vy z:Int) (cd:Bool) (lv:Value)  (g:GE):Nat→Value:=fun j=>match j with | 0=>(pa p 0) | 1=>(pa tb 0) | 2=>(Value.slice (some ⟨ag,0,none⟩) al ac) | 3=>(Value.slice (some ⟨qb,qo,none⟩) ll lc) | 4=>(Value.int IntKind.i64 i) | 5=>(pa qb (qo+i * 4)) | 6=>(pa qb (qo+i * 4)) | 7=>(Value.int IntKind.i64 cf) | 8=>(Value.slice (some ⟨ag,0,none⟩) al ac) | 9=>(Value.int IntKind.i64 al) | 10=>(Value.int IntKind.i64 z) | 11=>(Value.slice (some ⟨ag,0,none⟩) al ac) | 12=>(Value.int IntKind.i64 al) | 13=>(Value.int IntKind.i64 (z+al)) | 14=>(Value.slice (some ⟨ag,0,none⟩) al ac) | 15=>(Value.int IntKind.i64 al) | 16=>(Value.int IntKind.i64 c) | 17=>(pa ag (c * 2)) | 18=>(Value.agg #[.int .i64 rt,lv]) | 19=>(Value.slice (some ⟨qb,qo,none⟩) ll lc) | 20=>(Value.int IntKind.i64 i) | 21=>(pa qb (qo+i * 4)) | 22=>(Value.agg #[.int .i64 cf,.int .i64 ky,.int .i64 vy,.bool cd]) | 23=>(match g.ca with | some v=>Value.tuple #[v.pv,(.agg #[.int .i64 v.root,.int .i64 v.old,.bool v.had,.slice v.ga v.gl v.gc,.slice v.ma v.ml v.mc]),.bool true] | none=>undef) | 24=>(match g.ca with | some v=>Value.tuple #[v.pv,(.agg #[.int .i64 v.root,.int .i64 v.old,.bool v.had,.slice v.ga v.gl v.gc,.slice v.ma v.ml v.mc]),.bool true] | none=>undef) | 25=>(match g.ca with | some v=>v.pv | none=>undef) | 26=>(match g.ca with | some v=>Value.agg #[.int .i64 v.root,.int .i64 v.old,.bool v.had,.slice v.ga v.gl v.gc,.slice v.ma v.ml v.mc] | none=>undef) | 27=>(match g.ca with | some _=>Value.bool true | none=>undef) | 28=>(pa (g.nb.getD 0) 0) | 29=>(match g.ca with | some v=>v.pv | none=>undef) | 30=>undef | 31=>(match g.ca with | some _=>Value.bool true | none=>undef) | _=>undef
set_option maxRecDepth 100000 in
set_option maxHeartbeats 1600000 in
theorem df_r13 {p tb qb qo ll lc i ag al ac c:Nat} {rt cf ky vy z:Int} {cd:Bool} {lv:Value} {P0:World→Prop} {P1:MdV→World→Prop} {K:Act→World→Prop} {Q:Exit→Act→World→Prop} {a0:Act} {w:World} (hs:a0.tmps.size=247) {C:World→Prop} (x7:a0.eval (.tmp 7)=pa p 0) (x9:a0.eval (.tmp 9)=pa tb 0) (x10:a0.eval (.tmp 10)=.slice (some ⟨ag,0,none⟩) al ac) (x0:a0.eval (.tmp 0)=.slice (some ⟨qb,qo,none⟩) ll lc) (x11:a0.eval (.tmp 11)=.int .i64 i) (hlv:∃ sa sl sc,lv=.slice sa sl sc) (hi:i < ll) (hal:al≤1000) (hpos:0 < al) (h1:cf.tmod (al:Int)=z) (z0:-(al:Int) < z) (z1:z < al) (h2:(z+al).tmod (al:Int)=c) (hc:c < al) (hc0:∀ x,P0 x→C x) (hc1:∀ v x,P1 v x→C x) (hcc:∀ x,C x→(x.cell? ⟨ag,c * 2,none⟩=some (.int .i64 rt)∧x.cell? ⟨ag,c * 2+1,none⟩=some lv)∧(x.cell? ⟨qb,qo+i * 4,none⟩=some (.int .i64 cf)∧x.cell? ⟨qb,qo+i * 4+1,none⟩=some (.int .i64 ky)∧x.cell? ⟨qb,qo+i * 4+2,none⟩=some (.int .i64 vy)∧x.cell? ⟨qb,qo+i * 4+3,none⟩=some (.bool cd)))
  (hA:P0 w.drew) (hP0:∀ x y,P0 x→Turned [] x y→P0 y) (hP1:∀ v x y,P1 v x→Turned [] x y→P1 v y) (hP2:∀ v x y nb,P1 v x→x.heap[nb]?=some editZ→w.heap.size≤nb→Turned [nb] x y→P1 v y) (hL0:∀ x,P0 x→w.heap.size≤x.heap.size) (hL1:∀ v x,P1 v x→w.heap.size≤x.heap.size)
  (hCall:∀ x,P0 x→Calls Tryz.prog 9 #[pa p 0,pa tb 0,.agg #[.int .i64 rt,lv],.agg #[.int .i64 cf,.int .i64 ky,.int .i64 vy,.bool cd]] x fun e w'=>∃ v:MdV,e=.returned (.tuple #[v.pv,(.agg #[.int .i64 v.root,.int .i64 v.old,.bool v.had,.slice v.ga v.gl v.gc,.slice v.ma v.ml v.mc]),.bool true])∧KeepT x w'∧P1 v w')
  (hEnd:∀ a' x nb v,a'.tmps.size=a0.tmps.size→a'.defers=a0.defers→(∀ s,some s∉([some 57,some 58,some 59,some 60,some 61,some 62,some 63,some 64,some 65,some 66,some 67,some 68,some 69,some 70,some 71,some 72,some 73,some 74,some 75,some 76,some 77,some 78,some 79,some 80,some 56,some 81,some 82,some 83,some 13,some 12,none,some 14]:List (Option Nat))→a'.eval (.tmp s)=a0.eval (.tmp s))→a'.eval (.tmp 13)=pa nb 0→a'.eval (.tmp 12)=v.pv→a'.eval (.tmp 14)=.bool true→P1 v x→x.heap[nb]?=some (editV v)→w.heap.size≤nb→K a' x):(Code.region 13 (opsOf 13 Tryz.f4.body) true).wp Tryz.prog (Exit.then K Q) a0 w:=by
 refine wp_region_ghost3 (G:=GE) (by kernel_rfl) [some 57,some 58,some 59,some 60,some 61,some 62,some 63,some 64,some 65,some 66,some 67,some 68,some 69,some 70,some 71,some 72,some 73,some 74,some 75,some 76,some 77,some 78,some 79,some 80,some 56,some 81,some 82,some 83,some 13,some 12,none,some 14] (by rw [hs]; kernel_rfl) (df_r13V p tb qb qo ll lc i ag al ac c rt cf ky vy z cd lv) [23,28,30] ?_ (doneE 23 28 30) (SE P0 P1 w) (⟨none,none,false⟩) (⟨fun _=>hA,(fun v h=>by cases h),fun nb hnb=>(by cases hnb)⟩) (by intro x hx; simp at hx; rcases hx with rfl | rfl | rfl <;> rfl) (by decide) ?_ ?_
 ·exact fun i g b h _=>absurd h (noG (by kernel_rfl) i g b)
 ·intro i hi hgd
  rcases (by simp at hi; omega:i=0∨i=1∨i=2∨i=3∨i=4∨i=5∨i=6∨i=7∨i=8∨i=9∨i=10∨i=11∨i=12∨i=13∨i=14∨i=15∨i=16∨i=17∨i=18∨i=19∨i=20∨i=21∨i=22∨i=23∨i=24∨i=25∨i=26∨i=27∨i=28∨i=29∨i=30∨i=31) with rfl | rfl | rfl | rfl | rfl | rfl | rfl | rfl | rfl | rfl | rfl | rfl | rfl | rfl | rfl | rfl | rfl | rfl | rfl | rfl | rfl | rfl | rfl | rfl | rfl | rfl | rfl | rfl | rfl | rfl | rfl | rfl
  ·refine soft (by decide) ?_
   intro o ac wa g ho hoff hv hS hdn
   exact (x_move (op_is rfl ho)).trans (by rw [((hoff 7 (by decide)).trans x7)]; rfl)
  ·refine soft (by decide) ?_
   intro o ac wa g ho hoff hv hS hdn
   exact (x_move (op_is rfl ho)).trans (by rw [((hoff 9 (by decide)).trans x9)]; rfl)
  ·refine soft (by decide) ?_
   intro o ac wa g ho hoff hv hS hdn
   exact (x_move (op_is rfl ho)).trans (by rw [((hoff 10 (by decide)).trans x10)]; rfl)
  ·refine soft (by decide) ?_
   intro o ac wa g ho hoff hv hS hdn
   exact (x_move (op_is rfl ho)).trans (by rw [((hoff 0 (by decide)).trans x0)]; rfl)
  ·refine soft (by decide) ?_
   intro o ac wa g ho hoff hv hS hdn
   exact (x_move (op_is rfl ho)).trans (by rw [((hoff 11 (by decide)).trans x11)]; rfl)
  ·refine soft (by decide) ?_
   intro o ac wa g ho hoff hv hS hdn
   have hlt:(i:Int) < ll:=by omega
   exact x_index (op_is rfl ho) (by rw [(hv 3 60 rfl (by kernel_rfl)),(hv 4 61 rfl (by kernel_rfl))]; show (Instr.indexAt _ (Value.slice _ _ _) (Value.int _ _)).run _ _=.ok (pa _ _) _; unfold pa; go_simp)
  ·refine soft (by decide) ?_
   intro o ac wa g ho hoff hv hS hdn
   exact x_field (op_is rfl ho) (by rw [(hv 5 62 rfl (by kernel_rfl))]; show (Instr.fieldAt _ (pa _ _) _).run _ _=.ok (pa _ _) _; unfold pa; go_simp)
  ·refine soft (by decide) ?_
   intro o ac wa g ho hoff hv hS hdn
   obtain ⟨c0,c1,c2,c3⟩:=(hcc _ (hS.c hc0 hc1)).2
   exact x_load (op_is rfl ho) (by rw [(hv 6 63 rfl (by kernel_rfl))]; show (Instr.loadAt _ (pa _ _)).run _ _=_; unfold pa; go_simp; first | rfl | skip)
  ·refine soft (by decide) ?_
   intro o ac wa g ho hoff hv hS hdn
   exact (x_move (op_is rfl ho)).trans (by rw [((hoff 10 (by decide)).trans x10)]; rfl)
  ·refine soft (by decide) ?_
   intro o ac wa g ho hoff hv hS hdn
   exact x_lenG (op_is rfl ho) ((hv 8 65 rfl (by kernel_rfl))) undVrs
  ·refine soft (by decide) ?_
   intro o ac wa g ho hoff hv hS hdn
   exact x_remN (op_is rfl ho) (hv 7 64 rfl (by kernel_rfl)) (hv 9 66 rfl (by kernel_rfl)) (by omega) h1 (by omega) (by omega)
  ·refine soft (by decide) ?_
   intro o ac wa g ho hoff hv hS hdn
   exact (x_move (op_is rfl ho)).trans (by rw [((hoff 10 (by decide)).trans x10)]; rfl)
  ·refine soft (by decide) ?_
   intro o ac wa g ho hoff hv hS hdn
   exact x_lenG (op_is rfl ho) ((hv 11 68 rfl (by kernel_rfl))) undVrs
  ·refine soft (by decide) ?_
   intro o ac wa g ho hoff hv hS hdn
   exact x_addN (op_is rfl ho) (hv 10 67 rfl (by kernel_rfl)) (hv 12 69 rfl (by kernel_rfl)) (by omega) (by omega)
  ·refine soft (by decide) ?_
   intro o ac wa g ho hoff hv hS hdn
   exact (x_move (op_is rfl ho)).trans (by rw [((hoff 10 (by decide)).trans x10)]; rfl)
  ·refine soft (by decide) ?_
   intro o ac wa g ho hoff hv hS hdn
   exact x_lenG (op_is rfl ho) ((hv 14 71 rfl (by kernel_rfl))) undVrs
  ·refine soft (by decide) ?_
   intro o ac wa g ho hoff hv hS hdn
   exact x_remN (op_is rfl ho) (hv 13 70 rfl (by kernel_rfl)) (hv 15 72 rfl (by kernel_rfl)) (by omega) h2 (by omega) (by omega)
  ·refine soft (by decide) ?_
   intro o ac wa g ho hoff hv hS hdn
   have hlt:(c:Int) < al:=by omega
   exact x_index (op_is rfl ho) (by rw [(hv 2 59 rfl (by kernel_rfl)),(hv 16 73 rfl (by kernel_rfl))]; show (Instr.indexAt _ (Value.slice _ _ _) (Value.int _ _)).run _ _=.ok (pa _ _) _; unfold pa; go_simp)
  ·refine soft (by decide) ?_
   intro o ac wa g ho hoff hv hS hdn
   obtain ⟨sa,sl,sc,rfl⟩:=hlv
   obtain ⟨c0,c1⟩:=(hcc _ (hS.c hc0 hc1)).1
   exact x_load (op_is rfl ho) (by rw [(hv 17 74 rfl (by kernel_rfl))]; show (Instr.loadAt _ (pa _ _)).run _ _=_; unfold pa; go_simp; first | rfl | skip)
  ·refine soft (by decide) ?_
   intro o ac wa g ho hoff hv hS hdn
   exact (x_move (op_is rfl ho)).trans (by rw [((hoff 0 (by decide)).trans x0)]; rfl)
  ·refine soft (by decide) ?_
   intro o ac wa g ho hoff hv hS hdn
   exact (x_move (op_is rfl ho)).trans (by rw [((hoff 11 (by decide)).trans x11)]; rfl)
  ·refine soft (by decide) ?_
   intro o ac wa g ho hoff hv hS hdn
   have hlt:(i:Int) < ll:=by omega
   exact x_index (op_is rfl ho) (by rw [(hv 19 76 rfl (by kernel_rfl)),(hv 20 77 rfl (by kernel_rfl))]; show (Instr.indexAt _ (Value.slice _ _ _) (Value.int _ _)).run _ _=.ok (pa _ _) _; unfold pa; go_simp)
  ·refine soft (by decide) ?_
   intro o ac wa g ho hoff hv hS hdn
   obtain ⟨c0,c1,c2,c3⟩:=(hcc _ (hS.c hc0 hc1)).2
   exact x_load (op_is rfl ho) (by rw [(hv 21 78 rfl (by kernel_rfl))]; show (Instr.loadAt _ (pa _ _)).run _ _=_; unfold pa; go_simp; first | rfl | skip)
  ·intro o ac wa g K ho hd _ hoff hv hS hpre hnd hlater hK
   have hg:g.ca=none:=by have:=hnd (by simp); simpa [doneE] using this
   have hst:g.st=false:=by
    have:=hlater 30 (by simp) (by kernel_rfl)
    simpa [doneE] using this
   refine l_callE (op_is rfl ho) (xs:=#[pa p 0,pa tb 0,.agg #[.int .i64 rt,lv],.agg #[.int .i64 cf,.int .i64 ky,.int .i64 vy,.bool cd]]) (by simp only [List.map_toArray,List.map_cons,List.map_nil]; rw [(hv 0 57 rfl (by kernel_rfl)),(hv 1 58 rfl (by kernel_rfl)),(hv 18 75 rfl (by kernel_rfl)),(hv 22 79 rfl (by kernel_rfl))]; rfl) Tryz.func9 (by kernel_rfl) rfl (hCall wa (hS.p0 hg)) ?_
   rintro e w' ⟨v,rfl,hkp,hp⟩
   refine ⟨_,rfl,?_⟩
   rw [hd]
   refine hK { g with ca:=some v } w' ⟨(fun h=>by cases h),(fun v' h=>by cases h; exact hp),fun nb hnb=>⟨(hS.box nb hnb).1,?_⟩⟩ (by intro x hx; simp at hx; rcases hx with rfl | rfl | rfl <;> simp [doneE,hg]) fun j hj hr=>?_
   ·have hb:=(hS.box nb hnb).2
    simp only [hst] at hb ⊢
    exact hkp.blk _ _ _ (by decide) hb
   ·match j,hr with
    | 0,_=>rfl
    | 1,_=>rfl
    | 2,_=>rfl
    | 3,_=>rfl
    | 4,_=>rfl
    | 5,_=>rfl
    | 6,_=>rfl
    | 7,_=>rfl
    | 8,_=>rfl
    | 9,_=>rfl
    | 10,_=>rfl
    | 11,_=>rfl
    | 12,_=>rfl
    | 13,_=>rfl
    | 14,_=>rfl
    | 15,_=>rfl
    | 16,_=>rfl
    | 17,_=>rfl
    | 18,_=>rfl
    | 19,_=>rfl
    | 20,_=>rfl
    | 21,_=>rfl
    | 22,_=>rfl
    | 23,_=>exact absurd rfl hj
    | 24,hr=>exact absurd (hr.symm.trans (by kernel_rfl:reachB (opsOf 13 Tryz.f4.body) (opsOf 13 Tryz.f4.body).size 24 23=true)) (by decide)
    | 25,hr=>exact absurd (hr.symm.trans (by kernel_rfl:reachB (opsOf 13 Tryz.f4.body) (opsOf 13 Tryz.f4.body).size 25 23=true)) (by decide)
    | 26,hr=>exact absurd (hr.symm.trans (by kernel_rfl:reachB (opsOf 13 Tryz.f4.body) (opsOf 13 Tryz.f4.body).size 26 23=true)) (by decide)
    | 27,hr=>exact absurd (hr.symm.trans (by kernel_rfl:reachB (opsOf 13 Tryz.f4.body) (opsOf 13 Tryz.f4.body).size 27 23=true)) (by decide)
    | 28,_=>rfl
    | 29,hr=>exact absurd (hr.symm.trans (by kernel_rfl:reachB (opsOf 13 Tryz.f4.body) (opsOf 13 Tryz.f4.body).size 29 23=true)) (by decide)
    | 30,_=>rfl
    | 31,hr=>exact absurd (hr.symm.trans (by kernel_rfl:reachB (opsOf 13 Tryz.f4.body) (opsOf 13 Tryz.f4.body).size 31 23=true)) (by decide)
    | k+32,_=>rfl
  ·refine soft (by decide) ?_
   intro o ac wa g ho hoff hv hS hdn
   exact (x_move (op_is rfl ho)).trans (by rw [(hv 23 80 rfl (by kernel_rfl))]; rfl)
  ·refine soft (by decide) ?_
   intro o ac wa g ho hoff hv hS hdn
   obtain ⟨v,hv2⟩:=Option.isSome_iff_exists.1 (show g.ca.isSome=true from by have:=hdn 23 (by simp) (by kernel_rfl); simpa [doneE] using this)
   exact (x_extrQ (v:=v.pv) (op_is rfl ho) ((hv 24 56 rfl (by kernel_rfl)).trans (by show (match g.ca with | some v=>Value.tuple #[v.pv,(.agg #[.int .i64 v.root,.int .i64 v.old,.bool v.had,.slice v.ga v.gl v.gc,.slice v.ma v.ml v.mc]),.bool true] | none=>undef)=Value.tuple #[v.pv,(.agg #[.int .i64 v.root,.int .i64 v.old,.bool v.had,.slice v.ga v.gl v.gc,.slice v.ma v.ml v.mc]),.bool true]; rw [hv2])) rfl).trans (by show _=Result.ok (Next.value (match g.ca with | some v=>v.pv | none=>undef)) _; rw [hv2])
  ·refine soft (by decide) ?_
   intro o ac wa g ho hoff hv hS hdn
   obtain ⟨v,hv2⟩:=Option.isSome_iff_exists.1 (show g.ca.isSome=true from by have:=hdn 23 (by simp) (by kernel_rfl); simpa [doneE] using this)
   exact (x_extrQ (v:=Value.agg #[.int .i64 v.root,.int .i64 v.old,.bool v.had,.slice v.ga v.gl v.gc,.slice v.ma v.ml v.mc]) (op_is rfl ho) ((hv 24 56 rfl (by kernel_rfl)).trans (by show (match g.ca with | some v=>Value.tuple #[v.pv,(.agg #[.int .i64 v.root,.int .i64 v.old,.bool v.had,.slice v.ga v.gl v.gc,.slice v.ma v.ml v.mc]),.bool true] | none=>undef)=Value.tuple #[v.pv,(.agg #[.int .i64 v.root,.int .i64 v.old,.bool v.had,.slice v.ga v.gl v.gc,.slice v.ma v.ml v.mc]),.bool true]; rw [hv2])) rfl).trans (by show _=Result.ok (Next.value (match g.ca with | some v=>Value.agg #[.int .i64 v.root,.int .i64 v.old,.bool v.had,.slice v.ga v.gl v.gc,.slice v.ma v.ml v.mc] | none=>undef)) _; rw [hv2])
  ·refine soft (by decide) ?_
   intro o ac wa g ho hoff hv hS hdn
   obtain ⟨v,hv2⟩:=Option.isSome_iff_exists.1 (show g.ca.isSome=true from by have:=hdn 23 (by simp) (by kernel_rfl); simpa [doneE] using this)
   exact (x_extrQ (v:=Value.bool true) (op_is rfl ho) ((hv 24 56 rfl (by kernel_rfl)).trans (by show (match g.ca with | some v=>Value.tuple #[v.pv,(.agg #[.int .i64 v.root,.int .i64 v.old,.bool v.had,.slice v.ga v.gl v.gc,.slice v.ma v.ml v.mc]),.bool true] | none=>undef)=Value.tuple #[v.pv,(.agg #[.int .i64 v.root,.int .i64 v.old,.bool v.had,.slice v.ga v.gl v.gc,.slice v.ma v.ml v.mc]),.bool true]; rw [hv2])) rfl).trans (by show _=Result.ok (Next.value (match g.ca with | some _=>Value.bool true | none=>undef)) _; rw [hv2])
  ·intro o ac wa g K ho hd _ hoff hv hS hpre hnd hlater hK
   have hg:g.nb=none:=by have:=hnd (by simp); simpa [doneE] using this
   have hst:g.st=false:=by
    have:=hlater 30 (by simp) (by kernel_rfl)
    simpa [doneE] using this
   have T0:Turned [] wa (wa.alloc editZ):=(Turned.refl [] _).alloc _
   refine l_val hd (x_alloc (op_is rfl ho) (v:=pa wa.heap.size 0) (w':=wa.alloc editZ) (by unfold pa editZ; go_simp)) ?_
   refine hK { g with nb:=some wa.heap.size } _ ⟨fun h=>hP0 _ _ (hS.p0 h) T0,fun v h=>hP1 _ _ _ (hS.p1 v h) T0,fun nb hnb=>?_⟩ (by intro x hx; simp at hx; rcases hx with rfl | rfl | rfl <;> simp [doneE,hg]) fun j hj hr=>?_
   ·cases hnb
    refine ⟨hS.size hL0 hL1,?_⟩
    simp only [hst]
    exact blk_new _ _
   ·match j,hr with
    | 0,_=>rfl
    | 1,_=>rfl
    | 2,_=>rfl
    | 3,_=>rfl
    | 4,_=>rfl
    | 5,_=>rfl
    | 6,_=>rfl
    | 7,_=>rfl
    | 8,_=>rfl
    | 9,_=>rfl
    | 10,_=>rfl
    | 11,_=>rfl
    | 12,_=>rfl
    | 13,_=>rfl
    | 14,_=>rfl
    | 15,_=>rfl
    | 16,_=>rfl
    | 17,_=>rfl
    | 18,_=>rfl
    | 19,_=>rfl
    | 20,_=>rfl
    | 21,_=>rfl
    | 22,_=>rfl
    | 23,_=>rfl
    | 24,_=>rfl
    | 25,_=>rfl
    | 26,_=>rfl
    | 27,_=>rfl
    | 28,_=>exact absurd rfl hj
    | 29,_=>rfl
    | 30,hr=>exact absurd (hr.symm.trans (by kernel_rfl:reachB (opsOf 13 Tryz.f4.body) (opsOf 13 Tryz.f4.body).size 30 28=true)) (by decide)
    | 31,_=>rfl
    | k+32,_=>rfl
  ·refine soft (by decide) ?_
   intro o ac wa g ho hoff hv hS hdn
   exact (x_assign (op_is rfl ho)).trans (by rw [(hv 25 81 rfl (by kernel_rfl))]; rfl)
  ·intro o ac wa g K ho hd _ hoff hv hS hpre hnd hlater hK
   obtain ⟨nb,hnb⟩:=Option.isSome_iff_exists.1 (show g.nb.isSome=true from by have:=hpre 28 (by simp) (by kernel_rfl); simpa [doneE] using this)
   obtain ⟨v,hv2⟩:=Option.isSome_iff_exists.1 (show g.ca.isSome=true from by have:=hpre 23 (by simp) (by kernel_rfl); simpa [doneE] using this)
   have hst:g.st=false:=by have:=hnd (by simp); simpa [doneE] using this
   have e1:=(hv 28 13 rfl (by kernel_rfl))
   have e2:=(hv 26 82 rfl (by kernel_rfl))
   have hb:=(hS.box nb hnb).2
   have hbn:=(hS.box nb hnb).1
   simp only [hst] at hb
   have c0:wa.cell? ⟨nb,0,none⟩=some (.int .i64 0):=cell_at hb 0
   have c1:wa.cell? ⟨nb,1,none⟩=some (.int .i64 0):=cell_at hb 1
   have c2:wa.cell? ⟨nb,2,none⟩=some (.bool false):=cell_at hb 2
   have c3:wa.cell? ⟨nb,3,none⟩=some (.slice none 0 0):=cell_at hb 3
   have c4:wa.cell? ⟨nb,4,none⟩=some (.slice none 0 0):=cell_at hb 4
   have z:=froz_at hb
   refine l_skip hd (w':=(((((wa.setCell ⟨nb,0,none⟩ (.int .i64 v.root)).setCell ⟨nb,1,none⟩ (.int .i64 v.old)).setCell ⟨nb,2,none⟩ (.bool v.had)).setCell ⟨nb,3,none⟩ (.slice v.ga v.gl v.gc)).setCell ⟨nb,4,none⟩ (.slice v.ma v.ml v.mc))) (x_store (op_is rfl ho) (by
    rw [e1,e2]
    show (Instr.storeAt _ (pa (g.nb.getD 0) 0) (match g.ca with | some v=>Value.agg #[.int .i64 v.root,.int .i64 v.old,.bool v.had,.slice v.ga v.gl v.gc,.slice v.ma v.ml v.mc] | none=>undef)).run _ _=_
    rw [hnb,hv2]
    show (Instr.storeAt _ (pa nb 0) (Value.agg #[.int .i64 v.root,.int .i64 v.old,.bool v.had,.slice v.ga v.gl v.gc,.slice v.ma v.ml v.mc])).run _ _=_
    unfold pa
    go_simp)) ?_
   have htn:Turned [nb] wa (((((wa.setCell ⟨nb,0,none⟩ (.int .i64 v.root)).setCell ⟨nb,1,none⟩ (.int .i64 v.old)).setCell ⟨nb,2,none⟩ (.bool v.had)).setCell ⟨nb,3,none⟩ (.slice v.ga v.gl v.gc)).setCell ⟨nb,4,none⟩ (.slice v.ma v.ml v.mc)):=edit_turned wa nb _ _ _ _ _
   refine hK { g with st:=true } _ ⟨(fun h=>by rw [hv2] at h; cases h),(fun v' h=>hP2 _ _ _ nb (hS.p1 v' h) hb hbn htn),fun nb' hnb'=>?_⟩ (by intro x hx; simp at hx; rcases hx with rfl | rfl | rfl <;> simp [doneE]) fun j hj hr=>?_
   ·have:nb'=nb:=by rw [hnb] at hnb'; cases hnb'; rfl
    subst this
    refine ⟨hbn,?_⟩
    simp only [hv2]
    exact edit_set hb
   ·match j,hr with
    | 0,_=>rfl
    | 1,_=>rfl
    | 2,_=>rfl
    | 3,_=>rfl
    | 4,_=>rfl
    | 5,_=>rfl
    | 6,_=>rfl
    | 7,_=>rfl
    | 8,_=>rfl
    | 9,_=>rfl
    | 10,_=>rfl
    | 11,_=>rfl
    | 12,_=>rfl
    | 13,_=>rfl
    | 14,_=>rfl
    | 15,_=>rfl
    | 16,_=>rfl
    | 17,_=>rfl
    | 18,_=>rfl
    | 19,_=>rfl
    | 20,_=>rfl
    | 21,_=>rfl
    | 22,_=>rfl
    | 23,_=>rfl
    | 24,_=>rfl
    | 25,_=>rfl
    | 26,_=>rfl
    | 27,_=>rfl
    | 28,_=>rfl
    | 29,_=>rfl
    | 30,_=>exact absurd rfl hj
    | 31,_=>rfl
    | k+32,_=>rfl
  ·refine soft (by decide) ?_
   intro o ac wa g ho hoff hv hS hdn
   exact (x_assign (op_is rfl ho)).trans (by rw [(hv 27 83 rfl (by kernel_rfl))]; rfl)
 ·intro a' w' g hsz hdf hoff hS hdn hval
  obtain ⟨nb,hnb⟩:=Option.isSome_iff_exists.1 (show g.nb.isSome=true from by have:=hdn 28 (by simp); simpa [doneE] using this)
  obtain ⟨v,hv2⟩:=Option.isSome_iff_exists.1 (show g.ca.isSome=true from by have:=hdn 23 (by simp); simpa [doneE] using this)
  have hst:g.st=true:=by have:=hdn 30 (by simp); simpa [doneE] using this
  have hb:=(hS.box nb hnb).2
  simp only [hst,hv2] at hb
  exact hEnd a' w' nb v hsz hdf (fun s hs=>ev_same (hoff s hs)) ((hval 28 13 rfl).trans (by show pa (g.nb.getD 0) 0=_; rw [hnb]; rfl)) ((hval 29 12 rfl).trans (by simp only [df_r13V,hv2])) ((hval 31 14 rfl).trans (by simp only [df_r13V,hv2])) (hS.p1 v hv2) hb (hS.box nb hnb).1
def df_r18V (ag al ac c1 c2 l1l l1c l2l l2c:Nat) (av bv z1 z2 r1 r2:Int) (l1a l2a:Option Addr)  (g:GX):Nat→Value:=fun j=>match j with | 0=>(Value.slice (some ⟨ag,0,none⟩) al ac) | 1=>(Value.int IntKind.i64 av) | 2=>(Value.slice (some ⟨ag,0,none⟩) al ac) | 3=>(Value.int IntKind.i64 al) | 4=>(Value.int IntKind.i64 z1) | 5=>(Value.slice (some ⟨ag,0,none⟩) al ac) | 6=>(Value.int IntKind.i64 al) | 7=>(Value.int IntKind.i64 (z1+al)) | 8=>(Value.slice (some ⟨ag,0,none⟩) al ac) | 9=>(Value.int IntKind.i64 al) | 10=>(Value.int IntKind.i64 c1) | 11=>(pa ag (c1 * 2)) | 12=>(Value.agg #[.int .i64 r1,.slice l1a l1l l1c]) | 13=>(Value.slice (some ⟨ag,0,none⟩) al ac) | 14=>(Value.int IntKind.i64 bv) | 15=>(Value.slice (some ⟨ag,0,none⟩) al ac) | 16=>(Value.int IntKind.i64 al) | 17=>(Value.int IntKind.i64 z2) | 18=>(Value.slice (some ⟨ag,0,none⟩) al ac) | 19=>(Value.int IntKind.i64 al) | 20=>(Value.int IntKind.i64 (z2+al)) | 21=>(Value.slice (some ⟨ag,0,none⟩) al ac) | 22=>(Value.int IntKind.i64 al) | 23=>(Value.int IntKind.i64 c2) | 24=>(pa ag (c2 * 2)) | 25=>(Value.agg #[.int .i64 r2,.slice l2a l2l l2c]) | 26=>(pa (g.b1.getD 0) 0) | 27=>(pa (g.b2.getD 0) 0) | 28=>undef | 29=>undef | _=>undef
set_option maxRecDepth 100000 in
set_option maxHeartbeats 1600000 in
theorem df_r18 {ag al ac c1 c2 l1l l1c l2l l2c:Nat} {av bv z1 z2 r1 r2:Int} {l1a l2a:Option Addr} {K:Act→World→Prop} {Q:Exit→Act→World→Prop} {a0:Act} {w:World} (hs:a0.tmps.size=247) (x10:a0.eval (.tmp 10)=.slice (some ⟨ag,0,none⟩) al ac) (x1:a0.eval (.tmp 1)=.int .i64 av) (x2:a0.eval (.tmp 2)=.int .i64 bv) (hal:al≤1000) (hpos:0 < al)
  (h1:av.tmod (al:Int)=z1) (z10:-(al:Int) < z1) (z11:z1 < al) (h2:(z1+al).tmod (al:Int)=c1) (hc1:c1 < al) (h3:bv.tmod (al:Int)=z2) (z20:-(al:Int) < z2) (z21:z2 < al) (h4:(z2+al).tmod (al:Int)=c2) (hc2:c2 < al)
  (hcc1:w.cell? ⟨ag,c1 * 2,none⟩=some (.int .i64 r1)∧w.cell? ⟨ag,c1 * 2+1,none⟩=some (.slice l1a l1l l1c)) (hcc2:w.cell? ⟨ag,c2 * 2,none⟩=some (.int .i64 r2)∧w.cell? ⟨ag,c2 * 2+1,none⟩=some (.slice l2a l2l l2c))
  (hEnd:∀ a' x b1 b2,a'.tmps.size=a0.tmps.size→a'.defers=a0.defers→(∀ s,some s∉([some 94,some 95,some 96,some 97,some 98,some 99,some 100,some 101,some 102,some 103,some 104,some 105,some 106,some 107,some 108,some 109,some 110,some 111,some 112,some 113,some 114,some 115,some 116,some 117,some 118,some 119,some 15,some 16,none,none]:List (Option Nat))→a'.eval (.tmp s)=a0.eval (.tmp s))→a'.eval (.tmp 15)=pa b1 0→a'.eval (.tmp 16)=pa b2 0→b1≠b2→w.heap.size≤b1→w.heap.size≤b2→Turned [] w x→x.heap[b1]?=some (verObj r1 (.slice l1a l1l l1c))→x.heap[b2]?=some (verObj r2 (.slice l2a l2l l2c))→K a' x):(Code.region 18 (opsOf 18 Tryz.f4.body) true).wp Tryz.prog (Exit.then K Q) a0 w:=by
 refine wp_region_ghost3 (G:=GX) (by kernel_rfl) [some 94,some 95,some 96,some 97,some 98,some 99,some 100,some 101,some 102,some 103,some 104,some 105,some 106,some 107,some 108,some 109,some 110,some 111,some 112,some 113,some 114,some 115,some 116,some 117,some 118,some 119,some 15,some 16,none,none] (by rw [hs]; kernel_rfl) (df_r18V ag al ac c1 c2 l1l l1c l2l l2c av bv z1 z2 r1 r2 l1a l2a) [26,27,28,29] ?_ (doneX) (SX w r1 r2 (.slice l1a l1l l1c) (.slice l2a l2l l2c)) (⟨none,none,false,false⟩) (⟨(Turned.refl [] _).drew,(fun b h=>by cases h),(fun b h=>by cases h),fun b c h=>by cases h⟩) (by intro x hx; simp at hx; rcases hx with rfl | rfl | rfl | rfl <;> rfl) (by decide) ?_ ?_
 ·exact fun i g b h _=>absurd h (noG (by kernel_rfl) i g b)
 ·intro i hi hgd
  rcases (by simp at hi; omega:i=0∨i=1∨i=2∨i=3∨i=4∨i=5∨i=6∨i=7∨i=8∨i=9∨i=10∨i=11∨i=12∨i=13∨i=14∨i=15∨i=16∨i=17∨i=18∨i=19∨i=20∨i=21∨i=22∨i=23∨i=24∨i=25∨i=26∨i=27∨i=28∨i=29) with rfl | rfl | rfl | rfl | rfl | rfl | rfl | rfl | rfl | rfl | rfl | rfl | rfl | rfl | rfl | rfl | rfl | rfl | rfl | rfl | rfl | rfl | rfl | rfl | rfl | rfl | rfl | rfl | rfl | rfl
  ·refine soft (by decide) ?_
   intro o ac wa g ho hoff hv hS hdn
   exact (x_move (op_is rfl ho)).trans (by rw [((hoff 10 (by decide)).trans x10)]; rfl)
  ·refine soft (by decide) ?_
   intro o ac wa g ho hoff hv hS hdn
   exact (x_move (op_is rfl ho)).trans (by rw [((hoff 1 (by decide)).trans x1)]; rfl)
  ·refine soft (by decide) ?_
   intro o ac wa g ho hoff hv hS hdn
   exact (x_move (op_is rfl ho)).trans (by rw [((hoff 10 (by decide)).trans x10)]; rfl)
  ·refine soft (by decide) ?_
   intro o ac wa g ho hoff hv hS hdn
   exact x_lenG (op_is rfl ho) ((hv 2 96 rfl (by kernel_rfl))) undVrs
  ·refine soft (by decide) ?_
   intro o ac wa g ho hoff hv hS hdn
   exact x_remN (op_is rfl ho) (hv 1 95 rfl (by kernel_rfl)) (hv 3 97 rfl (by kernel_rfl)) (by omega) h1 (by omega) (by omega)
  ·refine soft (by decide) ?_
   intro o ac wa g ho hoff hv hS hdn
   exact (x_move (op_is rfl ho)).trans (by rw [((hoff 10 (by decide)).trans x10)]; rfl)
  ·refine soft (by decide) ?_
   intro o ac wa g ho hoff hv hS hdn
   exact x_lenG (op_is rfl ho) ((hv 5 99 rfl (by kernel_rfl))) undVrs
  ·refine soft (by decide) ?_
   intro o ac wa g ho hoff hv hS hdn
   exact x_addN (op_is rfl ho) (hv 4 98 rfl (by kernel_rfl)) (hv 6 100 rfl (by kernel_rfl)) (by omega) (by omega)
  ·refine soft (by decide) ?_
   intro o ac wa g ho hoff hv hS hdn
   exact (x_move (op_is rfl ho)).trans (by rw [((hoff 10 (by decide)).trans x10)]; rfl)
  ·refine soft (by decide) ?_
   intro o ac wa g ho hoff hv hS hdn
   exact x_lenG (op_is rfl ho) ((hv 8 102 rfl (by kernel_rfl))) undVrs
  ·refine soft (by decide) ?_
   intro o ac wa g ho hoff hv hS hdn
   exact x_remN (op_is rfl ho) (hv 7 101 rfl (by kernel_rfl)) (hv 9 103 rfl (by kernel_rfl)) (by omega) h2 (by omega) (by omega)
  ·refine soft (by decide) ?_
   intro o ac wa g ho hoff hv hS hdn
   have hlt:(c1:Int) < al:=by omega
   exact x_index (op_is rfl ho) (by rw [(hv 0 94 rfl (by kernel_rfl)),(hv 10 104 rfl (by kernel_rfl))]; show (Instr.indexAt _ (Value.slice _ _ _) (Value.int _ _)).run _ _=.ok (pa _ _) _; unfold pa; go_simp)
  ·refine soft (by decide) ?_
   intro o ac wa g ho hoff hv hS hdn
   obtain ⟨d0,d1⟩:=hcc1
   have c0:=hS.tu.cell d0 (by simp)
   have c1:=hS.tu.cell d1 (by simp)
   exact x_load (op_is rfl ho) (by rw [(hv 11 105 rfl (by kernel_rfl))]; show (Instr.loadAt _ (pa _ _)).run _ _=_; unfold pa; go_simp; first | rfl | skip)
  ·refine soft (by decide) ?_
   intro o ac wa g ho hoff hv hS hdn
   exact (x_move (op_is rfl ho)).trans (by rw [((hoff 10 (by decide)).trans x10)]; rfl)
  ·refine soft (by decide) ?_
   intro o ac wa g ho hoff hv hS hdn
   exact (x_move (op_is rfl ho)).trans (by rw [((hoff 2 (by decide)).trans x2)]; rfl)
  ·refine soft (by decide) ?_
   intro o ac wa g ho hoff hv hS hdn
   exact (x_move (op_is rfl ho)).trans (by rw [((hoff 10 (by decide)).trans x10)]; rfl)
  ·refine soft (by decide) ?_
   intro o ac wa g ho hoff hv hS hdn
   exact x_lenG (op_is rfl ho) ((hv 15 109 rfl (by kernel_rfl))) undVrs
  ·refine soft (by decide) ?_
   intro o ac wa g ho hoff hv hS hdn
   exact x_remN (op_is rfl ho) (hv 14 108 rfl (by kernel_rfl)) (hv 16 110 rfl (by kernel_rfl)) (by omega) h3 (by omega) (by omega)
  ·refine soft (by decide) ?_
   intro o ac wa g ho hoff hv hS hdn
   exact (x_move (op_is rfl ho)).trans (by rw [((hoff 10 (by decide)).trans x10)]; rfl)
  ·refine soft (by decide) ?_
   intro o ac wa g ho hoff hv hS hdn
   exact x_lenG (op_is rfl ho) ((hv 18 112 rfl (by kernel_rfl))) undVrs
  ·refine soft (by decide) ?_
   intro o ac wa g ho hoff hv hS hdn
   exact x_addN (op_is rfl ho) (hv 17 111 rfl (by kernel_rfl)) (hv 19 113 rfl (by kernel_rfl)) (by omega) (by omega)
  ·refine soft (by decide) ?_
   intro o ac wa g ho hoff hv hS hdn
   exact (x_move (op_is rfl ho)).trans (by rw [((hoff 10 (by decide)).trans x10)]; rfl)
  ·refine soft (by decide) ?_
   intro o ac wa g ho hoff hv hS hdn
   exact x_lenG (op_is rfl ho) ((hv 21 115 rfl (by kernel_rfl))) undVrs
  ·refine soft (by decide) ?_
   intro o ac wa g ho hoff hv hS hdn
   exact x_remN (op_is rfl ho) (hv 20 114 rfl (by kernel_rfl)) (hv 22 116 rfl (by kernel_rfl)) (by omega) h4 (by omega) (by omega)
  ·refine soft (by decide) ?_
   intro o ac wa g ho hoff hv hS hdn
   have hlt:(c2:Int) < al:=by omega
   exact x_index (op_is rfl ho) (by rw [(hv 13 107 rfl (by kernel_rfl)),(hv 23 117 rfl (by kernel_rfl))]; show (Instr.indexAt _ (Value.slice _ _ _) (Value.int _ _)).run _ _=.ok (pa _ _) _; unfold pa; go_simp)
  ·refine soft (by decide) ?_
   intro o ac wa g ho hoff hv hS hdn
   obtain ⟨d0,d1⟩:=hcc2
   have c0:=hS.tu.cell d0 (by simp)
   have c1:=hS.tu.cell d1 (by simp)
   exact x_load (op_is rfl ho) (by rw [(hv 24 118 rfl (by kernel_rfl))]; show (Instr.loadAt _ (pa _ _)).run _ _=_; unfold pa; go_simp; first | rfl | skip)
  ·intro o ac wa g K ho hd _ hoff hv hS hpre hnd hlater hK
   have hg:g.b1=none:=by have:=hnd (by simp); simpa [doneX] using this
   have hst:g.s1=false:=by
    have:=hlater 28 (by simp) (by kernel_rfl)
    simpa [doneX] using this
   have T0:Turned [] wa (wa.alloc verZ):=(Turned.refl [] _).alloc _
   refine l_val hd (x_alloc (op_is rfl ho) (v:=pa wa.heap.size 0) (w':=wa.alloc verZ) (by unfold pa verZ verObj; go_simp)) ?_
   refine hK { g with b1:=some wa.heap.size } _ ⟨hS.tu.trans T0,fun b hb=>by cases hb; refine ⟨hS.tu.size,?_⟩; simp only [hst]; exact blk_new _ _,fun b hb=>⟨(hS.bx2 b hb).1,T0.heap (hS.bx2 b hb).2 (by simp)⟩,fun b c h1 h2=>by cases h1; have:=lt_of_heap (hS.bx2 c h2).2; omega⟩ (by intro x hx; simp at hx; rcases hx with rfl | rfl | rfl | rfl <;> simp [doneX,hg]) fun j hj hr=>?_
   ·match j,hr with
    | 0,_=>rfl
    | 1,_=>rfl
    | 2,_=>rfl
    | 3,_=>rfl
    | 4,_=>rfl
    | 5,_=>rfl
    | 6,_=>rfl
    | 7,_=>rfl
    | 8,_=>rfl
    | 9,_=>rfl
    | 10,_=>rfl
    | 11,_=>rfl
    | 12,_=>rfl
    | 13,_=>rfl
    | 14,_=>rfl
    | 15,_=>rfl
    | 16,_=>rfl
    | 17,_=>rfl
    | 18,_=>rfl
    | 19,_=>rfl
    | 20,_=>rfl
    | 21,_=>rfl
    | 22,_=>rfl
    | 23,_=>rfl
    | 24,_=>rfl
    | 25,_=>rfl
    | 26,_=>exact absurd rfl hj
    | 27,_=>rfl
    | 28,_=>rfl
    | 29,_=>rfl
    | k+30,_=>rfl
  ·intro o ac wa g K ho hd _ hoff hv hS hpre hnd hlater hK
   have hg:g.b2=none:=by have:=hnd (by simp); simpa [doneX] using this
   have hst:g.s2=false:=by
    have:=hlater 29 (by simp) (by kernel_rfl)
    simpa [doneX] using this
   have T0:Turned [] wa (wa.alloc verZ):=(Turned.refl [] _).alloc _
   refine l_val hd (x_alloc (op_is rfl ho) (v:=pa wa.heap.size 0) (w':=wa.alloc verZ) (by unfold pa verZ verObj; go_simp)) ?_
   refine hK { g with b2:=some wa.heap.size } _ ⟨hS.tu.trans T0,fun b hb=>⟨(hS.bx1 b hb).1,T0.heap (hS.bx1 b hb).2 (by simp)⟩,fun b hb=>by cases hb; refine ⟨hS.tu.size,?_⟩; simp only [hst]; exact blk_new _ _,fun b c h1 h2=>by cases h2; have:=lt_of_heap (hS.bx1 b h1).2; omega⟩ (by intro x hx; simp at hx; rcases hx with rfl | rfl | rfl | rfl <;> simp [doneX,hg]) fun j hj hr=>?_
   ·match j,hr with
    | 0,_=>rfl
    | 1,_=>rfl
    | 2,_=>rfl
    | 3,_=>rfl
    | 4,_=>rfl
    | 5,_=>rfl
    | 6,_=>rfl
    | 7,_=>rfl
    | 8,_=>rfl
    | 9,_=>rfl
    | 10,_=>rfl
    | 11,_=>rfl
    | 12,_=>rfl
    | 13,_=>rfl
    | 14,_=>rfl
    | 15,_=>rfl
    | 16,_=>rfl
    | 17,_=>rfl
    | 18,_=>rfl
    | 19,_=>rfl
    | 20,_=>rfl
    | 21,_=>rfl
    | 22,_=>rfl
    | 23,_=>rfl
    | 24,_=>rfl
    | 25,_=>rfl
    | 26,_=>rfl
    | 27,_=>exact absurd rfl hj
    | 28,_=>rfl
    | 29,_=>rfl
    | k+30,_=>rfl
  ·intro o ac wa g K ho hd _ hoff hv hS hpre hnd hlater hK
   obtain ⟨nb,hnb⟩:=Option.isSome_iff_exists.1 (show g.b1.isSome=true from by have:=hpre 26 (by simp) (by kernel_rfl); simpa [doneX] using this)
   have hst:g.s1=false:=by have:=hnd (by simp); simpa [doneX] using this
   have e1:=(hv 26 15 rfl (by kernel_rfl))
   have e2:=(hv 12 106 rfl (by kernel_rfl))
   have hb0:=(hS.bx1 nb hnb).2
   have hbn:=(hS.bx1 nb hnb).1
   simp only [hst] at hb0
   have c0:wa.cell? ⟨nb,0,none⟩=some (.int .i64 0):=cell_at hb0 0
   have c1:wa.cell? ⟨nb,1,none⟩=some (.slice none 0 0):=cell_at hb0 1
   have z:=froz_at hb0
   refine l_skip hd (w':=((wa.setCell ⟨nb,0,none⟩ (.int .i64 r1)).setCell ⟨nb,1,none⟩ (.slice l1a l1l l1c))) (x_store (op_is rfl ho) (by
    rw [e1,e2]
    show (Instr.storeAt _ (pa (g.b1.getD 0) 0) (Value.agg #[.int .i64 r1,(.slice l1a l1l l1c)])).run _ _=_
    rw [hnb]
    show (Instr.storeAt _ (pa nb 0) (Value.agg #[.int .i64 r1,(.slice l1a l1l l1c)])).run _ _=_
    unfold pa
    go_simp)) ?_
   have htn:Turned [nb] wa ((wa.setCell ⟨nb,0,none⟩ (.int .i64 r1)).setCell ⟨nb,1,none⟩ (.slice l1a l1l l1c)):=ver_turned wa nb _ _
   refine hK { g with s1:=true } _ ⟨hS.tu.inner htn (fun z hz=>by simp at hz; subst hz; exact .inr hbn),fun b hb=>by rw [hnb] at hb; cases hb; exact ⟨hbn,ver_set hb0⟩,fun b hb=>⟨(hS.bx2 b hb).1,htn.heap (hS.bx2 b hb).2 (by simp only [List.mem_singleton]; exact fun e=>hS.ne nb b hnb hb e.symm)⟩,hS.ne⟩ (by intro x hx; simp at hx; rcases hx with rfl | rfl | rfl | rfl <;> simp [doneX,hst]) fun j hj hr=>?_
   ·match j,hr with
    | 0,_=>rfl
    | 1,_=>rfl
    | 2,_=>rfl
    | 3,_=>rfl
    | 4,_=>rfl
    | 5,_=>rfl
    | 6,_=>rfl
    | 7,_=>rfl
    | 8,_=>rfl
    | 9,_=>rfl
    | 10,_=>rfl
    | 11,_=>rfl
    | 12,_=>rfl
    | 13,_=>rfl
    | 14,_=>rfl
    | 15,_=>rfl
    | 16,_=>rfl
    | 17,_=>rfl
    | 18,_=>rfl
    | 19,_=>rfl
    | 20,_=>rfl
    | 21,_=>rfl
    | 22,_=>rfl
    | 23,_=>rfl
    | 24,_=>rfl
    | 25,_=>rfl
    | 26,_=>rfl
    | 27,_=>rfl
    | 28,_=>exact absurd rfl hj
    | 29,_=>rfl
    | k+30,_=>rfl
  ·intro o ac wa g K ho hd _ hoff hv hS hpre hnd hlater hK
   obtain ⟨nb,hnb⟩:=Option.isSome_iff_exists.1 (show g.b2.isSome=true from by have:=hpre 27 (by simp) (by kernel_rfl); simpa [doneX] using this)
   have hst:g.s2=false:=by have:=hnd (by simp); simpa [doneX] using this
   have e1:=(hv 27 16 rfl (by kernel_rfl))
   have e2:=(hv 25 119 rfl (by kernel_rfl))
   have hb0:=(hS.bx2 nb hnb).2
   have hbn:=(hS.bx2 nb hnb).1
   simp only [hst] at hb0
   have c0:wa.cell? ⟨nb,0,none⟩=some (.int .i64 0):=cell_at hb0 0
   have c1:wa.cell? ⟨nb,1,none⟩=some (.slice none 0 0):=cell_at hb0 1
   have z:=froz_at hb0
   refine l_skip hd (w':=((wa.setCell ⟨nb,0,none⟩ (.int .i64 r2)).setCell ⟨nb,1,none⟩ (.slice l2a l2l l2c))) (x_store (op_is rfl ho) (by
    rw [e1,e2]
    show (Instr.storeAt _ (pa (g.b2.getD 0) 0) (Value.agg #[.int .i64 r2,(.slice l2a l2l l2c)])).run _ _=_
    rw [hnb]
    show (Instr.storeAt _ (pa nb 0) (Value.agg #[.int .i64 r2,(.slice l2a l2l l2c)])).run _ _=_
    unfold pa
    go_simp)) ?_
   have htn:Turned [nb] wa ((wa.setCell ⟨nb,0,none⟩ (.int .i64 r2)).setCell ⟨nb,1,none⟩ (.slice l2a l2l l2c)):=ver_turned wa nb _ _
   refine hK { g with s2:=true } _ ⟨hS.tu.inner htn (fun z hz=>by simp at hz; subst hz; exact .inr hbn),fun b hb=>⟨(hS.bx1 b hb).1,htn.heap (hS.bx1 b hb).2 (by simp only [List.mem_singleton]; exact fun e=>hS.ne b nb hb hnb e)⟩,fun b hb=>by rw [hnb] at hb; cases hb; exact ⟨hbn,ver_set hb0⟩,hS.ne⟩ (by intro x hx; simp at hx; rcases hx with rfl | rfl | rfl | rfl <;> simp [doneX,hst]) fun j hj hr=>?_
   ·match j,hr with
    | 0,_=>rfl
    | 1,_=>rfl
    | 2,_=>rfl
    | 3,_=>rfl
    | 4,_=>rfl
    | 5,_=>rfl
    | 6,_=>rfl
    | 7,_=>rfl
    | 8,_=>rfl
    | 9,_=>rfl
    | 10,_=>rfl
    | 11,_=>rfl
    | 12,_=>rfl
    | 13,_=>rfl
    | 14,_=>rfl
    | 15,_=>rfl
    | 16,_=>rfl
    | 17,_=>rfl
    | 18,_=>rfl
    | 19,_=>rfl
    | 20,_=>rfl
    | 21,_=>rfl
    | 22,_=>rfl
    | 23,_=>rfl
    | 24,_=>rfl
    | 25,_=>rfl
    | 26,_=>rfl
    | 27,_=>rfl
    | 28,_=>rfl
    | 29,_=>exact absurd rfl hj
    | k+30,_=>rfl
 ·intro a' w' g hsz hdf hoff hS hdn hval
  obtain ⟨n1,hn1⟩:=Option.isSome_iff_exists.1 (show g.b1.isSome=true from by have:=hdn 26 (by simp); simpa [doneX] using this)
  obtain ⟨n2,hn2⟩:=Option.isSome_iff_exists.1 (show g.b2.isSome=true from by have:=hdn 27 (by simp); simpa [doneX] using this)
  have hs1:g.s1=true:=by have:=hdn 28 (by simp); simpa [doneX] using this
  have hs2:g.s2=true:=by have:=hdn 29 (by simp); simpa [doneX] using this
  have hb1:=hS.bx1 n1 hn1
  have hb2:=hS.bx2 n2 hn2
  simp only [hs1] at hb1
  simp only [hs2] at hb2
  exact hEnd a' w' n1 n2 hsz hdf (fun s hs=>ev_same (hoff s hs)) ((hval 26 15 rfl).trans (by show pa (g.b1.getD 0) 0=_; rw [hn1]; rfl)) ((hval 27 16 rfl).trans (by show pa (g.b2.getD 0) 0=_; rw [hn2]; rfl)) (hS.ne n1 n2 hn1 hn2) hb1.1 hb2.1 hS.tu hb1.2 hb2.2
end Go.Proofs.YtloljphbdfjgdaaGreatDoor

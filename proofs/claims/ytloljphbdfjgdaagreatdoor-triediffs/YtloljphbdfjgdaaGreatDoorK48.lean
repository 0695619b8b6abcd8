/- A frame, spelled out. -/
import Derived.Test.YtloljphbdfjgdaaGreatDoorK03
import Derived.Test.YtloljphbdfjgdaaGreatDoorK42
import Derived.Test.YtloljphbdfjgdaaGreatDoorK47
namespace Go.Proofs.YtloljphbdfjgdaaGreatDoor
open Go.RowKit
def lit247 (c:Nat→Value):Array Value:=#[c 0,c 1,c 2,c 3,c 4,c 5,c 6,c 7,c 8,c 9,c 10,c 11,c 12,c 13,c 14,c 15,c 16,c 17,c 18,c 19,c 20,c 21,c 22,c 23,c 24,c 25,c 26,c 27,c 28,c 29,c 30,c 31,c 32,c 33,c 34,c 35,c 36,c 37,c 38,c 39,c 40,c 41,c 42,c 43,c 44,c 45,c 46,c 47,c 48,c 49,c 50,c 51,c 52,c 53,c 54,c 55,c 56,c 57,c 58,c 59,c 60,c 61,c 62,c 63,c 64,c 65,c 66,c 67,c 68,c 69,c 70,c 71,c 72,c 73,c 74,c 75,c 76,c 77,c 78,c 79,c 80,c 81,c 82,c 83,c 84,c 85,c 86,c 87,c 88,c 89,c 90,c 91,c 92,c 93,c 94,c 95,c 96,c 97,c 98,c 99,c 100,c 101,c 102,c 103,c 104,c 105,c 106,c 107,c 108,c 109,c 110,c 111,c 112,c 113,c 114,c 115,c 116,c 117,c 118,c 119,c 120,c 121,c 122,c 123,c 124,c 125,c 126,c 127,c 128,c 129,c 130,c 131,c 132,c 133,c 134,c 135,c 136,c 137,c 138,c 139,c 140,c 141,c 142,c 143,c 144,c 145,c 146,c 147,c 148,c 149,c 150,c 151,c 152,c 153,c 154,c 155,c 156,c 157,c 158,c 159,c 160,c 161,c 162,c 163,c 164,c 165,c 166,c 167,c 168,c 169,c 170,c 171,c 172,c 173,c 174,c 175,c 176,c 177,c 178,c 179,c 180,c 181,c 182,c 183,c 184,c 185,c 186,c 187,c 188,c 189,c 190,c 191,c 192,c 193,c 194,c 195,c 196,c 197,c 198,c 199,c 200,c 201,c 202,c 203,c 204,c 205,c 206,c 207,c 208,c 209,c 210,c 211,c 212,c 213,c 214,c 215,c 216,c 217,c 218,c 219,c 220,c 221,c 222,c 223,c 224,c 225,c 226,c 227,c 228,c 229,c 230,c 231,c 232,c 233,c 234,c 235,c 236,c 237,c 238,c 239,c 240,c 241,c 242,c 243,c 244,c 245,c 246]
set_option maxRecDepth 100000 in
theorem lit247_eq (c:Nat→Value):lit247 c=((List.range 247).map c).toArray:=by rfl
theorem expand247 {a:Act} (hs:a.tmps.size=247) (hd:a.defers=[]):∃ c:Nat→Value,a=⟨lit247 c,[]⟩∧∀ s,c s=a.eval (.tmp s):=by
 refine ⟨fun s=>a.tmps.getD s undef,?_,fun s=>rfl⟩
 obtain ⟨t,d⟩:=a
 simp only at hs hd
 subst hd
 congr 1
 rw [lit247_eq]
 refine Array.ext (by simp [hs]) fun i h1 h2=>?_
 simp [Array.getD,h1]
end Go.Proofs.YtloljphbdfjgdaaGreatDoor
/- The ways through TrieDiffs. (Written by tools/gen/gendifz.py.) -/
namespace Go.Proofs.YtloljphbdfjgdaaGreatDoor
open Go.RowKit
def chO (ck co cn:Int) (bh bs:Bool):Obj:=.cells #[.int .i64 ck,.int .i64 co,.int .i64 cn,.bool bh,.bool bs] 51 (0,0)
theorem ver_set1 {w:World} {b:Nat} {x0 x1 y1:Value} (h:w.heap[b]?=some (.cells #[x0,x1] 33 (0,0))):(w.setCell ⟨b,1,none⟩ y1).heap[b]?=some (.cells #[x0,y1] 33 (0,0)):=by
 rw [blk_set h 1 y1]
 rfl
section
variable {W x:World} {p tb ll lc al ac i ag nb vl vc bx by_ cb dl dc dg ul uc:Nat} {la aa va ua da:Option Addr} {av bv ra rb last ck co cn v u:Int} {bh bs:Bool} {a:Act} {K:Act→World→Prop} {Q:Exit→Act→World→Prop}
set_option maxRecDepth 100000 in
set_option maxHeartbeats 1600000 in
theorem df_10 (hs:a.tmps.size=247) (hd:a.defers=[]) (x0:a.eval (.tmp 0)=.slice la ll lc) (x1:a.eval (.tmp 1)=.int .i64 av) (x2:a.eval (.tmp 2)=.int .i64 bv) (x7:a.eval (.tmp 7)=.pointer (some ⟨p,0,none⟩)) (x9:a.eval (.tmp 9)=.pointer (some ⟨tb,0,none⟩)) (x10:a.eval (.tmp 10)=.slice aa al ac)
  
  (hK:∀ a',a'.tmps.size=247→a'.defers=[]→a'.eval (.tmp 0)=.slice la ll lc→a'.eval (.tmp 1)=.int .i64 av→a'.eval (.tmp 2)=.int .i64 bv→a'.eval (.tmp 7)=.pointer (some ⟨p,0,none⟩)→a'.eval (.tmp 9)=.pointer (some ⟨tb,0,none⟩)→a'.eval (.tmp 10)=.slice aa al ac→a'.eval (.tmp 11)=.int .i64 0→ K a' x):(atc Tryz.f4.body [1,1,1,1,1,1,1,0,0]).wp Tryz.prog (Exit.then K Q) a x:=by
 obtain ⟨cc,hcc,hce⟩:=expand247 hs hd
 have g0:=(hce 0).trans x0
 have g1:=(hce 1).trans x1
 have g2:=(hce 2).trans x2
 have g7:=(hce 7).trans x7
 have g9:=(hce 9).trans x9
 have g10:=(hce 10).trans x10
 clear hce hs hd x0 x1 x2 x7 x9 x10
 subst hcc
 conv=>arg 2; whnf
 simp only [lit247,g0,g1,g2,g7,g9,g10]
 clear g0 g1 g2 g7 g9 g10
 have HK:Hid _:=hK
 clear hK
 go_wp2
 exact HK.out _ rfl rfl rfl rfl rfl rfl rfl rfl rfl 
set_option maxRecDepth 100000 in
set_option maxHeartbeats 1600000 in
theorem df_11in (hs:a.tmps.size=247) (hd:a.defers=[]) (x0:a.eval (.tmp 0)=.slice la ll lc) (x1:a.eval (.tmp 1)=.int .i64 av) (x2:a.eval (.tmp 2)=.int .i64 bv) (x7:a.eval (.tmp 7)=.pointer (some ⟨p,0,none⟩)) (x9:a.eval (.tmp 9)=.pointer (some ⟨tb,0,none⟩)) (x10:a.eval (.tmp 10)=.slice aa al ac) (x11:a.eval (.tmp 11)=.int .i64 i)
  (hi2:(i:Int) < ll)
  (hK:∀ a',a'.tmps.size=247→a'.defers=[]→a'.eval (.tmp 0)=.slice la ll lc→a'.eval (.tmp 1)=.int .i64 av→a'.eval (.tmp 2)=.int .i64 bv→a'.eval (.tmp 7)=.pointer (some ⟨p,0,none⟩)→a'.eval (.tmp 9)=.pointer (some ⟨tb,0,none⟩)→a'.eval (.tmp 10)=.slice aa al ac→a'.eval (.tmp 11)=.int .i64 i→ K a' x):(atc Tryz.f4.body [1,1,1,1,1,1,1,0,1,0,0,0]).wp Tryz.prog (Exit.then K Q) a x:=by
 obtain ⟨cc,hcc,hce⟩:=expand247 hs hd
 have g0:=(hce 0).trans x0
 have g1:=(hce 1).trans x1
 have g2:=(hce 2).trans x2
 have g7:=(hce 7).trans x7
 have g9:=(hce 9).trans x9
 have g10:=(hce 10).trans x10
 have g11:=(hce 11).trans x11
 clear hce hs hd x0 x1 x2 x7 x9 x10 x11
 subst hcc
 conv=>arg 2; whnf
 simp only [lit247,g0,g1,g2,g7,g9,g10,g11]
 clear g0 g1 g2 g7 g9 g10 g11
 have HK:Hid _:=hK
 clear hK
 go_wp2
 exact HK.out _ rfl rfl rfl rfl rfl rfl rfl rfl rfl 
set_option maxRecDepth 100000 in
set_option maxHeartbeats 1600000 in
theorem df_11out (hs:a.tmps.size=247) (hd:a.defers=[]) (x0:a.eval (.tmp 0)=.slice la ll lc) (x1:a.eval (.tmp 1)=.int .i64 av) (x2:a.eval (.tmp 2)=.int .i64 bv) (x7:a.eval (.tmp 7)=.pointer (some ⟨p,0,none⟩)) (x9:a.eval (.tmp 9)=.pointer (some ⟨tb,0,none⟩)) (x10:a.eval (.tmp 10)=.slice aa al ac) (x11:a.eval (.tmp 11)=.int .i64 i)
  (hi2:¬ (i:Int) < ll)
  (hQ:∀ a',a'.tmps.size=247→a'.defers=[]→a'.eval (.tmp 0)=.slice la ll lc→a'.eval (.tmp 1)=.int .i64 av→a'.eval (.tmp 2)=.int .i64 bv→a'.eval (.tmp 7)=.pointer (some ⟨p,0,none⟩)→a'.eval (.tmp 9)=.pointer (some ⟨tb,0,none⟩)→a'.eval (.tmp 10)=.slice aa al ac→ Q (.exit 0) a' x):(atc Tryz.f4.body [1,1,1,1,1,1,1,0,1,0,0,0]).wp Tryz.prog (Exit.then K Q) a x:=by
 obtain ⟨cc,hcc,hce⟩:=expand247 hs hd
 have g0:=(hce 0).trans x0
 have g1:=(hce 1).trans x1
 have g2:=(hce 2).trans x2
 have g7:=(hce 7).trans x7
 have g9:=(hce 9).trans x9
 have g10:=(hce 10).trans x10
 have g11:=(hce 11).trans x11
 clear hce hs hd x0 x1 x2 x7 x9 x10 x11
 subst hcc
 conv=>arg 2; whnf
 simp only [lit247,g0,g1,g2,g7,g9,g10,g11]
 clear g0 g1 g2 g7 g9 g10 g11
 have HK:Hid _:=hQ
 clear hQ
 go_wp2
 exact HK.out _ rfl rfl rfl rfl rfl rfl rfl rfl 
set_option maxRecDepth 100000 in
set_option maxHeartbeats 1600000 in
theorem df_12 (hs:a.tmps.size=247) (hd:a.defers=[]) (x0:a.eval (.tmp 0)=.slice la ll lc) (x1:a.eval (.tmp 1)=.int .i64 av) (x2:a.eval (.tmp 2)=.int .i64 bv) (x7:a.eval (.tmp 7)=.pointer (some ⟨p,0,none⟩)) (x9:a.eval (.tmp 9)=.pointer (some ⟨tb,0,none⟩)) (x10:a.eval (.tmp 10)=.slice aa al ac) (x11:a.eval (.tmp 11)=.int .i64 i)
  (hi2:i≤1000)
  (hK:∀ a',a'.tmps.size=247→a'.defers=[]→a'.eval (.tmp 0)=.slice la ll lc→a'.eval (.tmp 1)=.int .i64 av→a'.eval (.tmp 2)=.int .i64 bv→a'.eval (.tmp 7)=.pointer (some ⟨p,0,none⟩)→a'.eval (.tmp 9)=.pointer (some ⟨tb,0,none⟩)→a'.eval (.tmp 10)=.slice aa al ac→a'.eval (.tmp 11)=.int .i64 ((i+1:Nat):Int)→ K a' x):(atc Tryz.f4.body [1,1,1,1,1,1,1,0,1,0,0,1,1]).wp Tryz.prog (Exit.then K Q) a x:=by
 obtain ⟨cc,hcc,hce⟩:=expand247 hs hd
 have g0:=(hce 0).trans x0
 have g1:=(hce 1).trans x1
 have g2:=(hce 2).trans x2
 have g7:=(hce 7).trans x7
 have g9:=(hce 9).trans x9
 have g10:=(hce 10).trans x10
 have g11:=(hce 11).trans x11
 clear hce hs hd x0 x1 x2 x7 x9 x10 x11
 subst hcc
 conv=>arg 2; whnf
 simp only [lit247,g0,g1,g2,g7,g9,g10,g11]
 clear g0 g1 g2 g7 g9 g10 g11
 have HK:Hid _:=hK
 clear hK
 go_wp2
 exact HK.out _ rfl rfl rfl rfl rfl rfl rfl rfl rfl 
set_option maxRecDepth 100000 in
set_option maxHeartbeats 1600000 in
theorem df_14 {vv:Value} (hs:a.tmps.size=247) (hd:a.defers=[]) (x0:a.eval (.tmp 0)=.slice la ll lc) (x1:a.eval (.tmp 1)=.int .i64 av) (x2:a.eval (.tmp 2)=.int .i64 bv) (x7:a.eval (.tmp 7)=.pointer (some ⟨p,0,none⟩)) (x9:a.eval (.tmp 9)=.pointer (some ⟨tb,0,none⟩)) (x10:a.eval (.tmp 10)=.slice aa al ac) (x11:a.eval (.tmp 11)=.int .i64 i) (x12:a.eval (.tmp 12)=vv) (x14:a.eval (.tmp 14)=.bool true)
  
  (hK:∀ a',a'.tmps.size=247→a'.defers=[]→a'.eval (.tmp 0)=.slice la ll lc→a'.eval (.tmp 1)=.int .i64 av→a'.eval (.tmp 2)=.int .i64 bv→a'.eval (.tmp 7)=.pointer (some ⟨p,0,none⟩)→a'.eval (.tmp 9)=.pointer (some ⟨tb,0,none⟩)→a'.eval (.tmp 10)=.slice aa al ac→a'.eval (.tmp 11)=.int .i64 i→a'.eval (.tmp 12)=vv→ K a' x):(atc Tryz.f4.body [1,1,1,1,1,1,1,0,1,0,0,1,0,0,1,0]).wp Tryz.prog (Exit.then K Q) a x:=by
 obtain ⟨cc,hcc,hce⟩:=expand247 hs hd
 have g0:=(hce 0).trans x0
 have g1:=(hce 1).trans x1
 have g2:=(hce 2).trans x2
 have g7:=(hce 7).trans x7
 have g9:=(hce 9).trans x9
 have g10:=(hce 10).trans x10
 have g11:=(hce 11).trans x11
 have g12:=(hce 12).trans x12
 have g14:=(hce 14).trans x14
 clear hce hs hd x0 x1 x2 x7 x9 x10 x11 x12 x14
 subst hcc
 conv=>arg 2; whnf
 simp only [lit247,g0,g1,g2,g7,g9,g10,g11,g12,g14]
 clear g0 g1 g2 g7 g9 g10 g11 g12 g14
 have HK:Hid _:=hK
 clear hK
 go_wp2
 exact HK.out _ rfl rfl rfl rfl rfl rfl rfl rfl rfl rfl 
set_option maxRecDepth 100000 in
set_option maxHeartbeats 1600000 in
theorem df_16nil (hs:a.tmps.size=247) (hd:a.defers=[]) (x0:a.eval (.tmp 0)=.slice la ll lc) (x1:a.eval (.tmp 1)=.int .i64 av) (x2:a.eval (.tmp 2)=.int .i64 bv) (x7:a.eval (.tmp 7)=.pointer (some ⟨p,0,none⟩)) (x9:a.eval (.tmp 9)=.pointer (some ⟨tb,0,none⟩)) (x10:a.eval (.tmp 10)=.slice aa al ac) (x11:a.eval (.tmp 11)=.int .i64 i) (x12:a.eval (.tmp 12)=.pointer none)
  
  (hK:∀ a',a'.tmps.size=247→a'.defers=[]→a'.eval (.tmp 0)=.slice la ll lc→a'.eval (.tmp 1)=.int .i64 av→a'.eval (.tmp 2)=.int .i64 bv→a'.eval (.tmp 7)=.pointer (some ⟨p,0,none⟩)→a'.eval (.tmp 9)=.pointer (some ⟨tb,0,none⟩)→a'.eval (.tmp 10)=.slice aa al ac→a'.eval (.tmp 11)=.int .i64 i→ K a' x):(atc Tryz.f4.body [1,1,1,1,1,1,1,0,1,0,0,1,0,0,1,1]).wp Tryz.prog (Exit.then K Q) a x:=by
 obtain ⟨cc,hcc,hce⟩:=expand247 hs hd
 have g0:=(hce 0).trans x0
 have g1:=(hce 1).trans x1
 have g2:=(hce 2).trans x2
 have g7:=(hce 7).trans x7
 have g9:=(hce 9).trans x9
 have g10:=(hce 10).trans x10
 have g11:=(hce 11).trans x11
 have g12:=(hce 12).trans x12
 clear hce hs hd x0 x1 x2 x7 x9 x10 x11 x12
 subst hcc
 conv=>arg 2; whnf
 simp only [lit247,g0,g1,g2,g7,g9,g10,g11,g12]
 clear g0 g1 g2 g7 g9 g10 g11 g12
 have HK:Hid _:=hK
 clear hK
 go_wp2
 exact HK.out _ rfl rfl rfl rfl rfl rfl rfl rfl rfl 
set_option maxRecDepth 100000 in
set_option maxHeartbeats 1600000 in
theorem df_17 {R:List Vr} {B:Nat} {r:Vr} (hs:a.tmps.size=247) (hd:a.defers=[]) (x0:a.eval (.tmp 0)=.slice la ll lc) (x1:a.eval (.tmp 1)=.int .i64 av) (x2:a.eval (.tmp 2)=.int .i64 bv) (x7:a.eval (.tmp 7)=.pointer (some ⟨p,0,none⟩)) (x9:a.eval (.tmp 9)=.pointer (some ⟨tb,0,none⟩)) (x10:a.eval (.tmp 10)=.slice aa R.length ac) (x11:a.eval (.tmp 11)=.int .i64 i) (x12:a.eval (.tmp 12)=.pointer (some ⟨nb,0,none⟩))
  (c0:x.cell? ⟨nb,0,none⟩=some (.int .i64 (rootO r.o))) (hrv:r.v=.slice va vl vc) (c1:x.cell? ⟨nb,1,none⟩=some (.slice va vl vc)) (hR:Rw B x (.slice aa R.length ac) R) (hl:R.length≤1000) (hB:B≤x.heap.size)
  (hK:∀ a' y v,a'.tmps.size=247→a'.defers=[]→a'.eval (.tmp 0)=.slice la ll lc→a'.eval (.tmp 1)=.int .i64 av→a'.eval (.tmp 2)=.int .i64 bv→a'.eval (.tmp 7)=.pointer (some ⟨p,0,none⟩)→a'.eval (.tmp 9)=.pointer (some ⟨tb,0,none⟩)→a'.eval (.tmp 10)=v→a'.eval (.tmp 11)=.int .i64 i→Rw B y v (R ++ [r])→Turned (Value.slice aa R.length ac).ownBlock.toList x y→(v.ownBlock=(Value.slice aa R.length ac).ownBlock∨v.ownBlock=some (x.heap.size+1))→K a' y):(atc Tryz.f4.body [1,1,1,1,1,1,1,0,1,0,0,1,0,0,1,1]).wp Tryz.prog (Exit.then K Q) a x:=by
 obtain ⟨cc,hcc,hce⟩:=expand247 hs hd
 have g0:=(hce 0).trans x0
 have g1:=(hce 1).trans x1
 have g2:=(hce 2).trans x2
 have g7:=(hce 7).trans x7
 have g9:=(hce 9).trans x9
 have g10:=(hce 10).trans x10
 have g11:=(hce 11).trans x11
 have g12:=(hce 12).trans x12
 clear hce hs hd x0 x1 x2 x7 x9 x10 x11 x12
 subst hcc
 conv=>arg 2; whnf
 simp only [lit247,g0,g1,g2,g7,g9,g10,g11,g12]
 clear g0 g1 g2 g7 g9 g10 g11 g12
 have HV:Hid _:=And.intro hR (And.intro hl hB)
 obtain ⟨ro,rv⟩:=r
 simp only at hrv c0
 subst hrv
 clear hR hl hB
 have HK:Hid _:=hK
 clear hK
 go_wp2_with (at_builtin; go_loud (refine wpList_apVr (v:=.slice aa R.length ac) (R:=R) (r:=⟨ro,.slice va vl vc⟩) (g:=x.heap.size) (B:=B) rfl _ _ rfl rfl (HV.out.1.still ((Turned.refl [] _).alloc _)) rfl (blk_new _ _) rfl (by have:=HV.out.2.1; omega) (by have:=HV.out.2.2; simp; omega) ?_; intro v' w11 hsr ht11 hor; have HSR:Hid _:=hsr; have HT11:Hid _:=ht11; have hor2:v'.ownBlock=(Value.slice aa R.length ac).ownBlock∨v'.ownBlock=some (x.heap.size+1):=(by simpa using hor); have HOR:Hid _:=hor2; clear hsr ht11 hor hor2))
 exact HK.out _ _ _ rfl rfl rfl rfl rfl rfl rfl rfl rfl HSR.out ((((Turned.refl [] _).alloc _).mono (by simp)).trans HT11.out) HOR.out
set_option maxRecDepth 100000 in
set_option maxHeartbeats 1600000 in
theorem df_19 {f:FuncId} {caps:Array Value} {PD:World→Prop} {PG:Value→World→Prop} (hs:a.tmps.size=247) (hd:a.defers=[]) (x9:a.eval (.tmp 9)=.pointer (some ⟨tb,0,none⟩)) (x15:a.eval (.tmp 15)=.pointer (some ⟨bx,0,none⟩)) (x16:a.eval (.tmp 16)=.pointer (some ⟨by_,0,none⟩))
  (c0:x.cell? ⟨bx,0,none⟩=some (.int .i64 ra)) (c1:x.cell? ⟨by_,0,none⟩=some (.int .i64 rb)) (HD:Calls Tryz.prog 14 #[pt tb,.pointer none,.int .i64 ra,.int .i64 rb] x fun e x'=>e=.returned (.func (.func f) #[] caps)∧PD x') (HG0:∀ x',PD x'→Calls Tryz.prog 13 #[.func (.func f) #[] caps,.int .i64 (-1)] x' fun e x2=>∃ dv,e=.returned (.tuple #[dv,.int .i64 0,.bool true])∧PG dv x2)
  (hK:∀ a' y dv,a'.tmps.size=247→a'.defers=[]→a'.eval (.tmp 9)=.pointer (some ⟨tb,0,none⟩)→a'.eval (.tmp 15)=.pointer (some ⟨bx,0,none⟩)→a'.eval (.tmp 16)=.pointer (some ⟨by_,0,none⟩)→a'.eval (.tmp 17)=dv→a'.eval (.tmp 18)=.int .i64 0→a'.eval (.tmp 19)=.bool true→PG dv y→K a' y):(atc Tryz.f4.body [1,1,1,1,1,1,1,1,1,0]).wp Tryz.prog (Exit.then K Q) a x:=by
 obtain ⟨cc,hcc,hce⟩:=expand247 hs hd
 have g9:=(hce 9).trans x9
 have g15:=(hce 15).trans x15
 have g16:=(hce 16).trans x16
 clear hce hs hd x9 x15 x16
 subst hcc
 conv=>arg 2; whnf
 simp only [lit247,g9,g15,g16]
 clear g9 g15 g16
 have HK:Hid _:=hK
 clear hK
 have HG:Hid _:=HG0
 clear HG0
 go_wp2_with (first
  | (go_at_call 14; refine HD.mono ?_; rintro e w1 ⟨rfl,hp⟩; have HGG:=HG.out _ hp; clear hp HD)
  | (go_at_call 13; refine HGG.mono ?_; rintro e w2 ⟨dv,rfl,hp⟩; have HPP:Hid _:=hp; clear hp HGG))
 exact HK.out _ _ _ rfl rfl rfl rfl rfl rfl rfl rfl HPP.out
set_option maxRecDepth 100000 in
set_option maxHeartbeats 1600000 in
theorem df_20 {f:FuncId} {caps:Array Value} {PD:World→Prop} {PG:Value→World→Prop} {d0:Value} (hs:a.tmps.size=247) (hd:a.defers=[]) (x9:a.eval (.tmp 9)=.pointer (some ⟨tb,0,none⟩)) (x15:a.eval (.tmp 15)=.pointer (some ⟨bx,0,none⟩)) (x16:a.eval (.tmp 16)=.pointer (some ⟨by_,0,none⟩)) (x17:a.eval (.tmp 17)=d0) (x18:a.eval (.tmp 18)=.int .i64 0) (x19:a.eval (.tmp 19)=.bool true)
  (c0:x.cell? ⟨bx,0,none⟩=some (.int .i64 ra)) (HD:Calls Tryz.prog 14 #[pt tb,.pointer none,.int .i64 ra,.int .i64 ra] x fun e x'=>e=.returned (.func (.func f) #[] caps)∧PD x') (HG0:∀ x',PD x'→Calls Tryz.prog 13 #[.func (.func f) #[] caps,.int .i64 (-1)] x' fun e x2=>∃ dv,e=.returned (.tuple #[dv,.int .i64 0,.bool true])∧PG dv x2)
  (hK:∀ a' y dv,a'.tmps.size=247→a'.defers=[]→a'.eval (.tmp 9)=.pointer (some ⟨tb,0,none⟩)→a'.eval (.tmp 15)=.pointer (some ⟨bx,0,none⟩)→a'.eval (.tmp 16)=.pointer (some ⟨by_,0,none⟩)→a'.eval (.tmp 17)=d0→a'.eval (.tmp 18)=.int .i64 0→a'.eval (.tmp 19)=.bool true→a'.eval (.tmp 20)=dv→a'.eval (.tmp 21)=.int .i64 0→a'.eval (.tmp 22)=.bool true→PG dv y→K a' y):(atc Tryz.f4.body [1,1,1,1,1,1,1,1,1,1,0]).wp Tryz.prog (Exit.then K Q) a x:=by
 obtain ⟨cc,hcc,hce⟩:=expand247 hs hd
 have g9:=(hce 9).trans x9
 have g15:=(hce 15).trans x15
 have g16:=(hce 16).trans x16
 have g17:=(hce 17).trans x17
 have g18:=(hce 18).trans x18
 have g19:=(hce 19).trans x19
 clear hce hs hd x9 x15 x16 x17 x18 x19
 subst hcc
 conv=>arg 2; whnf
 simp only [lit247,g9,g15,g16,g17,g18,g19]
 clear g9 g15 g16 g17 g18 g19
 have HK:Hid _:=hK
 clear hK
 have HG:Hid _:=HG0
 clear HG0
 go_wp2_with (first
  | (go_at_call 14; refine HD.mono ?_; rintro e w1 ⟨rfl,hp⟩; have HGG:=HG.out _ hp; clear hp HD)
  | (go_at_call 13; refine HGG.mono ?_; rintro e w2 ⟨dv,rfl,hp⟩; have HPP:Hid _:=hp; clear hp HGG))
 exact HK.out _ _ _ rfl rfl rfl rfl rfl rfl rfl rfl rfl rfl rfl HPP.out
set_option maxRecDepth 100000 in
set_option maxHeartbeats 1600000 in
theorem df_21 {d0:Value} (hs:a.tmps.size=247) (hd:a.defers=[]) (x15:a.eval (.tmp 15)=.pointer (some ⟨bx,0,none⟩)) (x16:a.eval (.tmp 16)=.pointer (some ⟨by_,0,none⟩)) (x17:a.eval (.tmp 17)=d0) (x18:a.eval (.tmp 18)=.int .i64 0) (x19:a.eval (.tmp 19)=.bool true) (x20:a.eval (.tmp 20)=.slice da 0 dc) (x21:a.eval (.tmp 21)=.int .i64 0) (x22:a.eval (.tmp 22)=.bool true)
  
  (hK:∀ a',a'.tmps.size=247→a'.defers=[]→a'.eval (.tmp 15)=.pointer (some ⟨bx,0,none⟩)→a'.eval (.tmp 16)=.pointer (some ⟨by_,0,none⟩)→a'.eval (.tmp 17)=d0→ K a' x):(atc Tryz.f4.body [1,1,1,1,1,1,1,1,1,1,1,0]).wp Tryz.prog (Exit.then K Q) a x:=by
 obtain ⟨cc,hcc,hce⟩:=expand247 hs hd
 have g15:=(hce 15).trans x15
 have g16:=(hce 16).trans x16
 have g17:=(hce 17).trans x17
 have g18:=(hce 18).trans x18
 have g19:=(hce 19).trans x19
 have g20:=(hce 20).trans x20
 have g21:=(hce 21).trans x21
 have g22:=(hce 22).trans x22
 clear hce hs hd x15 x16 x17 x18 x19 x20 x21 x22
 subst hcc
 conv=>arg 2; whnf
 simp only [lit247,g15,g16,g17,g18,g19,g20,g21,g22]
 clear g15 g16 g17 g18 g19 g20 g21 g22
 have HK:Hid _:=hK
 clear hK
 go_wp2
 exact HK.out _ rfl rfl rfl rfl rfl 
set_option maxRecDepth 100000 in
set_option maxHeartbeats 1600000 in
theorem df_23 {d0:Value} (hs:a.tmps.size=247) (hd:a.defers=[]) (x15:a.eval (.tmp 15)=.pointer (some ⟨bx,0,none⟩)) (x16:a.eval (.tmp 16)=.pointer (some ⟨by_,0,none⟩)) (x17:a.eval (.tmp 17)=d0)
  
  (hK:∀ a',a'.tmps.size=247→a'.defers=[]→a'.eval (.tmp 15)=.pointer (some ⟨bx,0,none⟩)→a'.eval (.tmp 16)=.pointer (some ⟨by_,0,none⟩)→a'.eval (.tmp 17)=d0→a'.eval (.tmp 23)=.int .i64 (-1)→ K a' x):(atc Tryz.f4.body [1,1,1,1,1,1,1,1,1,1,1,1,0]).wp Tryz.prog (Exit.then K Q) a x:=by
 obtain ⟨cc,hcc,hce⟩:=expand247 hs hd
 have g15:=(hce 15).trans x15
 have g16:=(hce 16).trans x16
 have g17:=(hce 17).trans x17
 clear hce hs hd x15 x16 x17
 subst hcc
 conv=>arg 2; whnf
 simp only [lit247,g15,g16,g17]
 clear g15 g16 g17
 have HK:Hid _:=hK
 clear hK
 go_wp2
 exact HK.out _ rfl rfl rfl rfl rfl rfl 
set_option maxRecDepth 100000 in
set_option maxHeartbeats 1600000 in
theorem df_24 (hs:a.tmps.size=247) (hd:a.defers=[]) (x15:a.eval (.tmp 15)=.pointer (some ⟨bx,0,none⟩)) (x16:a.eval (.tmp 16)=.pointer (some ⟨by_,0,none⟩)) (x17:a.eval (.tmp 17)=.slice da dl dc) (x23:a.eval (.tmp 23)=.int .i64 last)
  
  (hK:∀ a',a'.tmps.size=247→a'.defers=[]→a'.eval (.tmp 15)=.pointer (some ⟨bx,0,none⟩)→a'.eval (.tmp 16)=.pointer (some ⟨by_,0,none⟩)→a'.eval (.tmp 17)=.slice da dl dc→a'.eval (.tmp 23)=.int .i64 last→a'.eval (.tmp 24)=.int .i64 0→ K a' x):(atc Tryz.f4.body [1,1,1,1,1,1,1,1,1,1,1,1,1,0,0]).wp Tryz.prog (Exit.then K Q) a x:=by
 obtain ⟨cc,hcc,hce⟩:=expand247 hs hd
 have g15:=(hce 15).trans x15
 have g16:=(hce 16).trans x16
 have g17:=(hce 17).trans x17
 have g23:=(hce 23).trans x23
 clear hce hs hd x15 x16 x17 x23
 subst hcc
 conv=>arg 2; whnf
 simp only [lit247,g15,g16,g17,g23]
 clear g15 g16 g17 g23
 have HK:Hid _:=hK
 clear hK
 go_wp2
 exact HK.out _ rfl rfl rfl rfl rfl rfl rfl 
set_option maxRecDepth 100000 in
set_option maxHeartbeats 1600000 in
theorem df_25in (hs:a.tmps.size=247) (hd:a.defers=[]) (x15:a.eval (.tmp 15)=.pointer (some ⟨bx,0,none⟩)) (x16:a.eval (.tmp 16)=.pointer (some ⟨by_,0,none⟩)) (x17:a.eval (.tmp 17)=.slice da dl dc) (x23:a.eval (.tmp 23)=.int .i64 last) (x24:a.eval (.tmp 24)=.int .i64 i)
  (hi2:(i:Int) < dl)
  (hK:∀ a',a'.tmps.size=247→a'.defers=[]→a'.eval (.tmp 15)=.pointer (some ⟨bx,0,none⟩)→a'.eval (.tmp 16)=.pointer (some ⟨by_,0,none⟩)→a'.eval (.tmp 17)=.slice da dl dc→a'.eval (.tmp 23)=.int .i64 last→a'.eval (.tmp 24)=.int .i64 i→ K a' x):(atc Tryz.f4.body [1,1,1,1,1,1,1,1,1,1,1,1,1,0,1,0,0,0]).wp Tryz.prog (Exit.then K Q) a x:=by
 obtain ⟨cc,hcc,hce⟩:=expand247 hs hd
 have g15:=(hce 15).trans x15
 have g16:=(hce 16).trans x16
 have g17:=(hce 17).trans x17
 have g23:=(hce 23).trans x23
 have g24:=(hce 24).trans x24
 clear hce hs hd x15 x16 x17 x23 x24
 subst hcc
 conv=>arg 2; whnf
 simp only [lit247,g15,g16,g17,g23,g24]
 clear g15 g16 g17 g23 g24
 have HK:Hid _:=hK
 clear hK
 go_wp2
 exact HK.out _ rfl rfl rfl rfl rfl rfl rfl 
set_option maxRecDepth 100000 in
set_option maxHeartbeats 1600000 in
theorem df_25out (hs:a.tmps.size=247) (hd:a.defers=[]) (x15:a.eval (.tmp 15)=.pointer (some ⟨bx,0,none⟩)) (x16:a.eval (.tmp 16)=.pointer (some ⟨by_,0,none⟩)) (x17:a.eval (.tmp 17)=.slice da dl dc) (x23:a.eval (.tmp 23)=.int .i64 last) (x24:a.eval (.tmp 24)=.int .i64 i)
  (hi2:¬ (i:Int) < dl)
  (hQ:∀ a',a'.tmps.size=247→a'.defers=[]→a'.eval (.tmp 15)=.pointer (some ⟨bx,0,none⟩)→a'.eval (.tmp 16)=.pointer (some ⟨by_,0,none⟩)→a'.eval (.tmp 17)=.slice da dl dc→a'.eval (.tmp 23)=.int .i64 last→ Q (.exit 2) a' x):(atc Tryz.f4.body [1,1,1,1,1,1,1,1,1,1,1,1,1,0,1,0,0,0]).wp Tryz.prog (Exit.then K Q) a x:=by
 obtain ⟨cc,hcc,hce⟩:=expand247 hs hd
 have g15:=(hce 15).trans x15
 have g16:=(hce 16).trans x16
 have g17:=(hce 17).trans x17
 have g23:=(hce 23).trans x23
 have g24:=(hce 24).trans x24
 clear hce hs hd x15 x16 x17 x23 x24
 subst hcc
 conv=>arg 2; whnf
 simp only [lit247,g15,g16,g17,g23,g24]
 clear g15 g16 g17 g23 g24
 have HK:Hid _:=hQ
 clear hQ
 go_wp2
 exact HK.out _ rfl rfl rfl rfl rfl rfl 
set_option maxRecDepth 100000 in
set_option maxHeartbeats 1600000 in
theorem df_26 (hs:a.tmps.size=247) (hd:a.defers=[]) (x15:a.eval (.tmp 15)=.pointer (some ⟨bx,0,none⟩)) (x16:a.eval (.tmp 16)=.pointer (some ⟨by_,0,none⟩)) (x17:a.eval (.tmp 17)=.slice da dl dc) (x23:a.eval (.tmp 23)=.int .i64 last) (x24:a.eval (.tmp 24)=.int .i64 i)
  (hi2:i≤1000000)
  (hK:∀ a',a'.tmps.size=247→a'.defers=[]→a'.eval (.tmp 15)=.pointer (some ⟨bx,0,none⟩)→a'.eval (.tmp 16)=.pointer (some ⟨by_,0,none⟩)→a'.eval (.tmp 17)=.slice da dl dc→a'.eval (.tmp 23)=.int .i64 last→a'.eval (.tmp 24)=.int .i64 ((i+1:Nat):Int)→ K a' x):(atc Tryz.f4.body [1,1,1,1,1,1,1,1,1,1,1,1,1,0,1,0,0,1,1]).wp Tryz.prog (Exit.then K Q) a x:=by
 obtain ⟨cc,hcc,hce⟩:=expand247 hs hd
 have g15:=(hce 15).trans x15
 have g16:=(hce 16).trans x16
 have g17:=(hce 17).trans x17
 have g23:=(hce 23).trans x23
 have g24:=(hce 24).trans x24
 clear hce hs hd x15 x16 x17 x23 x24
 subst hcc
 conv=>arg 2; whnf
 simp only [lit247,g15,g16,g17,g23,g24]
 clear g15 g16 g17 g23 g24
 have HK:Hid _:=hK
 clear hK
 go_wp2
 exact HK.out _ rfl rfl rfl rfl rfl rfl rfl 
set_option maxRecDepth 100000 in
set_option maxHeartbeats 1600000 in
theorem df_27 (hs:a.tmps.size=247) (hd:a.defers=[]) (x15:a.eval (.tmp 15)=.pointer (some ⟨bx,0,none⟩)) (x16:a.eval (.tmp 16)=.pointer (some ⟨by_,0,none⟩)) (x17:a.eval (.tmp 17)=.slice (some ⟨dg,0,none⟩) dl dc) (x23:a.eval (.tmp 23)=.int .i64 last) (x24:a.eval (.tmp 24)=.int .i64 i)
  (hi2:(i:Int) < dl) (c0:x.cell? ⟨dg,i * 5,none⟩=some (.int .i64 ck)) (c1:x.cell? ⟨dg,i * 5+1,none⟩=some (.int .i64 co)) (c2:x.cell? ⟨dg,i * 5+2,none⟩=some (.int .i64 cn)) (c3:x.cell? ⟨dg,i * 5+3,none⟩=some (.bool bh)) (c4:x.cell? ⟨dg,i * 5+4,none⟩=some (.bool bs))
  (hK:∀ a' y,a'.tmps.size=247→a'.defers=[]→a'.eval (.tmp 15)=.pointer (some ⟨bx,0,none⟩)→a'.eval (.tmp 16)=.pointer (some ⟨by_,0,none⟩)→a'.eval (.tmp 17)=.slice (some ⟨dg,0,none⟩) dl dc→a'.eval (.tmp 23)=.int .i64 last→a'.eval (.tmp 24)=.int .i64 i→a'.eval (.tmp 25)=.pointer (some ⟨x.heap.size,0,none⟩)→Turned [] x y→y.heap[x.heap.size]?=some (chO ck co cn bh bs)→K a' y):(atc Tryz.f4.body [1,1,1,1,1,1,1,1,1,1,1,1,1,0,1,0,0,1,0,0,0]).wp Tryz.prog (Exit.then K Q) a x:=by
 obtain ⟨cc,hcc,hce⟩:=expand247 hs hd
 have g15:=(hce 15).trans x15
 have g16:=(hce 16).trans x16
 have g17:=(hce 17).trans x17
 have g23:=(hce 23).trans x23
 have g24:=(hce 24).trans x24
 clear hce hs hd x15 x16 x17 x23 x24
 subst hcc
 conv=>arg 2; whnf
 simp only [lit247,g15,g16,g17,g23,g24]
 clear g15 g16 g17 g23 g24
 have HK:Hid _:=hK
 clear hK
 go_wp2
 refine HK.out _ _ rfl rfl rfl rfl rfl rfl rfl rfl ?_ ?_
 ·first | exact (Turned.refl [] _).alloc _ | exact (((((((Turned.refl [] _).alloc _).set (.inr (by simp)) _ _).set (.inr (by simp)) _ _).set (.inr (by simp)) _ _).set (.inr (by simp)) _ _).set (.inr (by simp)) _ _)
 ·first | exact blk_new _ _ | exact (by rw [blk_set (blk_set (blk_set (blk_set (blk_set (blk_new _ _) _ _) _ _) _ _) _ _) _ _]; rfl)
set_option maxRecDepth 100000 in
set_option maxHeartbeats 1600000 in
theorem df_28 (hs:a.tmps.size=247) (hd:a.defers=[]) (x15:a.eval (.tmp 15)=.pointer (some ⟨bx,0,none⟩)) (x16:a.eval (.tmp 16)=.pointer (some ⟨by_,0,none⟩)) (x17:a.eval (.tmp 17)=.slice da dl dc) (x23:a.eval (.tmp 23)=.int .i64 last) (x24:a.eval (.tmp 24)=.int .i64 i) (x25:a.eval (.tmp 25)=.pointer (some ⟨cb,0,none⟩))
  (d1:x.cell? ⟨bx,1,none⟩=some (.slice va vl vc)) (c0:x.cell? ⟨cb,0,none⟩=some (.int .i64 ck)) {PP:World→Prop} (HP:Calls Tryz.prog 15 #[.slice va vl vc,.int .i64 ck] x fun e x'=>e=.returned (.tuple #[.int .i64 v,.bool bh])∧PP x')
  (hK:∀ a' y,a'.tmps.size=247→a'.defers=[]→a'.eval (.tmp 15)=.pointer (some ⟨bx,0,none⟩)→a'.eval (.tmp 16)=.pointer (some ⟨by_,0,none⟩)→a'.eval (.tmp 17)=.slice da dl dc→a'.eval (.tmp 23)=.int .i64 last→a'.eval (.tmp 24)=.int .i64 i→a'.eval (.tmp 25)=.pointer (some ⟨cb,0,none⟩)→a'.eval (.tmp 26)=.int .i64 v→a'.eval (.tmp 27)=.bool bh→PP y→K a' y):(atc Tryz.f4.body [1,1,1,1,1,1,1,1,1,1,1,1,1,0,1,0,0,1,0,0,1,0]).wp Tryz.prog (Exit.then K Q) a x:=by
 obtain ⟨cc,hcc,hce⟩:=expand247 hs hd
 have g15:=(hce 15).trans x15
 have g16:=(hce 16).trans x16
 have g17:=(hce 17).trans x17
 have g23:=(hce 23).trans x23
 have g24:=(hce 24).trans x24
 have g25:=(hce 25).trans x25
 clear hce hs hd x15 x16 x17 x23 x24 x25
 subst hcc
 conv=>arg 2; whnf
 simp only [lit247,g15,g16,g17,g23,g24,g25]
 clear g15 g16 g17 g23 g24 g25
 have HK:Hid _:=hK
 clear hK
 go_wp2_with (go_at_call 15; refine HP.mono ?_; rintro e w1 ⟨rfl,hp⟩; have HPP:Hid _:=hp; clear hp HP)
 exact HK.out _ _ rfl rfl rfl rfl rfl rfl rfl rfl rfl rfl HPP.out
set_option maxRecDepth 100000 in
set_option maxHeartbeats 1600000 in
theorem df_29 (hs:a.tmps.size=247) (hd:a.defers=[]) (x15:a.eval (.tmp 15)=.pointer (some ⟨bx,0,none⟩)) (x16:a.eval (.tmp 16)=.pointer (some ⟨by_,0,none⟩)) (x17:a.eval (.tmp 17)=.slice da dl dc) (x23:a.eval (.tmp 23)=.int .i64 last) (x24:a.eval (.tmp 24)=.int .i64 i) (x25:a.eval (.tmp 25)=.pointer (some ⟨cb,0,none⟩)) (x26:a.eval (.tmp 26)=.int .i64 u) (x27:a.eval (.tmp 27)=.bool bs)
  (d1:x.cell? ⟨by_,1,none⟩=some (.slice ua ul uc)) (c0:x.cell? ⟨cb,0,none⟩=some (.int .i64 ck)) {PP:World→Prop} (HP:Calls Tryz.prog 15 #[.slice ua ul uc,.int .i64 ck] x fun e x'=>e=.returned (.tuple #[.int .i64 v,.bool bh])∧PP x')
  (hK:∀ a' y,a'.tmps.size=247→a'.defers=[]→a'.eval (.tmp 15)=.pointer (some ⟨bx,0,none⟩)→a'.eval (.tmp 16)=.pointer (some ⟨by_,0,none⟩)→a'.eval (.tmp 17)=.slice da dl dc→a'.eval (.tmp 23)=.int .i64 last→a'.eval (.tmp 24)=.int .i64 i→a'.eval (.tmp 25)=.pointer (some ⟨cb,0,none⟩)→a'.eval (.tmp 26)=.int .i64 u→a'.eval (.tmp 27)=.bool bs→a'.eval (.tmp 28)=.int .i64 v→a'.eval (.tmp 29)=.bool bh→PP y→K a' y):(atc Tryz.f4.body [1,1,1,1,1,1,1,1,1,1,1,1,1,0,1,0,0,1,0,0,1,1,0]).wp Tryz.prog (Exit.then K Q) a x:=by
 obtain ⟨cc,hcc,hce⟩:=expand247 hs hd
 have g15:=(hce 15).trans x15
 have g16:=(hce 16).trans x16
 have g17:=(hce 17).trans x17
 have g23:=(hce 23).trans x23
 have g24:=(hce 24).trans x24
 have g25:=(hce 25).trans x25
 have g26:=(hce 26).trans x26
 have g27:=(hce 27).trans x27
 clear hce hs hd x15 x16 x17 x23 x24 x25 x26 x27
 subst hcc
 conv=>arg 2; whnf
 simp only [lit247,g15,g16,g17,g23,g24,g25,g26,g27]
 clear g15 g16 g17 g23 g24 g25 g26 g27
 have HK:Hid _:=hK
 clear hK
 go_wp2_with (go_at_call 15; refine HP.mono ?_; rintro e w1 ⟨rfl,hp⟩; have HPP:Hid _:=hp; clear hp HP)
 exact HK.out _ _ rfl rfl rfl rfl rfl rfl rfl rfl rfl rfl rfl rfl HPP.out
set_option maxRecDepth 100000 in
set_option maxHeartbeats 1600000 in
theorem df_30 (hs:a.tmps.size=247) (hd:a.defers=[]) (x15:a.eval (.tmp 15)=.pointer (some ⟨bx,0,none⟩)) (x16:a.eval (.tmp 16)=.pointer (some ⟨by_,0,none⟩)) (x17:a.eval (.tmp 17)=.slice da dl dc) (x23:a.eval (.tmp 23)=.int .i64 last) (x24:a.eval (.tmp 24)=.int .i64 i) (x25:a.eval (.tmp 25)=.pointer (some ⟨cb,0,none⟩)) (x26:a.eval (.tmp 26)=.int .i64 co) (x27:a.eval (.tmp 27)=.bool bh) (x28:a.eval (.tmp 28)=.int .i64 cn) (x29:a.eval (.tmp 29)=.bool bs)
  (hlt:last < ck) (hne:bh=bs→¬ co=cn) (c0:x.cell? ⟨cb,0,none⟩=some (.int .i64 ck)) (c1:x.cell? ⟨cb,1,none⟩=some (.int .i64 co)) (c2:x.cell? ⟨cb,2,none⟩=some (.int .i64 cn)) (c3:x.cell? ⟨cb,3,none⟩=some (.bool bh)) (c4:x.cell? ⟨cb,4,none⟩=some (.bool bs))
  (hK:∀ a',a'.tmps.size=247→a'.defers=[]→a'.eval (.tmp 15)=.pointer (some ⟨bx,0,none⟩)→a'.eval (.tmp 16)=.pointer (some ⟨by_,0,none⟩)→a'.eval (.tmp 17)=.slice da dl dc→a'.eval (.tmp 23)=.int .i64 last→a'.eval (.tmp 24)=.int .i64 i→a'.eval (.tmp 25)=.pointer (some ⟨cb,0,none⟩)→a'.eval (.tmp 28)=.int .i64 cn→a'.eval (.tmp 29)=.bool bs→ K a' x):(atc Tryz.f4.body [1,1,1,1,1,1,1,1,1,1,1,1,1,0,1,0,0,1,0,0,1,1,1,0]).wp Tryz.prog (Exit.then K Q) a x:=by
 obtain ⟨cc,hcc,hce⟩:=expand247 hs hd
 have g15:=(hce 15).trans x15
 have g16:=(hce 16).trans x16
 have g17:=(hce 17).trans x17
 have g23:=(hce 23).trans x23
 have g24:=(hce 24).trans x24
 have g25:=(hce 25).trans x25
 have g26:=(hce 26).trans x26
 have g27:=(hce 27).trans x27
 have g28:=(hce 28).trans x28
 have g29:=(hce 29).trans x29
 clear hce hs hd x15 x16 x17 x23 x24 x25 x26 x27 x28 x29
 subst hcc
 conv=>arg 2; whnf
 simp only [lit247,g15,g16,g17,g23,g24,g25,g26,g27,g28,g29]
 clear g15 g16 g17 g23 g24 g25 g26 g27 g28 g29
 have k1:¬ ck≤last:=by omega
 have HK:Hid _:=hK
 clear hK
 cases bh <;> cases bs
 ·have hne2:=hne rfl
  go_wp2
  exact HK.out _ rfl rfl rfl rfl rfl rfl rfl rfl rfl rfl
 ·go_wp2
  exact HK.out _ rfl rfl rfl rfl rfl rfl rfl rfl rfl rfl
 ·go_wp2
  exact HK.out _ rfl rfl rfl rfl rfl rfl rfl rfl rfl rfl
 ·have hne2:=hne rfl
  go_wp2
  exact HK.out _ rfl rfl rfl rfl rfl rfl rfl rfl rfl rfl
 
set_option maxRecDepth 100000 in
set_option maxHeartbeats 1600000 in
theorem df_32 (hs:a.tmps.size=247) (hd:a.defers=[]) (x15:a.eval (.tmp 15)=.pointer (some ⟨bx,0,none⟩)) (x16:a.eval (.tmp 16)=.pointer (some ⟨by_,0,none⟩)) (x17:a.eval (.tmp 17)=.slice da dl dc) (x23:a.eval (.tmp 23)=.int .i64 last) (x24:a.eval (.tmp 24)=.int .i64 i) (x25:a.eval (.tmp 25)=.pointer (some ⟨cb,0,none⟩)) (x28:a.eval (.tmp 28)=.int .i64 cn) (x29:a.eval (.tmp 29)=.bool bs)
  (c0:x.cell? ⟨cb,0,none⟩=some (.int .i64 ck))
  (hK:∀ a',a'.tmps.size=247→a'.defers=[]→a'.eval (.tmp 15)=.pointer (some ⟨bx,0,none⟩)→a'.eval (.tmp 16)=.pointer (some ⟨by_,0,none⟩)→a'.eval (.tmp 17)=.slice da dl dc→a'.eval (.tmp 23)=.int .i64 ck→a'.eval (.tmp 24)=.int .i64 i→a'.eval (.tmp 25)=.pointer (some ⟨cb,0,none⟩)→a'.eval (.tmp 28)=.int .i64 cn→a'.eval (.tmp 29)=.bool bs→ K a' x):(atc Tryz.f4.body [1,1,1,1,1,1,1,1,1,1,1,1,1,0,1,0,0,1,0,0,1,1,1,1,0]).wp Tryz.prog (Exit.then K Q) a x:=by
 obtain ⟨cc,hcc,hce⟩:=expand247 hs hd
 have g15:=(hce 15).trans x15
 have g16:=(hce 16).trans x16
 have g17:=(hce 17).trans x17
 have g23:=(hce 23).trans x23
 have g24:=(hce 24).trans x24
 have g25:=(hce 25).trans x25
 have g28:=(hce 28).trans x28
 have g29:=(hce 29).trans x29
 clear hce hs hd x15 x16 x17 x23 x24 x25 x28 x29
 subst hcc
 conv=>arg 2; whnf
 simp only [lit247,g15,g16,g17,g23,g24,g25,g28,g29]
 clear g15 g16 g17 g23 g24 g25 g28 g29
 have HK:Hid _:=hK
 clear hK
 go_wp2
 exact HK.out _ rfl rfl rfl rfl rfl rfl rfl rfl rfl rfl 
set_option maxRecDepth 100000 in
set_option maxHeartbeats 1600000 in
theorem df_33 (hs:a.tmps.size=247) (hd:a.defers=[]) (x15:a.eval (.tmp 15)=.pointer (some ⟨bx,0,none⟩)) (x16:a.eval (.tmp 16)=.pointer (some ⟨by_,0,none⟩)) (x17:a.eval (.tmp 17)=.slice da dl dc) (x23:a.eval (.tmp 23)=.int .i64 last) (x24:a.eval (.tmp 24)=.int .i64 i) (x25:a.eval (.tmp 25)=.pointer (some ⟨cb,0,none⟩)) (x28:a.eval (.tmp 28)=.int .i64 cn) (x29:a.eval (.tmp 29)=.bool bs)
  (hb:x.heap[bx]?=some (verObj ra (.slice va vl vc))) (c0:x.cell? ⟨cb,0,none⟩=some (.int .i64 ck)) {PP:Option Addr→Nat→Nat→World→Prop} (HP:Calls Tryz.prog 16 #[.slice va vl vc,.int .i64 ck] x fun e x'=>∃ na nl nc,e=.returned (.slice na nl nc)∧x'.heap[bx]?=some (verObj ra (.slice va vl vc))∧PP na nl nc x')
  (hK:∀ a' y na nl nc z,a'.tmps.size=247→a'.defers=[]→a'.eval (.tmp 15)=.pointer (some ⟨bx,0,none⟩)→a'.eval (.tmp 16)=.pointer (some ⟨by_,0,none⟩)→a'.eval (.tmp 17)=.slice da dl dc→a'.eval (.tmp 23)=.int .i64 last→a'.eval (.tmp 24)=.int .i64 i→a'.eval (.tmp 25)=.pointer (some ⟨cb,0,none⟩)→a'.eval (.tmp 28)=.int .i64 cn→a'.eval (.tmp 29)=.bool bs→PP na nl nc z→Turned [bx] z y→y.heap[bx]?=some (verObj ra (.slice na nl nc))→K a' y):(atc Tryz.f4.body [1,1,1,1,1,1,1,1,1,1,1,1,1,0,1,0,0,1,0,0,1,1,1,1,1,0]).wp Tryz.prog (Exit.then K Q) a x:=by
 obtain ⟨cc,hcc,hce⟩:=expand247 hs hd
 have g15:=(hce 15).trans x15
 have g16:=(hce 16).trans x16
 have g17:=(hce 17).trans x17
 have g23:=(hce 23).trans x23
 have g24:=(hce 24).trans x24
 have g25:=(hce 25).trans x25
 have g28:=(hce 28).trans x28
 have g29:=(hce 29).trans x29
 clear hce hs hd x15 x16 x17 x23 x24 x25 x28 x29
 subst hcc
 conv=>arg 2; whnf
 simp only [lit247,g15,g16,g17,g23,g24,g25,g28,g29]
 clear g15 g16 g17 g23 g24 g25 g28 g29
 have d1:x.cell? ⟨bx,1,none⟩=some (.slice va vl vc):=cell_at hb 1
 have lb:=lt_of_heap hb
 have HK:Hid _:=hK
 clear hK
 go_wp2_with (go_at_call 16; refine HP.mono ?_; rintro e w1 ⟨na,nl,nc,rfl,hb1,hp⟩; have HPP:Hid _:=hp; have HB1:Hid _:=hb1; have e1:w1.cell? ⟨bx,1,none⟩=some (.slice va vl vc):=cell_at hb1 1; have z1:=froz_at hb1; clear hp HP hb1 d1)
 exact HK.out _ _ _ _ _ _ rfl rfl rfl rfl rfl rfl rfl rfl rfl rfl HPP.out ((Turned.refl _ _).set (.inl (by simp)) _ _) (ver_set1 HB1.out)
set_option maxRecDepth 100000 in
set_option maxHeartbeats 1600000 in
theorem df_34 (hs:a.tmps.size=247) (hd:a.defers=[]) (x15:a.eval (.tmp 15)=.pointer (some ⟨bx,0,none⟩)) (x16:a.eval (.tmp 16)=.pointer (some ⟨by_,0,none⟩)) (x17:a.eval (.tmp 17)=.slice da dl dc) (x23:a.eval (.tmp 23)=.int .i64 last) (x24:a.eval (.tmp 24)=.int .i64 i) (x29:a.eval (.tmp 29)=.bool false)
  
  (hK:∀ a',a'.tmps.size=247→a'.defers=[]→a'.eval (.tmp 15)=.pointer (some ⟨bx,0,none⟩)→a'.eval (.tmp 16)=.pointer (some ⟨by_,0,none⟩)→a'.eval (.tmp 17)=.slice da dl dc→a'.eval (.tmp 23)=.int .i64 last→a'.eval (.tmp 24)=.int .i64 i→ K a' x):(atc Tryz.f4.body [1,1,1,1,1,1,1,1,1,1,1,1,1,0,1,0,0,1,0,0,1,1,1,1,1,1]).wp Tryz.prog (Exit.then K Q) a x:=by
 obtain ⟨cc,hcc,hce⟩:=expand247 hs hd
 have g15:=(hce 15).trans x15
 have g16:=(hce 16).trans x16
 have g17:=(hce 17).trans x17
 have g23:=(hce 23).trans x23
 have g24:=(hce 24).trans x24
 have g29:=(hce 29).trans x29
 clear hce hs hd x15 x16 x17 x23 x24 x29
 subst hcc
 conv=>arg 2; whnf
 simp only [lit247,g15,g16,g17,g23,g24,g29]
 clear g15 g16 g17 g23 g24 g29
 have HK:Hid _:=hK
 clear hK
 go_wp2
 exact HK.out _ rfl rfl rfl rfl rfl rfl rfl 
set_option maxRecDepth 100000 in
set_option maxHeartbeats 1600000 in
theorem df_35 (hs:a.tmps.size=247) (hd:a.defers=[]) (x15:a.eval (.tmp 15)=.pointer (some ⟨bx,0,none⟩)) (x16:a.eval (.tmp 16)=.pointer (some ⟨by_,0,none⟩)) (x17:a.eval (.tmp 17)=.slice da dl dc) (x23:a.eval (.tmp 23)=.int .i64 last) (x24:a.eval (.tmp 24)=.int .i64 i) (x25:a.eval (.tmp 25)=.pointer (some ⟨cb,0,none⟩)) (x28:a.eval (.tmp 28)=.int .i64 cn) (x29:a.eval (.tmp 29)=.bool true)
  (hb:x.heap[bx]?=some (verObj ra (.slice va vl vc))) (c0:x.cell? ⟨cb,0,none⟩=some (.int .i64 ck)) {PP:Option Addr→Nat→Nat→World→Prop} (HP:Calls Tryz.prog 17 #[.slice va vl vc,.agg #[.int .i64 ck,.int .i64 cn]] x fun e x'=>∃ na nl nc,e=.returned (.slice na nl nc)∧x'.heap[bx]?=some (verObj ra (.slice va vl vc))∧PP na nl nc x')
  (hK:∀ a' y na nl nc z,a'.tmps.size=247→a'.defers=[]→a'.eval (.tmp 15)=.pointer (some ⟨bx,0,none⟩)→a'.eval (.tmp 16)=.pointer (some ⟨by_,0,none⟩)→a'.eval (.tmp 17)=.slice da dl dc→a'.eval (.tmp 23)=.int .i64 last→a'.eval (.tmp 24)=.int .i64 i→PP na nl nc z→Turned [bx] z y→y.heap[bx]?=some (verObj ra (.slice na nl nc))→K a' y):(atc Tryz.f4.body [1,1,1,1,1,1,1,1,1,1,1,1,1,0,1,0,0,1,0,0,1,1,1,1,1,1]).wp Tryz.prog (Exit.then K Q) a x:=by
 obtain ⟨cc,hcc,hce⟩:=expand247 hs hd
 have g15:=(hce 15).trans x15
 have g16:=(hce 16).trans x16
 have g17:=(hce 17).trans x17
 have g23:=(hce 23).trans x23
 have g24:=(hce 24).trans x24
 have g25:=(hce 25).trans x25
 have g28:=(hce 28).trans x28
 have g29:=(hce 29).trans x29
 clear hce hs hd x15 x16 x17 x23 x24 x25 x28 x29
 subst hcc
 conv=>arg 2; whnf
 simp only [lit247,g15,g16,g17,g23,g24,g25,g28,g29]
 clear g15 g16 g17 g23 g24 g25 g28 g29
 have d1:x.cell? ⟨bx,1,none⟩=some (.slice va vl vc):=cell_at hb 1
 have lb:=lt_of_heap hb
 have HK:Hid _:=hK
 clear hK
 go_wp2_with (go_at_call 17; refine HP.mono ?_; rintro e w1 ⟨na,nl,nc,rfl,hb1,hp⟩; have HPP:Hid _:=hp; have HB1:Hid _:=hb1; have e1:w1.cell? ⟨bx,1,none⟩=some (.slice va vl vc):=cell_at hb1 1; have z1:=froz_at hb1; clear hp HP hb1 d1)
 exact HK.out _ _ _ _ _ _ rfl rfl rfl rfl rfl rfl rfl HPP.out ((Turned.refl _ _).set (.inl (by simp)) _ _) (ver_set1 HB1.out)
set_option maxRecDepth 100000 in
set_option maxHeartbeats 1600000 in
theorem df_36 (hs:a.tmps.size=247) (hd:a.defers=[]) (x15:a.eval (.tmp 15)=.pointer (some ⟨bx,0,none⟩)) (x16:a.eval (.tmp 16)=.pointer (some ⟨by_,0,none⟩))
  (d0:x.cell? ⟨bx,1,none⟩=some (.slice va vl vc)) (d1:x.cell? ⟨by_,1,none⟩=some (.slice ua ul uc)) {PP:World→Prop} (HP:Calls Tryz.prog 18 #[.slice va vl vc,.slice ua ul uc] x fun e x'=>e=.returned (.bool true)∧PP x')
  (hQ:∀ a' y,a'.tmps.size=247→a'.defers=[]→a'.eval (.tmp 6)=.bool true→PP y→Q (.ret) a' y):(atc Tryz.f4.body [1,1,1,1,1,1,1,1,1,1,1,1,1,1]).wp Tryz.prog (Exit.then K Q) a x:=by
 obtain ⟨cc,hcc,hce⟩:=expand247 hs hd
 have g15:=(hce 15).trans x15
 have g16:=(hce 16).trans x16
 clear hce hs hd x15 x16
 subst hcc
 conv=>arg 2; whnf
 simp only [lit247,g15,g16]
 clear g15 g16
 have HK:Hid _:=hQ
 clear hQ
 go_wp2_with (go_at_call 18; refine HP.mono ?_; rintro e w1 ⟨rfl,hp⟩; have HPP:Hid _:=hp; clear hp HP)
 exact HK.out _ _ rfl rfl rfl HPP.out
end
end Go.Proofs.YtloljphbdfjgdaaGreatDoor

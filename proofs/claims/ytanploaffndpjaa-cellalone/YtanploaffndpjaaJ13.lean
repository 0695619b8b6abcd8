/- Of the proof. -/
import Derived.Test.YtanploaffndpjaaJ12
import Derived.Deep.Light
import Derived.Test.YtanploaffndpjaaProg
import Derived.Conc.WgLib
import Derived.KernelRfl
set_option maxRecDepth 100000
set_option linter.unusedSimpArgs false
set_option linter.unusedVariables false
namespace Go.Proofs.Ytanploaffndpjaa
open Go.RowKit
theorem Vx:(Try.prog.info? 62).map (fun i=>(i.zero,i.size,i.bytes))=some (some (.agg #[.int .i64 0]),1,8):=by kernel_rfl
theorem Vy:(Try.prog.info? 3).map (fun i=>(i.zero,i.size,i.bytes))=some (some (.int .i64 0),1,8):=by kernel_rfl
theorem Vz (n:Nat)(h:n≤1000000)(w:World) :
  (Instr.makeSlice 51 (.int .i64 (n:Nat)) (.int .i64 (n:Nat))).run Try.prog w=.ok (.slice (some ⟨w.heap.size,0,none⟩) n n) (w.alloc (.cells (madeCells #[.int .i64 0] n) 62 (0,0))):=by
 obtain ⟨i,hi,hzz⟩:=Option.map_eq_some_iff.1 Vx
 simp only [Prod.mk.injEq] at hzz
 obtain ⟨hz,hs,hb⟩:=hzz
 have hr:=run_make (P:=Try.prog) w 51 62 i _ af hi hz .i64 .i64 ((n:Nat):Int) ((n:Nat):Int) ag (Int.le_refl _) (by rw [hb];omega) ag
 simp only [Int.toNat_natCast,hs,Nat.mul_one] at hr
 exact hr
theorem BQ (n:Nat)(h:n≤1000000)(w:World) :
  (Instr.makeSlice 29 (.int .i64 (n:Nat)) (.int .i64 (n:Nat))).run Try.prog w=.ok (.slice (some ⟨w.heap.size,0,none⟩) n n) (w.alloc (.cells (madeCells #[.int .i64 0] n) 3 (0,0))):=by
 obtain ⟨i,hi,hzz⟩:=Option.map_eq_some_iff.1 Vy
 simp only [Prod.mk.injEq] at hzz
 obtain ⟨hz,hs,hb⟩:=hzz
 have hr:=run_make (P:=Try.prog) w 29 3 i _ af hi hz .i64 .i64 ((n:Nat):Int) ((n:Nat):Int) ag (Int.le_refl _) (by rw [hb];omega) ag
 simp only [Int.toNat_natCast,hs,Nat.mul_one] at hr
 exact hr
section
variable {w:World}
theorem IM {n:Int}(hn:n < 1∨256 < n):Calls Try.prog 5 #[.int .i64 n] w fun e w'=>e=.returned (.tuple #[.pointer none,.int .i64 42])∧w'=w:=by
 rcases (by omega:n < 1∨(¬ n < 1∧256 < n)) with h | ⟨h,h2⟩
 ·have h1:decide (n < 1)=true:=decide_eq_true h
  clear hn
  go_enter Try.func5,Try.ntmps5
  go_wp2
  go_ret2
  exact ⟨rfl,rfl⟩
 ·have h1:decide (n < 1)=false:=decide_eq_false h
  have h3:decide (256 < n)=true:=decide_eq_true h2
  clear hn
  go_enter Try.func5,Try.ntmps5
  go_wp2
  go_ret2
  exact ⟨rfl,rfl⟩
theorem IP {n:Nat}(h1:1≤n)(h2:n≤256):Calls Try.prog 5 #[.int .i64 (n:Nat)] w fun e w'=>e=.returned (.tuple #[.pointer (some ⟨w.heap.size+1,0,none⟩),.int .i64 0])∧w'=(w.alloc (.cells (madeCells #[.int .i64 0] n) 62 (0,0))).alloc (.cells #[.slice (some ⟨w.heap.size,0,none⟩) n n] 53 (0,0)):=by
 have e1:decide ((n:Int) < 1)=false:=decide_eq_false ag
 have e2:decide ((256:Int) < n)=false:=decide_eq_false ag
 have hM:=fun w=>Vz n ag w
 go_enter Try.func5,Try.ntmps5
 go_wp2
 go_ret2
 exact ⟨rfl,rfl⟩
theorem IQ {n:Nat}:gq (madeCells #[.int .i64 0] n):=fun i hi=>⟨0,by
 have hi':i < n:=by simpa [madeCells] using hi
 simp [madeCells,hi',Nat.mod_one]⟩
theorem VA {n:Nat}:(madeCells #[Value.int .i64 0] n).size=n:=by simp [madeCells]
def iB (cs:Array Value)(i:Nat):Array Value:=Array.ofFn (n:=cs.size) fun j=>if j < i then cs[j] else .int .i64 0
theorem VB {cs:Array Value}{n:Nat}(hn:cs.size=n):iB cs 0=madeCells #[.int .i64 0] n:=by
 apply Array.ext
 ·simp [iB,madeCells,hn]
 ·intro j h1 h2
  simp [iB,madeCells,Nat.mod_one]
theorem VC {cs:Array Value}{i:Nat}{x:Int}(hx:cs[i]?=some (.int .i64 x)):(iB cs i).setIfInBounds i (.int .i64 x)=iB cs (i+1):=by
 obtain ⟨hi,he⟩:=Array.getElem?_eq_some_iff.1 hx
 apply Array.ext
 ·simp [iB]
 ·intro j h1 h2
  have hj:j < cs.size:=by simpa [iB] using h2
  rw [Array.getElem_setIfInBounds]
  by_cases e:i=j
  ·subst e
   simp [iB,he]
  ·rw [if_neg e]
   simp only [iB,Array.getElem_ofFn]
   by_cases c:j < i
   ·rw [if_pos c,if_pos ag]
   ·rw [if_neg c,if_neg ag]
  ·simpa [iB] using hj
theorem VD {cs:Array Value}:iB cs cs.size=cs:=by
 apply Array.ext
 ·simp [iB]
 ·intro j h1 h2
  simp [iB]
theorem VE {cs:Array Value}{i:Nat}(hi:i < cs.size):(iB cs i)[i]?=some (.int .i64 0):=by
 rw [Array.getElem?_eq_getElem (by simpa [iB] using hi)]
 simp [iB]
structure VL (w:World)(xb b vb n:Nat)(cs:Array Value)(i:Nat)(y:World):Prop where
 t:au [] w y
 v:y.heap[vb]?=some (.cells (iB cs i) 3 (0,0))
theorem BR {xb b n:Nat}{cs:Array Value}(hA:CA w xb b n cs)(hI:gq cs)(hn:n≤256):Calls Try.prog 8 #[.pointer (some ⟨xb,0,none⟩)] w fun e w'=>e=.returned (.slice (some ⟨w.heap.size,0,none⟩) n n)∧au [] w w'∧w'.heap[w.heap.size]?=some (.cells cs 3 (0,0)):=by
 have hx:=lt_of_heap hA.x
 have hc:w.cell? ⟨xb,0,none⟩=some (.slice (some ⟨b,0,none⟩) n n):=bW hA.x 0
 have hM:=fun w=>BQ n ag w
 have H0:Hid (VL w xb b w.heap.size n cs 0 (w.alloc (.cells (madeCells #[.int .i64 0] n) 3 (0,0)))):=⟨(au.refl _ _).alloc _,by rw [VB hA.size];exact nY _ _⟩
 have HS:Hid (∀ i y,i < n→VL w xb b w.heap.size n cs i y→∃ x:Int,y.cell? ⟨xb,0,none⟩=some (.slice (some ⟨b,0,none⟩) n n)∧y.cell? ⟨b,i,none⟩=some (.int .i64 x)∧y.cell? ⟨w.heap.size,i,none⟩=some (.int .i64 0)∧y.frozen? ⟨w.heap.size,i,none⟩=false∧xb < y.heap.size∧b < y.heap.size∧w.heap.size < y.heap.size∧VL w xb b w.heap.size n cs (i+1) (y.setCell ⟨w.heap.size,i,none⟩ (.int .i64 x))):=fun i y hi h=>by
  have hi2:i < cs.size:=by rw [hA.size];exact hi
  obtain ⟨x,hxv⟩:=hI i hi2
  have k1:=h.t.heap hA.x ah
  have k2:=h.t.heap hA.c ah
  refine ⟨x,bW k1 0,(bW k2 i).trans hxv,(bW h.v i).trans (VE hi2),mP h.v i,lt_of_heap k1,lt_of_heap k2,lt_of_heap h.v,h.t.set (.inr (Nat.le_refl _)) _ _,?_⟩
  rw [← VC hxv]
  exact yf h.v i _
 have HE:Hid (∀ y,VL w xb b w.heap.size n cs n y→au [] w y∧y.heap[w.heap.size]?=some (.cells cs 3 (0,0))):=fun y h=>⟨h.t,by have:=h.v;rw [← hA.size,VD] at this;exact this⟩
 clear hA hI
 go_enter Try.func8,Try.ntmps8
 go_wp2
 go_loopw [4,16,17,18,19,20,21,22,23,24,25,26,27,28,29] (fun _ t16 _ _ _ _ _ _ _ _ _ _ _ _ _ wx=>∃ k:Nat,k≤n∧t16=.int .i64 k∧Hid (VL w xb b w.heap.size n cs k wx)) (fun _ t16 _ _ _ _ _ _ _ _ _ _ _ _ _ _=>n - (intOf t16).toNat)
 case atStart=>exact ⟨0,Nat.zero_le _,rfl,H0⟩
 case round =>
  obtain ⟨k,hk,rfl,HT⟩:=hrel
  by_cases hkn:k < n
  ·obtain ⟨x,z1,z2,z3,z4,z5,z6,z7,z8⟩:=HS.out k _ hkn HT.out
   have HL:=sQ z2
   have HZ:Hid _:=z8
   have hlt:(k:Int) < (n:Int):=by omega
   clear z8 HT
   go_wp2_with (go_at_call 18;refine HL.mono ?_;rintro e x1 ⟨rfl,rfl⟩)
   exact ⟨⟨k+1,ag,by go_num,HZ⟩,by simp [intOf];omega⟩
  ·have:k=n:=by omega
   subst this
   go_wp2
   go_ret
   exact ⟨rfl,HE.out _ HT.out⟩
theorem IU {ga gb n ca cb:Nat}{cs:Array Value}(ha:w.heap[ga]?=some (.cells cs 3 (0,0)))(hb:w.heap[gb]?=some (.cells cs 3 (0,0)))(hI:gq cs)(hs:cs.size=n)(hn:n≤1000000):Calls Try.prog 9 #[.slice (some ⟨ga,0,none⟩) n ca,.slice (some ⟨gb,0,none⟩) n cb] w fun e w'=>e=.returned (.bool true)∧au [] w w':=by
 have HA:Hid (∀ k,k < n→∃ x:Int,w.cell? ⟨ga,k,none⟩=some (.int .i64 x)∧w.cell? ⟨gb,k,none⟩=some (.int .i64 x)):=fun k hk=>by
  obtain ⟨x,hx⟩:=hI k ag
  exact ⟨x,(bW ha k).trans hx,(bW hb k).trans hx⟩
 clear ha hb hI hs
 go_enter Try.func9,Try.ntmps9
 go_wp2
 go_loopw [5] (fun i wx=>∃ k:Nat,k≤n∧i=.int .i64 k∧Hid (au [] w wx)) (fun i _=>n - (intOf i).toNat)
 case atStart=>exact ⟨0,Nat.zero_le _,rfl,au.refl _ _⟩
 case round =>
  obtain ⟨k,hk,rfl,HT⟩:=hrel
  by_cases hkn:k < n
  ·obtain ⟨x,d1,d2⟩:=HA.out k hkn
   have c1:=HT.out.cell d1 ah
   have c2:=HT.out.cell d2 ah
   have hlt:(k:Int) < (n:Int):=by omega
   clear d1 d2
   go_wp2
   go_quiet (fail)
   go_wp2
   exact ⟨⟨k+1,ag,by go_num,⟨HT.out.os,HT.out.tape,HT.out.output,HT.out.size,HT.out.block⟩⟩,by simp [intOf];omega⟩
  ·have:k=n:=by omega
   subst this
   go_wp2
   go_ret
   exact ⟨rfl,HT.out⟩
end
def sub:List Nat→Code→Code
 | [],c=>c
 | 0 :: p,.seq a _=>sub p a
 | _ :: p,.seq _ b=>sub p b
 | 0 :: p,.cond _ a _=>sub p a
 | _ :: p,.cond _ _ b=>sub p b
 | _ :: p,.block _ c=>sub p c
 | _ :: p,.scope c=>sub p c
 | _ :: p,.loop c=>sub p c
 | _,_=>.skip
def ug (b:Option Code)(p:List Nat):Code:=sub p (b.getD .skip)
def dK (c:Nat→Value):Array Value:=#[c 0,c 1,c 2,c 3,c 4,c 5,c 6,c 7,c 8,c 9,c 10,c 11,c 12,c 13,c 14,c 15,c 16,c 17,c 18,c 19,c 20,c 21,c 22,c 23,c 24,c 25,c 26,c 27,c 28,c 29,c 30,c 31,c 32,c 33,c 34,c 35,c 36,c 37,c 38,c 39,c 40,c 41,c 42,c 43,c 44,c 45,c 46,c 47,c 48,c 49,c 50,c 51,c 52,c 53,c 54,c 55,c 56,c 57,c 58,c 59,c 60,c 61,c 62,c 63,c 64,c 65,c 66,c 67,c 68,c 69,c 70,c 71,c 72,c 73,c 74,c 75,c 76,c 77,c 78,c 79,c 80,c 81,c 82,c 83,c 84,c 85,c 86,c 87,c 88,c 89,c 90,c 91,c 92,c 93,c 94,c 95,c 96,c 97,c 98,c 99,c 100,c 101,c 102,c 103,c 104,c 105,c 106,c 107,c 108,c 109,c 110,c 111,c 112,c 113,c 114,c 115,c 116,c 117,c 118,c 119,c 120,c 121,c 122,c 123,c 124,c 125,c 126,c 127,c 128,c 129,c 130,c 131,c 132,c 133,c 134,c 135,c 136,c 137,c 138,c 139,c 140,c 141,c 142]
set_option maxRecDepth 100000 in
theorem VF (c:Nat→Value):dK c=((List.range 143).map c).toArray:=by rfl
theorem dS {a:Act}(hs:a.tmps.size=143)(hd:a.defers=[]):∃ c:Nat→Value,a=⟨dK c,[]⟩∧∀ s,c s=a.eval (.tmp s):=by
 refine ⟨fun s=>a.tmps.getD s undef,?_,fun s=>rfl⟩
 obtain ⟨t,d⟩:=a
 simp only at hs hd
 subst hd
 congr 1
 rw [VF]
 refine Array.ext (by simp [hs]) fun i h1 h2=>?_
 simp [Array.getD,h1]
section
variable {a:Act}{v:World}{Q:Exit→Act→World→Prop}{n m i:Int}{oa:Option Addr}{len cap:Nat}{px py ea eb sa sb u:Value}
set_option maxHeartbeats 1600000 in
theorem VG (hs:a.tmps.size=143)(hd:a.defers=[])(x0:a.eval (.tmp 0)=.int .i64 n)(x1:a.eval (.tmp 1)=.int .i64 m)(x2:a.eval (.tmp 2)=.slice oa len cap) 
  (hK:∀ a',a'.tmps.size=143→a'.defers=[]→a'.eval (.tmp 0)=.int .i64 n→a'.eval (.tmp 1)=.int .i64 m→a'.eval (.tmp 2)=.slice oa len cap→a'.eval (.tmp 22)=.bool (decide (300 < (len:Int)))→Q .normal a' (v)):(Code.region 3 (aL 3 Try.f3.body) false).wp Try.prog Q a v:=by
 obtain ⟨cc,rfl,hce⟩:=dS hs hd
 conv=>arg 2;whnf
 simp only [dK,(hce 0).trans x0,(hce 1).trans x1,(hce 2).trans x2]
 clear hce hs hd x0 x1 x2
 have HK:Hid _:=hK
 clear hK
 go_wp2
 exact HK.out _ rfl rfl rfl rfl rfl rfl
set_option maxHeartbeats 1600000 in
theorem IV {k:Nat}(hs:a.tmps.size=143)(hd:a.defers=[])(x0:a.eval (.tmp 0)=.int .i64 (k:Nat))(x1:a.eval (.tmp 1)=.int .i64 m)(x2:a.eval (.tmp 2)=.slice oa len cap)(h1:1≤k)(h2:k≤256)
  (hK:∀ a',a'.tmps.size=143→a'.defers=[]→a'.eval (.tmp 0)=.int .i64 (k:Nat)→a'.eval (.tmp 1)=.int .i64 m→a'.eval (.tmp 2)=.slice oa len cap→a'.eval (.tmp 7)=.pointer (some ⟨v.heap.size+1,0,none⟩)→a'.eval (.tmp 8)=.int .i64 0→Q .normal a' ((v.alloc (.cells (madeCells #[.int .i64 0] k) 62 (0,0))).alloc (.cells #[.slice (some ⟨v.heap.size,0,none⟩) k k] 53 (0,0)))):(Code.region 5 (aL 5 Try.f3.body) false).wp Try.prog Q a v:=by
 obtain ⟨cc,rfl,hce⟩:=dS hs hd
 conv=>arg 2;whnf
 simp only [dK,(hce 0).trans x0,(hce 1).trans x1,(hce 2).trans x2]
 clear hce hs hd x0 x1 x2
 have HK:Hid _:=hK
 clear hK
 have HN:=fun y:World=>IP (w:=y) h1 h2
 go_wp2_with (go_at_call 5;refine (HN _).mono ?_;rintro e x1 ⟨rfl,rfl⟩)
 exact HK.out _ rfl rfl rfl rfl rfl rfl rfl
set_option maxHeartbeats 1600000 in
theorem VH (hs:a.tmps.size=143)(hd:a.defers=[])(x0:a.eval (.tmp 0)=.int .i64 n)(x1:a.eval (.tmp 1)=.int .i64 m)(x2:a.eval (.tmp 2)=.slice oa len cap)(h:n < 1∨256 < n)
  (hK:∀ a',a'.tmps.size=143→a'.defers=[]→a'.eval (.tmp 0)=.int .i64 n→a'.eval (.tmp 1)=.int .i64 m→a'.eval (.tmp 2)=.slice oa len cap→a'.eval (.tmp 7)=.pointer none→a'.eval (.tmp 8)=.int .i64 42→Q .normal a' (v)):(Code.region 5 (aL 5 Try.f3.body) false).wp Try.prog Q a v:=by
 obtain ⟨cc,rfl,hce⟩:=dS hs hd
 conv=>arg 2;whnf
 simp only [dK,(hce 0).trans x0,(hce 1).trans x1,(hce 2).trans x2]
 clear hce hs hd x0 x1 x2
 have HK:Hid _:=hK
 clear hK
 have HN:=fun y:World=>IM (w:=y) h
 go_wp2_with (go_at_call 5;refine (HN _).mono ?_;rintro e x1 ⟨rfl,rfl⟩)
 exact HK.out _ rfl rfl rfl rfl rfl rfl rfl
set_option maxHeartbeats 1600000 in
theorem IW {k:Nat}(hs:a.tmps.size=143)(hd:a.defers=[])(x0:a.eval (.tmp 0)=.int .i64 n)(x1:a.eval (.tmp 1)=.int .i64 (k:Nat))(x2:a.eval (.tmp 2)=.slice oa len cap)(x7:a.eval (.tmp 7)=px)(x8:a.eval (.tmp 8)=ea)(h1:1≤k)(h2:k≤256)
  (hK:∀ a',a'.tmps.size=143→a'.defers=[]→a'.eval (.tmp 0)=.int .i64 n→a'.eval (.tmp 1)=.int .i64 (k:Nat)→a'.eval (.tmp 2)=.slice oa len cap→a'.eval (.tmp 7)=px→a'.eval (.tmp 8)=ea→a'.eval (.tmp 9)=.pointer (some ⟨v.heap.size+1,0,none⟩)→a'.eval (.tmp 10)=.int .i64 0→Q .normal a' ((v.alloc (.cells (madeCells #[.int .i64 0] k) 62 (0,0))).alloc (.cells #[.slice (some ⟨v.heap.size,0,none⟩) k k] 53 (0,0)))):(Code.region 6 (aL 6 Try.f3.body) false).wp Try.prog Q a v:=by
 obtain ⟨cc,rfl,hce⟩:=dS hs hd
 conv=>arg 2;whnf
 simp only [dK,(hce 0).trans x0,(hce 1).trans x1,(hce 2).trans x2,(hce 7).trans x7,(hce 8).trans x8]
 clear hce hs hd x0 x1 x2 x7 x8
 have HK:Hid _:=hK
 clear hK
 have HN:=fun y:World=>IP (w:=y) h1 h2
 go_wp2_with (go_at_call 5;refine (HN _).mono ?_;rintro e x1 ⟨rfl,rfl⟩)
 exact HK.out _ rfl rfl rfl rfl rfl rfl rfl rfl rfl
set_option maxHeartbeats 1600000 in
theorem VJ (hs:a.tmps.size=143)(hd:a.defers=[])(x0:a.eval (.tmp 0)=.int .i64 n)(x1:a.eval (.tmp 1)=.int .i64 m)(x2:a.eval (.tmp 2)=.slice oa len cap)(x7:a.eval (.tmp 7)=px)(x8:a.eval (.tmp 8)=ea)(h:m < 1∨256 < m)
  (hK:∀ a',a'.tmps.size=143→a'.defers=[]→a'.eval (.tmp 0)=.int .i64 n→a'.eval (.tmp 1)=.int .i64 m→a'.eval (.tmp 2)=.slice oa len cap→a'.eval (.tmp 7)=px→a'.eval (.tmp 8)=ea→a'.eval (.tmp 9)=.pointer none→a'.eval (.tmp 10)=.int .i64 42→Q .normal a' (v)):(Code.region 6 (aL 6 Try.f3.body) false).wp Try.prog Q a v:=by
 obtain ⟨cc,rfl,hce⟩:=dS hs hd
 conv=>arg 2;whnf
 simp only [dK,(hce 0).trans x0,(hce 1).trans x1,(hce 2).trans x2,(hce 7).trans x7,(hce 8).trans x8]
 clear hce hs hd x0 x1 x2 x7 x8
 have HK:Hid _:=hK
 clear hK
 have HN:=fun y:World=>IM (w:=y) h
 go_wp2_with (go_at_call 5;refine (HN _).mono ?_;rintro e x1 ⟨rfl,rfl⟩)
 exact HK.out _ rfl rfl rfl rfl rfl rfl rfl rfl rfl
set_option maxHeartbeats 1600000 in
theorem VK (hs:a.tmps.size=143)(hd:a.defers=[])(x0:a.eval (.tmp 0)=.int .i64 n)(x1:a.eval (.tmp 1)=.int .i64 m)(x2:a.eval (.tmp 2)=.slice oa len cap)(x7:a.eval (.tmp 7)=px)(x9:a.eval (.tmp 9)=py)(x8:a.eval (.tmp 8)=.int .i64 0)(cr:a.eval (.tmp 10)=.int .i64 0)  (hn1:1≤n)(hn2:n≤256)(hm1:1≤m)(hm2:m≤256)
  (hK:∀ a',a'.tmps.size=143→a'.defers=[]→a'.eval (.tmp 0)=.int .i64 n→a'.eval (.tmp 1)=.int .i64 m→a'.eval (.tmp 2)=.slice oa len cap→a'.eval (.tmp 7)=px→a'.eval (.tmp 9)=py→a'.eval (.tmp 8)=.int .i64 0→a'.eval (.tmp 10)=.int .i64 0→a'.eval (.tmp 74)=.bool false→Q .normal a' (v)):(Code.region 7 (aL 7 Try.f3.body) false).wp Try.prog Q a v:=by
 obtain ⟨cc,rfl,hce⟩:=dS hs hd
 conv=>arg 2;whnf
 simp only [dK,(hce 0).trans x0,(hce 1).trans x1,(hce 2).trans x2,(hce 7).trans x7,(hce 9).trans x9,(hce 8).trans x8,(hce 10).trans cr]
 clear hce hs hd x0 x1 x2 x7 x9 x8 cr
 have HK:Hid _:=hK
 clear hK
 have HN:=bQ
 have pU:decide (1≤n)=true:=decide_eq_true hn1
 have wE:decide (n≤256)=true:=decide_eq_true hn2
 have pV:decide (1≤m)=true:=decide_eq_true hm1
 have wF:decide (m≤256)=true:=decide_eq_true hm2
 go_wp2_with (go_at_call 6;refine (HN _ _).mono ?_;rintro e x1 ⟨rfl,rfl⟩)
 exact HK.out _ rfl rfl rfl rfl rfl rfl rfl rfl rfl rfl
set_option maxHeartbeats 1600000 in
theorem VM (hs:a.tmps.size=143)(hd:a.defers=[])(x0:a.eval (.tmp 0)=.int .i64 n)(x1:a.eval (.tmp 1)=.int .i64 m)(x2:a.eval (.tmp 2)=.slice oa len cap)(x7:a.eval (.tmp 7)=px)(x9:a.eval (.tmp 9)=py)(x8:a.eval (.tmp 8)=.int .i64 0)(cr:a.eval (.tmp 10)=.int .i64 42)  (hn1:1≤n)(hn2:n≤256)(hm:m < 1)
  (hK:∀ a',a'.tmps.size=143→a'.defers=[]→a'.eval (.tmp 0)=.int .i64 n→a'.eval (.tmp 1)=.int .i64 m→a'.eval (.tmp 2)=.slice oa len cap→a'.eval (.tmp 7)=px→a'.eval (.tmp 9)=py→a'.eval (.tmp 8)=.int .i64 0→a'.eval (.tmp 10)=.int .i64 42→a'.eval (.tmp 74)=.bool false→Q .normal a' (v)):(Code.region 7 (aL 7 Try.f3.body) false).wp Try.prog Q a v:=by
 obtain ⟨cc,rfl,hce⟩:=dS hs hd
 conv=>arg 2;whnf
 simp only [dK,(hce 0).trans x0,(hce 1).trans x1,(hce 2).trans x2,(hce 7).trans x7,(hce 9).trans x9,(hce 8).trans x8,(hce 10).trans cr]
 clear hce hs hd x0 x1 x2 x7 x9 x8 cr
 have HK:Hid _:=hK
 clear hK
 have HN:=bQ
 have pU:decide (1≤n)=true:=decide_eq_true hn1
 have wE:decide (n≤256)=true:=decide_eq_true hn2
 have pV:decide (1≤m)=false:=decide_eq_false ag
 go_wp2_with (go_at_call 6;refine (HN _ _).mono ?_;rintro e x1 ⟨rfl,rfl⟩)
 exact HK.out _ rfl rfl rfl rfl rfl rfl rfl rfl rfl rfl
set_option maxHeartbeats 1600000 in
theorem VN (hs:a.tmps.size=143)(hd:a.defers=[])(x0:a.eval (.tmp 0)=.int .i64 n)(x1:a.eval (.tmp 1)=.int .i64 m)(x2:a.eval (.tmp 2)=.slice oa len cap)(x7:a.eval (.tmp 7)=px)(x9:a.eval (.tmp 9)=py)(x8:a.eval (.tmp 8)=.int .i64 0)(cr:a.eval (.tmp 10)=.int .i64 42)  (hn1:1≤n)(hn2:n≤256)(hm0:1≤m)(hm:256 < m)
  (hK:∀ a',a'.tmps.size=143→a'.defers=[]→a'.eval (.tmp 0)=.int .i64 n→a'.eval (.tmp 1)=.int .i64 m→a'.eval (.tmp 2)=.slice oa len cap→a'.eval (.tmp 7)=px→a'.eval (.tmp 9)=py→a'.eval (.tmp 8)=.int .i64 0→a'.eval (.tmp 10)=.int .i64 42→a'.eval (.tmp 74)=.bool false→Q .normal a' (v)):(Code.region 7 (aL 7 Try.f3.body) false).wp Try.prog Q a v:=by
 obtain ⟨cc,rfl,hce⟩:=dS hs hd
 conv=>arg 2;whnf
 simp only [dK,(hce 0).trans x0,(hce 1).trans x1,(hce 2).trans x2,(hce 7).trans x7,(hce 9).trans x9,(hce 8).trans x8,(hce 10).trans cr]
 clear hce hs hd x0 x1 x2 x7 x9 x8 cr
 have HK:Hid _:=hK
 clear hK
 have HN:=bQ
 have pU:decide (1≤n)=true:=decide_eq_true hn1
 have wE:decide (n≤256)=true:=decide_eq_true hn2
 have pV:decide (1≤m)=true:=decide_eq_true hm0
 have wF:decide (m≤256)=false:=decide_eq_false ag
 go_wp2_with (go_at_call 6;refine (HN _ _).mono ?_;rintro e x1 ⟨rfl,rfl⟩)
 exact HK.out _ rfl rfl rfl rfl rfl rfl rfl rfl rfl rfl
set_option maxHeartbeats 1600000 in
theorem VO (hs:a.tmps.size=143)(hd:a.defers=[])(x0:a.eval (.tmp 0)=.int .i64 n)(x1:a.eval (.tmp 1)=.int .i64 m)(x2:a.eval (.tmp 2)=.slice oa len cap)(x7:a.eval (.tmp 7)=px)(x9:a.eval (.tmp 9)=py)(x8:a.eval (.tmp 8)=.int .i64 42)(cr:a.eval (.tmp 10)=.int .i64 0)  (hn:n < 1)(hm1:1≤m)(hm2:m≤256)
  (hK:∀ a',a'.tmps.size=143→a'.defers=[]→a'.eval (.tmp 0)=.int .i64 n→a'.eval (.tmp 1)=.int .i64 m→a'.eval (.tmp 2)=.slice oa len cap→a'.eval (.tmp 7)=px→a'.eval (.tmp 9)=py→a'.eval (.tmp 8)=.int .i64 42→a'.eval (.tmp 10)=.int .i64 0→a'.eval (.tmp 74)=.bool false→Q .normal a' (v)):(Code.region 7 (aL 7 Try.f3.body) false).wp Try.prog Q a v:=by
 obtain ⟨cc,rfl,hce⟩:=dS hs hd
 conv=>arg 2;whnf
 simp only [dK,(hce 0).trans x0,(hce 1).trans x1,(hce 2).trans x2,(hce 7).trans x7,(hce 9).trans x9,(hce 8).trans x8,(hce 10).trans cr]
 clear hce hs hd x0 x1 x2 x7 x9 x8 cr
 have HK:Hid _:=hK
 clear hK
 have HN:=bQ
 have pU:decide (1≤n)=false:=decide_eq_false ag
 have pV:decide (1≤m)=true:=decide_eq_true hm1
 have wF:decide (m≤256)=true:=decide_eq_true hm2
 go_wp2_with (go_at_call 6;refine (HN _ _).mono ?_;rintro e x1 ⟨rfl,rfl⟩)
 exact HK.out _ rfl rfl rfl rfl rfl rfl rfl rfl rfl rfl
set_option maxHeartbeats 1600000 in
theorem VP (hs:a.tmps.size=143)(hd:a.defers=[])(x0:a.eval (.tmp 0)=.int .i64 n)(x1:a.eval (.tmp 1)=.int .i64 m)(x2:a.eval (.tmp 2)=.slice oa len cap)(x7:a.eval (.tmp 7)=px)(x9:a.eval (.tmp 9)=py)(x8:a.eval (.tmp 8)=.int .i64 42)(cr:a.eval (.tmp 10)=.int .i64 0)  (hn0:1≤n)(hn:256 < n)(hm1:1≤m)(hm2:m≤256)
  (hK:∀ a',a'.tmps.size=143→a'.defers=[]→a'.eval (.tmp 0)=.int .i64 n→a'.eval (.tmp 1)=.int .i64 m→a'.eval (.tmp 2)=.slice oa len cap→a'.eval (.tmp 7)=px→a'.eval (.tmp 9)=py→a'.eval (.tmp 8)=.int .i64 42→a'.eval (.tmp 10)=.int .i64 0→a'.eval (.tmp 74)=.bool false→Q .normal a' (v)):(Code.region 7 (aL 7 Try.f3.body) false).wp Try.prog Q a v:=by
 obtain ⟨cc,rfl,hce⟩:=dS hs hd
 conv=>arg 2;whnf
 simp only [dK,(hce 0).trans x0,(hce 1).trans x1,(hce 2).trans x2,(hce 7).trans x7,(hce 9).trans x9,(hce 8).trans x8,(hce 10).trans cr]
 clear hce hs hd x0 x1 x2 x7 x9 x8 cr
 have HK:Hid _:=hK
 clear hK
 have HN:=bQ
 have pU:decide (1≤n)=true:=decide_eq_true hn0
 have wE:decide (n≤256)=false:=decide_eq_false ag
 have pV:decide (1≤m)=true:=decide_eq_true hm1
 have wF:decide (m≤256)=true:=decide_eq_true hm2
 go_wp2_with (go_at_call 6;refine (HN _ _).mono ?_;rintro e x1 ⟨rfl,rfl⟩)
 exact HK.out _ rfl rfl rfl rfl rfl rfl rfl rfl rfl rfl
set_option maxHeartbeats 1600000 in
theorem VQ (hs:a.tmps.size=143)(hd:a.defers=[])(x0:a.eval (.tmp 0)=.int .i64 n)(x1:a.eval (.tmp 1)=.int .i64 m)(x2:a.eval (.tmp 2)=.slice oa len cap)(x7:a.eval (.tmp 7)=px)(x9:a.eval (.tmp 9)=py)(x8:a.eval (.tmp 8)=.int .i64 42)(cr:a.eval (.tmp 10)=.int .i64 42)  (hn:n < 1)(hm:m < 1)
  (hK:∀ a',a'.tmps.size=143→a'.defers=[]→a'.eval (.tmp 0)=.int .i64 n→a'.eval (.tmp 1)=.int .i64 m→a'.eval (.tmp 2)=.slice oa len cap→a'.eval (.tmp 7)=px→a'.eval (.tmp 9)=py→a'.eval (.tmp 8)=.int .i64 42→a'.eval (.tmp 10)=.int .i64 42→a'.eval (.tmp 74)=.bool false→Q .normal a' (v)):(Code.region 7 (aL 7 Try.f3.body) false).wp Try.prog Q a v:=by
 obtain ⟨cc,rfl,hce⟩:=dS hs hd
 conv=>arg 2;whnf
 simp only [dK,(hce 0).trans x0,(hce 1).trans x1,(hce 2).trans x2,(hce 7).trans x7,(hce 9).trans x9,(hce 8).trans x8,(hce 10).trans cr]
 clear hce hs hd x0 x1 x2 x7 x9 x8 cr
 have HK:Hid _:=hK
 clear hK
 have HN:=bQ
 have pU:decide (1≤n)=false:=decide_eq_false ag
 have pV:decide (1≤m)=false:=decide_eq_false ag
 go_wp2_with (go_at_call 6;refine (HN _ _).mono ?_;rintro e x1 ⟨rfl,rfl⟩)
 exact HK.out _ rfl rfl rfl rfl rfl rfl rfl rfl rfl rfl
set_option maxHeartbeats 1600000 in
theorem VS (hs:a.tmps.size=143)(hd:a.defers=[])(x0:a.eval (.tmp 0)=.int .i64 n)(x1:a.eval (.tmp 1)=.int .i64 m)(x2:a.eval (.tmp 2)=.slice oa len cap)(x7:a.eval (.tmp 7)=px)(x9:a.eval (.tmp 9)=py)(x8:a.eval (.tmp 8)=.int .i64 42)(cr:a.eval (.tmp 10)=.int .i64 42)  (hn:n < 1)(hm0:1≤m)(hm:256 < m)
  (hK:∀ a',a'.tmps.size=143→a'.defers=[]→a'.eval (.tmp 0)=.int .i64 n→a'.eval (.tmp 1)=.int .i64 m→a'.eval (.tmp 2)=.slice oa len cap→a'.eval (.tmp 7)=px→a'.eval (.tmp 9)=py→a'.eval (.tmp 8)=.int .i64 42→a'.eval (.tmp 10)=.int .i64 42→a'.eval (.tmp 74)=.bool false→Q .normal a' (v)):(Code.region 7 (aL 7 Try.f3.body) false).wp Try.prog Q a v:=by
 obtain ⟨cc,rfl,hce⟩:=dS hs hd
 conv=>arg 2;whnf
 simp only [dK,(hce 0).trans x0,(hce 1).trans x1,(hce 2).trans x2,(hce 7).trans x7,(hce 9).trans x9,(hce 8).trans x8,(hce 10).trans cr]
 clear hce hs hd x0 x1 x2 x7 x9 x8 cr
 have HK:Hid _:=hK
 clear hK
 have HN:=bQ
 have pU:decide (1≤n)=false:=decide_eq_false ag
 have pV:decide (1≤m)=true:=decide_eq_true hm0
 have wF:decide (m≤256)=false:=decide_eq_false ag
 go_wp2_with (go_at_call 6;refine (HN _ _).mono ?_;rintro e x1 ⟨rfl,rfl⟩)
 exact HK.out _ rfl rfl rfl rfl rfl rfl rfl rfl rfl rfl
set_option maxHeartbeats 1600000 in
theorem VT (hs:a.tmps.size=143)(hd:a.defers=[])(x0:a.eval (.tmp 0)=.int .i64 n)(x1:a.eval (.tmp 1)=.int .i64 m)(x2:a.eval (.tmp 2)=.slice oa len cap)(x7:a.eval (.tmp 7)=px)(x9:a.eval (.tmp 9)=py)(x8:a.eval (.tmp 8)=.int .i64 42)(cr:a.eval (.tmp 10)=.int .i64 42)  (hn0:1≤n)(hn:256 < n)(hm:m < 1)
  (hK:∀ a',a'.tmps.size=143→a'.defers=[]→a'.eval (.tmp 0)=.int .i64 n→a'.eval (.tmp 1)=.int .i64 m→a'.eval (.tmp 2)=.slice oa len cap→a'.eval (.tmp 7)=px→a'.eval (.tmp 9)=py→a'.eval (.tmp 8)=.int .i64 42→a'.eval (.tmp 10)=.int .i64 42→a'.eval (.tmp 74)=.bool false→Q .normal a' (v)):(Code.region 7 (aL 7 Try.f3.body) false).wp Try.prog Q a v:=by
 obtain ⟨cc,rfl,hce⟩:=dS hs hd
 conv=>arg 2;whnf
 simp only [dK,(hce 0).trans x0,(hce 1).trans x1,(hce 2).trans x2,(hce 7).trans x7,(hce 9).trans x9,(hce 8).trans x8,(hce 10).trans cr]
 clear hce hs hd x0 x1 x2 x7 x9 x8 cr
 have HK:Hid _:=hK
 clear hK
 have HN:=bQ
 have pU:decide (1≤n)=true:=decide_eq_true hn0
 have wE:decide (n≤256)=false:=decide_eq_false ag
 have pV:decide (1≤m)=false:=decide_eq_false ag
 go_wp2_with (go_at_call 6;refine (HN _ _).mono ?_;rintro e x1 ⟨rfl,rfl⟩)
 exact HK.out _ rfl rfl rfl rfl rfl rfl rfl rfl rfl rfl
set_option maxHeartbeats 1600000 in
theorem VU (hs:a.tmps.size=143)(hd:a.defers=[])(x0:a.eval (.tmp 0)=.int .i64 n)(x1:a.eval (.tmp 1)=.int .i64 m)(x2:a.eval (.tmp 2)=.slice oa len cap)(x7:a.eval (.tmp 7)=px)(x9:a.eval (.tmp 9)=py)(x8:a.eval (.tmp 8)=.int .i64 42)(cr:a.eval (.tmp 10)=.int .i64 42)  (hn0:1≤n)(hn:256 < n)(hm0:1≤m)(hm:256 < m)
  (hK:∀ a',a'.tmps.size=143→a'.defers=[]→a'.eval (.tmp 0)=.int .i64 n→a'.eval (.tmp 1)=.int .i64 m→a'.eval (.tmp 2)=.slice oa len cap→a'.eval (.tmp 7)=px→a'.eval (.tmp 9)=py→a'.eval (.tmp 8)=.int .i64 42→a'.eval (.tmp 10)=.int .i64 42→a'.eval (.tmp 74)=.bool false→Q .normal a' (v)):(Code.region 7 (aL 7 Try.f3.body) false).wp Try.prog Q a v:=by
 obtain ⟨cc,rfl,hce⟩:=dS hs hd
 conv=>arg 2;whnf
 simp only [dK,(hce 0).trans x0,(hce 1).trans x1,(hce 2).trans x2,(hce 7).trans x7,(hce 9).trans x9,(hce 8).trans x8,(hce 10).trans cr]
 clear hce hs hd x0 x1 x2 x7 x9 x8 cr
 have HK:Hid _:=hK
 clear hK
 have HN:=bQ
 have pU:decide (1≤n)=true:=decide_eq_true hn0
 have wE:decide (n≤256)=false:=decide_eq_false ag
 have pV:decide (1≤m)=true:=decide_eq_true hm0
 have wF:decide (m≤256)=false:=decide_eq_false ag
 go_wp2_with (go_at_call 6;refine (HN _ _).mono ?_;rintro e x1 ⟨rfl,rfl⟩)
 exact HK.out _ rfl rfl rfl rfl rfl rfl rfl rfl rfl rfl
set_option maxHeartbeats 1600000 in
theorem VV (hs:a.tmps.size=143)(hd:a.defers=[])(x0:a.eval (.tmp 0)=.int .i64 n)(x1:a.eval (.tmp 1)=.int .i64 m)(x2:a.eval (.tmp 2)=.slice oa len cap)(x7:a.eval (.tmp 7)=px)(x9:a.eval (.tmp 9)=py)(x8:a.eval (.tmp 8)=.int .i64 0)(cr:a.eval (.tmp 10)=.int .i64 0) 
  (hK:∀ a',a'.tmps.size=143→a'.defers=[]→a'.eval (.tmp 0)=.int .i64 n→a'.eval (.tmp 1)=.int .i64 m→a'.eval (.tmp 2)=.slice oa len cap→a'.eval (.tmp 7)=px→a'.eval (.tmp 9)=py→a'.eval (.tmp 82)=.bool false→Q .normal a' (v)):(Code.region 9 (aL 9 Try.f3.body) false).wp Try.prog Q a v:=by
 obtain ⟨cc,rfl,hce⟩:=dS hs hd
 conv=>arg 2;whnf
 simp only [dK,(hce 0).trans x0,(hce 1).trans x1,(hce 2).trans x2,(hce 7).trans x7,(hce 9).trans x9,(hce 8).trans x8,(hce 10).trans cr]
 clear hce hs hd x0 x1 x2 x7 x9 x8 cr
 have HK:Hid _:=hK
 clear hK
 have HN:=bQ
 go_wp2_with (go_at_call 6;refine (HN _ _).mono ?_;rintro e x1 ⟨rfl,rfl⟩)
 exact HK.out _ rfl rfl rfl rfl rfl rfl rfl rfl
set_option maxHeartbeats 1600000 in
theorem VW (hs:a.tmps.size=143)(hd:a.defers=[])(x0:a.eval (.tmp 0)=.int .i64 n)(x1:a.eval (.tmp 1)=.int .i64 m)(x2:a.eval (.tmp 2)=.slice oa len cap)(x7:a.eval (.tmp 7)=px)(x9:a.eval (.tmp 9)=py)(x8:a.eval (.tmp 8)=.int .i64 0)(cr:a.eval (.tmp 10)=.int .i64 42) 
  (hK:∀ a',a'.tmps.size=143→a'.defers=[]→a'.eval (.tmp 0)=.int .i64 n→a'.eval (.tmp 1)=.int .i64 m→a'.eval (.tmp 2)=.slice oa len cap→a'.eval (.tmp 7)=px→a'.eval (.tmp 9)=py→a'.eval (.tmp 82)=.bool true→Q .normal a' (v)):(Code.region 9 (aL 9 Try.f3.body) false).wp Try.prog Q a v:=by
 obtain ⟨cc,rfl,hce⟩:=dS hs hd
 conv=>arg 2;whnf
 simp only [dK,(hce 0).trans x0,(hce 1).trans x1,(hce 2).trans x2,(hce 7).trans x7,(hce 9).trans x9,(hce 8).trans x8,(hce 10).trans cr]
 clear hce hs hd x0 x1 x2 x7 x9 x8 cr
 have HK:Hid _:=hK
 clear hK
 have HN:=bQ
 go_wp2_with (go_at_call 6;refine (HN _ _).mono ?_;rintro e x1 ⟨rfl,rfl⟩)
 exact HK.out _ rfl rfl rfl rfl rfl rfl rfl rfl
set_option maxHeartbeats 1600000 in
theorem VX (hs:a.tmps.size=143)(hd:a.defers=[])(x0:a.eval (.tmp 0)=.int .i64 n)(x1:a.eval (.tmp 1)=.int .i64 m)(x2:a.eval (.tmp 2)=.slice oa len cap)(x7:a.eval (.tmp 7)=px)(x9:a.eval (.tmp 9)=py)(x8:a.eval (.tmp 8)=.int .i64 42)(cr:a.eval (.tmp 10)=.int .i64 0) 
  (hK:∀ a',a'.tmps.size=143→a'.defers=[]→a'.eval (.tmp 0)=.int .i64 n→a'.eval (.tmp 1)=.int .i64 m→a'.eval (.tmp 2)=.slice oa len cap→a'.eval (.tmp 7)=px→a'.eval (.tmp 9)=py→a'.eval (.tmp 82)=.bool true→Q .normal a' (v)):(Code.region 9 (aL 9 Try.f3.body) false).wp Try.prog Q a v:=by
 obtain ⟨cc,rfl,hce⟩:=dS hs hd
 conv=>arg 2;whnf
 simp only [dK,(hce 0).trans x0,(hce 1).trans x1,(hce 2).trans x2,(hce 7).trans x7,(hce 9).trans x9,(hce 8).trans x8,(hce 10).trans cr]
 clear hce hs hd x0 x1 x2 x7 x9 x8 cr
 have HK:Hid _:=hK
 clear hK
 have HN:=bQ
 go_wp2_with (go_at_call 6;refine (HN _ _).mono ?_;rintro e x1 ⟨rfl,rfl⟩)
 exact HK.out _ rfl rfl rfl rfl rfl rfl rfl rfl
set_option maxHeartbeats 1600000 in
theorem VY (hs:a.tmps.size=143)(hd:a.defers=[])(x0:a.eval (.tmp 0)=.int .i64 n)(x1:a.eval (.tmp 1)=.int .i64 m)(x2:a.eval (.tmp 2)=.slice oa len cap)(x7:a.eval (.tmp 7)=px)(x9:a.eval (.tmp 9)=py)(x8:a.eval (.tmp 8)=.int .i64 42)(cr:a.eval (.tmp 10)=.int .i64 42) 
  (hK:∀ a',a'.tmps.size=143→a'.defers=[]→a'.eval (.tmp 0)=.int .i64 n→a'.eval (.tmp 1)=.int .i64 m→a'.eval (.tmp 2)=.slice oa len cap→a'.eval (.tmp 7)=px→a'.eval (.tmp 9)=py→a'.eval (.tmp 82)=.bool true→Q .normal a' (v)):(Code.region 9 (aL 9 Try.f3.body) false).wp Try.prog Q a v:=by
 obtain ⟨cc,rfl,hce⟩:=dS hs hd
 conv=>arg 2;whnf
 simp only [dK,(hce 0).trans x0,(hce 1).trans x1,(hce 2).trans x2,(hce 7).trans x7,(hce 9).trans x9,(hce 8).trans x8,(hce 10).trans cr]
 clear hce hs hd x0 x1 x2 x7 x9 x8 cr
 have HK:Hid _:=hK
 clear hK
 have HN:=bQ
 go_wp2_with (go_at_call 6;refine (HN _ _).mono ?_;rintro e x1 ⟨rfl,rfl⟩)
 exact HK.out _ rfl rfl rfl rfl rfl rfl rfl rfl
set_option maxHeartbeats 1600000 in
theorem VZ (hs:a.tmps.size=143)(hd:a.defers=[])(x0:a.eval (.tmp 0)=.int .i64 n)(x1:a.eval (.tmp 1)=.int .i64 m)(x2:a.eval (.tmp 2)=.slice oa len cap)(x7:a.eval (.tmp 7)=px)(x9:a.eval (.tmp 9)=py)(cO:a.eval (.tmp 11)=sa)(cZ:a.eval (.tmp 12)=sb) 
  (hK:∀ a',a'.tmps.size=143→a'.defers=[]→a'.eval (.tmp 0)=.int .i64 n→a'.eval (.tmp 1)=.int .i64 m→a'.eval (.tmp 2)=.slice oa len cap→a'.eval (.tmp 7)=px→a'.eval (.tmp 9)=py→a'.eval (.tmp 11)=sa→a'.eval (.tmp 12)=sb→a'.eval (.tmp 13)=.int .i64 0→Q .normal a' (v)):(Code.region 12 (aL 12 Try.f3.body) false).wp Try.prog Q a v:=by
 obtain ⟨cc,rfl,hce⟩:=dS hs hd
 conv=>arg 2;whnf
 simp only [dK,(hce 0).trans x0,(hce 1).trans x1,(hce 2).trans x2,(hce 7).trans x7,(hce 9).trans x9,(hce 11).trans cO,(hce 12).trans cZ]
 clear hce hs hd x0 x1 x2 x7 x9 cO cZ
 have HK:Hid _:=hK
 clear hK
 go_wp2
 exact HK.out _ rfl rfl rfl rfl rfl rfl rfl rfl rfl rfl
set_option maxHeartbeats 1600000 in
theorem V3 (hs:a.tmps.size=143)(hd:a.defers=[])(x0:a.eval (.tmp 0)=.int .i64 n)(x1:a.eval (.tmp 1)=.int .i64 m)(x2:a.eval (.tmp 2)=.slice oa len cap)(x7:a.eval (.tmp 7)=px)(x9:a.eval (.tmp 9)=py)(cO:a.eval (.tmp 11)=sa)(cZ:a.eval (.tmp 12)=sb)(jF:a.eval (.tmp 13)=.int .i64 (i:Int)) 
  (hK:∀ a',a'.tmps.size=143→a'.defers=[]→a'.eval (.tmp 0)=.int .i64 n→a'.eval (.tmp 1)=.int .i64 m→a'.eval (.tmp 2)=.slice oa len cap→a'.eval (.tmp 7)=px→a'.eval (.tmp 9)=py→a'.eval (.tmp 11)=sa→a'.eval (.tmp 12)=sb→a'.eval (.tmp 13)=.int .i64 (i:Int)→a'.eval (.tmp 90)=.bool (decide (i < (len:Int)))→Q .normal a' (v)):(Code.region 13 (aL 13 Try.f3.body) false).wp Try.prog Q a v:=by
 obtain ⟨cc,rfl,hce⟩:=dS hs hd
 conv=>arg 2;whnf
 simp only [dK,(hce 0).trans x0,(hce 1).trans x1,(hce 2).trans x2,(hce 7).trans x7,(hce 9).trans x9,(hce 11).trans cO,(hce 12).trans cZ,(hce 13).trans jF]
 clear hce hs hd x0 x1 x2 x7 x9 cO cZ jF
 have HK:Hid _:=hK
 clear hK
 go_wp2
 exact HK.out _ rfl rfl rfl rfl rfl rfl rfl rfl rfl rfl rfl
set_option maxHeartbeats 1600000 in
theorem V4 (hs:a.tmps.size=143)(hd:a.defers=[])(x0:a.eval (.tmp 0)=.int .i64 n)(x1:a.eval (.tmp 1)=.int .i64 m)(x2:a.eval (.tmp 2)=.slice oa len cap)(x7:a.eval (.tmp 7)=px)(x9:a.eval (.tmp 9)=py)(cO:a.eval (.tmp 11)=sa)(cZ:a.eval (.tmp 12)=sb)(jF:a.eval (.tmp 13)=.int .i64 (i:Int)) 
  (hK:∀ a',a'.tmps.size=143→a'.defers=[]→a'.eval (.tmp 0)=.int .i64 n→a'.eval (.tmp 1)=.int .i64 m→a'.eval (.tmp 2)=.slice oa len cap→a'.eval (.tmp 7)=px→a'.eval (.tmp 9)=py→a'.eval (.tmp 11)=sa→a'.eval (.tmp 12)=sb→a'.eval (.tmp 13)=.int .i64 (i:Int)→a'.eval (.tmp 14)=px→a'.eval (.tmp 15)=sa→Q .normal a' (v)):(Code.region 15 (aL 15 Try.f3.body) false).wp Try.prog Q a v:=by
 obtain ⟨cc,rfl,hce⟩:=dS hs hd
 conv=>arg 2;whnf
 simp only [dK,(hce 0).trans x0,(hce 1).trans x1,(hce 2).trans x2,(hce 7).trans x7,(hce 9).trans x9,(hce 11).trans cO,(hce 12).trans cZ,(hce 13).trans jF]
 clear hce hs hd x0 x1 x2 x7 x9 cO cZ jF
 have HK:Hid _:=hK
 clear hK
 go_wp2
 exact HK.out _ rfl rfl rfl rfl rfl rfl rfl rfl rfl rfl rfl rfl
set_option maxHeartbeats 1600000 in
theorem V5 (hs:a.tmps.size=143)(hd:a.defers=[])(x0:a.eval (.tmp 0)=.int .i64 n)(x1:a.eval (.tmp 1)=.int .i64 m)(x2:a.eval (.tmp 2)=.slice oa len cap)(x7:a.eval (.tmp 7)=px)(x9:a.eval (.tmp 9)=py)(cO:a.eval (.tmp 11)=sa)(cZ:a.eval (.tmp 12)=sb)(jF:a.eval (.tmp 13)=.int .i64 (i:Int)) 
  (hK:∀ a',a'.tmps.size=143→a'.defers=[]→a'.eval (.tmp 0)=.int .i64 n→a'.eval (.tmp 1)=.int .i64 m→a'.eval (.tmp 2)=.slice oa len cap→a'.eval (.tmp 7)=px→a'.eval (.tmp 9)=py→a'.eval (.tmp 11)=sa→a'.eval (.tmp 12)=sb→a'.eval (.tmp 13)=.int .i64 (i:Int)→a'.eval (.tmp 14)=py→a'.eval (.tmp 15)=sb→Q .normal a' (v)):(Code.region 17 (aL 17 Try.f3.body) false).wp Try.prog Q a v:=by
 obtain ⟨cc,rfl,hce⟩:=dS hs hd
 conv=>arg 2;whnf
 simp only [dK,(hce 0).trans x0,(hce 1).trans x1,(hce 2).trans x2,(hce 7).trans x7,(hce 9).trans x9,(hce 11).trans cO,(hce 12).trans cZ,(hce 13).trans jF]
 clear hce hs hd x0 x1 x2 x7 x9 cO cZ jF
 have HK:Hid _:=hK
 clear hK
 go_wp2
 exact HK.out _ rfl rfl rfl rfl rfl rfl rfl rfl rfl rfl rfl rfl
set_option maxHeartbeats 1600000 in
theorem V6 (hs:a.tmps.size=143)(hd:a.defers=[])(x0:a.eval (.tmp 0)=.int .i64 n)(x1:a.eval (.tmp 1)=.int .i64 m)(x2:a.eval (.tmp 2)=.slice oa len cap)(x7:a.eval (.tmp 7)=px)(x9:a.eval (.tmp 9)=py)(cO:a.eval (.tmp 11)=sa)(cZ:a.eval (.tmp 12)=sb)(jF:a.eval (.tmp 13)=.int .i64 (i:Int))(h0:0≤i)(h1:i≤1000)
  (hK:∀ a',a'.tmps.size=143→a'.defers=[]→a'.eval (.tmp 0)=.int .i64 n→a'.eval (.tmp 1)=.int .i64 m→a'.eval (.tmp 2)=.slice oa len cap→a'.eval (.tmp 7)=px→a'.eval (.tmp 9)=py→a'.eval (.tmp 11)=sa→a'.eval (.tmp 12)=sb→a'.eval (.tmp 13)=.int .i64 (i+1)→Q .normal a' (v)):(Code.region 14 (aL 14 Try.f3.body) false).wp Try.prog Q a v:=by
 obtain ⟨cc,rfl,hce⟩:=dS hs hd
 conv=>arg 2;whnf
 simp only [dK,(hce 0).trans x0,(hce 1).trans x1,(hce 2).trans x2,(hce 7).trans x7,(hce 9).trans x9,(hce 11).trans cO,(hce 12).trans cZ,(hce 13).trans jF]
 clear hce hs hd x0 x1 x2 x7 x9 cO cZ jF
 have HK:Hid _:=hK
 clear hK
 go_wp2
 exact HK.out _ rfl rfl rfl rfl rfl rfl rfl rfl rfl rfl
set_option maxHeartbeats 1600000 in
theorem V7 (hs:a.tmps.size=143)(hd:a.defers=[])(x0:a.eval (.tmp 0)=.int .i64 n)(x1:a.eval (.tmp 1)=.int .i64 m)(x2:a.eval (.tmp 2)=.slice oa len cap) 
  (hK:∀ a',a'.tmps.size=143→a'.defers=[]→a'.eval (.tmp 0)=.int .i64 n→a'.eval (.tmp 1)=.int .i64 m→a'.eval (.tmp 2)=.slice oa len cap→a'.eval (.tmp 6)=.bool true→Q .normal a' (v)):(Code.region 4 (aL 4 Try.f3.body) false).wp Try.prog Q a v:=by
 obtain ⟨cc,rfl,hce⟩:=dS hs hd
 conv=>arg 2;whnf
 simp only [dK,(hce 0).trans x0,(hce 1).trans x1,(hce 2).trans x2]
 clear hce hs hd x0 x1 x2
 have HK:Hid _:=hK
 clear hK
 go_wp2
 exact HK.out _ rfl rfl rfl rfl rfl rfl
set_option maxHeartbeats 1600000 in
theorem V8 (hs:a.tmps.size=143)(hd:a.defers=[])(x0:a.eval (.tmp 0)=.int .i64 n)(x1:a.eval (.tmp 1)=.int .i64 m)(x2:a.eval (.tmp 2)=.slice oa len cap) 
  (hK:∀ a',a'.tmps.size=143→a'.defers=[]→a'.eval (.tmp 0)=.int .i64 n→a'.eval (.tmp 1)=.int .i64 m→a'.eval (.tmp 2)=.slice oa len cap→a'.eval (.tmp 6)=.bool true→Q .normal a' (v)):(Code.region 10 (aL 10 Try.f3.body) false).wp Try.prog Q a v:=by
 obtain ⟨cc,rfl,hce⟩:=dS hs hd
 conv=>arg 2;whnf
 simp only [dK,(hce 0).trans x0,(hce 1).trans x1,(hce 2).trans x2]
 clear hce hs hd x0 x1 x2
 have HK:Hid _:=hK
 clear hK
 go_wp2
 exact HK.out _ rfl rfl rfl rfl rfl rfl
end
section
variable {a:Act}{v:World}{Q:Exit→Act→World→Prop}{n m:Nat}{oa:Option Addr}{len cap:Nat}{px py:Value}
set_option maxHeartbeats 1600000 in
theorem V9 (hs:a.tmps.size=143)(hd:a.defers=[])(x0:a.eval (.tmp 0)=.int .i64 (n:Nat))(x1:a.eval (.tmp 1)=.int .i64 (m:Nat))(x2:a.eval (.tmp 2)=.slice oa len cap)(x7:a.eval (.tmp 7)=px)(x9:a.eval (.tmp 9)=py)(hn:n≤256)(hm:m≤256)
  (hK:∀ a' v' ab bb,a'.tmps.size=143→a'.defers=[]→a'.eval (.tmp 0)=.int .i64 (n:Nat)→a'.eval (.tmp 1)=.int .i64 (m:Nat)→a'.eval (.tmp 2)=.slice oa len cap→a'.eval (.tmp 7)=px→a'.eval (.tmp 9)=py→a'.eval (.tmp 11)=.slice (some ⟨ab,0,none⟩) n n→a'.eval (.tmp 12)=.slice (some ⟨bb,0,none⟩) m m→au [] v v'→ab≠bb→v.heap.size≤ab→v.heap.size≤bb→v'.heap[ab]?=some (.cells (madeCells #[.int .i64 0] n) 3 (0,0))→v'.heap[bb]?=some (.cells (madeCells #[.int .i64 0] m) 3 (0,0))→Q .normal a' v'):(Code.region 11 (aL 11 Try.f3.body) true).wp Try.prog Q a v:=by
 obtain ⟨cc,rfl,hce⟩:=dS hs hd
 conv=>arg 2;whnf
 simp only [dK,(hce 0).trans x0,(hce 1).trans x1,(hce 2).trans x2,(hce 7).trans x7,(hce 9).trans x9]
 clear hce hs hd x0 x1 x2 x7 x9
 have HK:Hid _:=hK
 clear hK
 have h1:=fun w=>BQ n ag w
 have h2:=fun w=>BQ m ag w
 clear hn hm
 refine wp_mono (Q:=Exit.then (Q .normal) (fun _ _ _=>False)) ?_ (fun e a w h=>by cases e <;> first | exact h | exact h.elim)
 rw [show Code.region 11 (aL 11 Try.f3.body) true=ug Try.f3.body [1,1,1,1,1,1,1,0] by kernel_rfl]
 conv=>arg 2;whnf
 go_region
 ·exact HK.out _ _ v.heap.size (v.heap.size+1) rfl rfl rfl rfl rfl rfl rfl rfl rfl (((au.refl _ _).alloc _).alloc _).drew ag (Nat.le_refl _) (Nat.le_succ _) (jU (nY _ _) _) (heap_alloc2_new _ _ _)
 ·exact HK.out _ _ (v.heap.size+1) v.heap.size rfl rfl rfl rfl rfl rfl rfl rfl rfl (((au.refl _ _).alloc _).alloc _).drew ag (Nat.le_succ _) (Nat.le_refl _) (heap_alloc2_new _ _ _) (jU (nY _ _) _)
end
structure jm (v:World)(xb b ab n yb c bb m:Nat)(cs ds:Array Value):Prop where
 x:DA v xb b ab n cs
 y:DA v yb c bb m ds
 ix:gq cs
 iy:gq ds
 ap:∀ p∈[xb,b,ab],∀ q∈[yb,c,bb],p≠q
theorem DA.still {w w':World}{xb b lb n:Nat}{cs:Array Value}(h:DA w xb b lb n cs){l:List Nat}(ht:au l w w')(h1:xb∉l)(h2:b∉l)(h3:lb∉l):DA w' xb b lb n cs :=
 ⟨⟨ht.heap h.c.x h1,ht.heap h.c.c h2,h.c.size⟩,ht.heap h.l h3,h.nb,h.nx,h.bx⟩
theorem jm.still {v v':World}{xb b ab n yb c bb m:Nat}{cs ds:Array Value}(h:jm v xb b ab n yb c bb m cs ds){l:List Nat}(ht:au l v v')(hl:∀ p∈[xb,b,ab,yb,c,bb],p∉l):jm v' xb b ab n yb c bb m cs ds :=
 ⟨h.x.still ht (hl _ ah) (hl _ ah) (hl _ ah),h.y.still ht (hl _ ah) (hl _ ah) (hl _ ah),h.ix,h.iy,h.ap⟩
section
variable {a:Act}{v:World}{Q:Exit→Act→World→Prop}{n m:Nat}{xb b ab yb c bb ub:Nat}{cs ds es:Array Value}{sa sb:Value}
set_option maxHeartbeats 1600000 in
theorem Wd (hs:a.tmps.size=143)(hd:a.defers=[])(x0:a.eval (.tmp 0)=.int .i64 (n:Nat))(x7:a.eval (.tmp 7)=.pointer (some ⟨xb,0,none⟩))(x9:a.eval (.tmp 9)=.pointer (some ⟨yb,0,none⟩))(cO:a.eval (.tmp 11)=sa)(cZ:a.eval (.tmp 12)=sb)(hn:n≤256)(hA:CA v xb b n cs)(hI:gq cs)
  (hK:∀ a' v',a'.tmps.size=143→a'.defers=[]→a'.eval (.tmp 0)=.int .i64 (n:Nat)→a'.eval (.tmp 7)=.pointer (some ⟨xb,0,none⟩)→a'.eval (.tmp 9)=.pointer (some ⟨yb,0,none⟩)→a'.eval (.tmp 11)=sa→a'.eval (.tmp 12)=sb→a'.eval (.tmp 16)=.slice (some ⟨v.heap.size,0,none⟩) n n→au [] v v'→v'.heap[v.heap.size]?=some (.cells cs 3 (0,0))→Q .normal a' v'):(Code.region 20 (aL 20 Try.f3.body) false).wp Try.prog Q a v:=by
 obtain ⟨cc,rfl,hce⟩:=dS hs hd
 conv=>arg 2;whnf
 simp only [dK,(hce 0).trans x0,(hce 7).trans x7,(hce 9).trans x9,(hce 11).trans cO,(hce 12).trans cZ]
 clear hce hs hd x0 x7 x9 cO cZ
 have HK:Hid _:=hK
 clear hK
 have HV:Hid (Calls Try.prog 8 #[.pointer (some ⟨xb,0,none⟩)] v fun e w'=>e=.returned (.slice (some ⟨v.heap.size,0,none⟩) n n)∧au [] v w'∧w'.heap[v.heap.size]?=some (.cells cs 3 (0,0))):=BR hA hI hn
 clear hA hI
 go_wp2_with (go_at_call 8;refine HV.out.mono ?_;rintro e x1 ⟨rfl,h1,h2⟩;have T1:Hid _:=h1;have T2:Hid _:=h2;clear h1 h2 HV)
 exact HK.out _ _ rfl rfl rfl rfl rfl rfl rfl rfl T1.out T2.out
set_option maxHeartbeats 1600000 in
theorem We (hs:a.tmps.size=143)(hd:a.defers=[])(x0:a.eval (.tmp 0)=.int .i64 (n:Nat))(x7:a.eval (.tmp 7)=.pointer (some ⟨xb,0,none⟩))(x9:a.eval (.tmp 9)=.pointer (some ⟨yb,0,none⟩))(cO:a.eval (.tmp 11)=sa)(cZ:a.eval (.tmp 12)=sb)(pW:a.eval (.tmp 16)=.slice (some ⟨ub,0,none⟩) n n)(hn:n≤256)(hu:v.heap[ub]?=some (.cells es 3 (0,0)))(hI:gq es)(hz:es.size=n)
  (hK:∀ a' v',a'.tmps.size=143→a'.defers=[]→a'.eval (.tmp 0)=.int .i64 (n:Nat)→a'.eval (.tmp 7)=.pointer (some ⟨xb,0,none⟩)→a'.eval (.tmp 9)=.pointer (some ⟨yb,0,none⟩)→a'.eval (.tmp 11)=sa→a'.eval (.tmp 12)=sb→a'.eval (.tmp 16)=.slice (some ⟨ub,0,none⟩) n n→au [ub] v v'→Q .normal a' v'):(ug Try.f3.body [1,1,1,1,1,1,1,1,1,1,0]).wp Try.prog Q a v:=by
 obtain ⟨cc,rfl,hce⟩:=dS hs hd
 conv=>arg 2;whnf
 simp only [dK,(hce 0).trans x0,(hce 7).trans x7,(hce 9).trans x9,(hce 11).trans cO,(hce 12).trans cZ,(hce 16).trans pW]
 clear hce hs hd x0 x7 x9 cO cZ pW
 have HK:Hid _:=hK
 clear hK
 have H0:Hid (∃ es:Array Value,v.heap[ub]?=some (.cells es 3 (0,0))∧gq es∧es.size=n∧au [ub] v v):=⟨es,hu,hI,hz,au.refl _ _⟩
 have HS:Hid (∀ k y,k < n→(∃ es:Array Value,y.heap[ub]?=some (.cells es 3 (0,0))∧gq es∧es.size=n∧au [ub] v y)→∃ x:Int,y.cell? ⟨ub,k,none⟩=some (.int .i64 x)∧y.frozen? ⟨ub,k,none⟩=false∧ub < y.heap.size∧∀ z:Int,∃ es:Array Value,(y.setCell ⟨ub,k,none⟩ (.int .i64 z)).heap[ub]?=some (.cells es 3 (0,0))∧gq es∧es.size=n∧au [ub] v (y.setCell ⟨ub,k,none⟩ (.int .i64 z))):=fun k y hk h=>by
  obtain ⟨es,h1,h2,h3,h4⟩:=h
  obtain ⟨x,hx⟩:=h2 k ag
  exact ⟨x,(bW h1 k).trans hx,mP h1 k,lt_of_heap h1,fun z=>⟨_,yf h1 k _,h2.set k z,by simp [h3],h4.set (.inl ah) _ _⟩⟩
 clear hu hI hz
 go_wp2
 go_loopw [17,113,114,115,116,117,118,119,120,121,122,123,124,125,126] (fun t17 _ _ _ _ _ _ _ _ _ _ _ _ _ _ wx=>∃ k:Nat,k≤n∧t17=.int .i64 k∧Hid (∃ es:Array Value,wx.heap[ub]?=some (.cells es 3 (0,0))∧gq es∧es.size=n∧au [ub] v wx)) (fun t17 _ _ _ _ _ _ _ _ _ _ _ _ _ _ _=>n - (intOf t17).toNat)
 case atStart=>exact ⟨0,Nat.zero_le _,rfl,H0⟩
 case round =>
  obtain ⟨k,hk,rfl,HT⟩:=hrel
  by_cases hkn:k < n
  ·obtain ⟨x,z1,z2,z3,z4⟩:=HS.out k _ hkn HT.out
   have HZ:Hid _:=z4
   have hlt:(k:Int) < (n:Int):=by omega
   clear z4 HT
   go_wp2
   exact ⟨⟨k+1,ag,by go_num,HZ.out _⟩,by simp [intOf];omega⟩
  ·have:k=n:=by omega
   subst this
   go_wp2
   obtain ⟨es,_,_,_,h4⟩:=HT.out
   exact HK.out _ _ rfl rfl rfl rfl rfl rfl rfl rfl h4
set_option maxHeartbeats 1600000 in
theorem ra25 (hs:a.tmps.size=143)(hd:a.defers=[])(x0:a.eval (.tmp 0)=.int .i64 (n:Nat))(x7:a.eval (.tmp 7)=.pointer (some ⟨xb,0,none⟩))(x9:a.eval (.tmp 9)=.pointer (some ⟨yb,0,none⟩))(cO:a.eval (.tmp 11)=.slice (some ⟨ab,0,none⟩) n n)(cZ:a.eval (.tmp 12)=.slice (some ⟨bb,0,none⟩) m m)(pW:a.eval (.tmp 16)=.slice (some ⟨ub,0,none⟩) n n)(hn:n≤256)(hm:m≤256)(hT:jm v xb b ab n yb c bb m cs ds)
  (hK:∀ a' v',a'.tmps.size=143→a'.defers=[]→a'.eval (.tmp 6)=.bool true→Q .normal a' v'):(Code.region 25 (aL 25 Try.f3.body) false).wp Try.prog Q a v:=by
 obtain ⟨cc,rfl,hce⟩:=dS hs hd
 conv=>arg 2;whnf
 simp only [dK,(hce 0).trans x0,(hce 7).trans x7,(hce 9).trans x9,(hce 11).trans cO,(hce 12).trans cZ,(hce 16).trans pW]
 clear hce hs hd x0 x7 x9 cO cZ pW
 have HK:Hid _:=hK
 clear hK
 have hl:=lt_of_heap hT.x.l
 have hr:=lt_of_heap hT.y.l
 have H1:Hid (∀ w:World,au [] v w→Calls Try.prog 8 #[.pointer (some ⟨xb,0,none⟩)] w fun e w'=>e=.returned (.slice (some ⟨w.heap.size,0,none⟩) n n)∧au [] w w'∧w'.heap[w.heap.size]?=some (.cells cs 3 (0,0))):=fun w ht=>BR (hT.x.still ht ah ah ah).c hT.ix hn
 have H2:Hid (∀ w:World,au [] v w→Calls Try.prog 8 #[.pointer (some ⟨yb,0,none⟩)] w fun e w'=>e=.returned (.slice (some ⟨w.heap.size,0,none⟩) m m)∧au [] w w'∧w'.heap[w.heap.size]?=some (.cells ds 3 (0,0))):=fun w ht=>BR (hT.y.still ht ah ah ah).c hT.iy hm
 have H3:Hid (∀ (w:World) (g:Nat),au [] v w→w.heap[g]?=some (.cells cs 3 (0,0))→Calls Try.prog 9 #[.slice (some ⟨g,0,none⟩) n n,.slice (some ⟨ab,0,none⟩) n n] w fun e w'=>e=.returned (.bool true)∧au [] w w'):=fun w g ht hg=>IU hg (ht.heap hT.x.l ah) hT.ix hT.x.c.size ag
 have H4:Hid (∀ (w:World) (g:Nat),au [] v w→w.heap[g]?=some (.cells ds 3 (0,0))→Calls Try.prog 9 #[.slice (some ⟨g,0,none⟩) m m,.slice (some ⟨bb,0,none⟩) m m] w fun e w'=>e=.returned (.bool true)∧au [] w w'):=fun w g ht hg=>IU hg (ht.heap hT.y.l ah) hT.iy hT.y.c.size ag
 clear hT
 go_wp2_with (first
  | (go_at_call 8;refine (H1.out _ (au.refl _ _)).mono ?_;rintro e y1 ⟨rfl,t1,t2⟩;have T1:Hid _:=t1;have T2:Hid _:=t2;clear t1 t2 H1)
  | (go_at_call 9;refine (H3.out _ _ T1.out T2.out).mono ?_;rintro e y2 ⟨rfl,t3⟩;have T3:Hid _:=T1.out.trans t3;clear t3 T1 T2 H3)
  | (go_at_call 8;refine (H2.out _ T3.out).mono ?_;rintro e y3 ⟨rfl,t4,t5⟩;have T4:Hid _:=T3.out.trans t4;have T5:Hid _:=t5;clear t4 t5 H2 T3)
  | (go_at_call 9;refine (H4.out _ _ T4.out T5.out).mono ?_;rintro e y4 ⟨rfl,t6⟩;clear t6 T4 T5 H4))
 exact HK.out _ _ rfl rfl rfl
end
end Go.Proofs.Ytanploaffndpjaa
namespace Go.Proofs.Ytanploaffndpjaa
open Go Go.Blind Go.Conc
def D8:List (Option Nat):=[some 32,some 33,some 34,some 35,some 36,some 37,some 38,none]
section
variable {Y:aN}{p:Post}{wb:Nat}{k:Int}{wl:List (Nat×Obj)}{n:Nat}{q:Y.bL}{cs:List Y.Call}{s s':Y.σ}{M:Nat→Prop}{w:World}{ok:Bool}{n1 n2 er:Int}
theorem FX {N:Nat}:∀ y∈(#[.agg (aQ ok n1 n2 er).toArray]:Array Value),Old N GL y:=by
 intro y hy
 rw [Array.mem_singleton.1 hy]
 refine Old.agg fun x hx=>?_
 have hx:x∈aQ ok n1 n2 er:=by simpa using hx
 simp only [aQ,List.mem_cons,List.not_mem_nil,or_false] at hx
 rcases hx with rfl | rfl | rfl | rfl | rfl | rfl | rfl | rfl | rfl
 ·exact Old.int _ _
 ·exact Old.int _ _
 ·exact Old.int _ _
 ·exact Old.bool _
 ·exact Old.int _ _
 ·exact Old.int _ _
 ·exact Old.int _ _
 ·exact Old.bX _ _
 ·exact Old.bX _ _
theorem OX {l r:List (Nat×Obj)}{S:ai}{main:Bool}(hm:Mm Try.prog M w l r):bn Try.prog main 68 #[.agg (aQ ok n1 n2 er).toArray] (fun e S' M' w'=>e=.returned (.agg (aQ ok n1 n2 er).toArray)∧S'=S∧Mm Try.prog M' w' l r) S M w:=by
 refine bG (sF sJ (f:=68) af ⟨_,Try.func68⟩ FX hm [] (fun b hb=>absurd hb ah) (R:=fun e _=>e=.returned (.agg (aQ ok n1 n2 er).toArray)) (fun v _ _=>OW v ok n1 n2 er) (fun u h=>by cases h)) fun e S' M' w' h=>?_
 obtain ⟨rfl,L,v,ha,h⟩:=h
 have hk:=ha.kept l (fun p hp=>⟨hp,ah⟩) (by
  have:=hm.nodup
  rw [List.map_append] at this
  exact (List.nodup_append.1 this).1)
 cases e with
 | returned y =>
  obtain ⟨x,hx,hr⟩:=h
  cases hx
  exact ⟨by rw [hr.old ha.old (FX (ok:=ok) (n1:=n1) (n2:=n2) (er:=er) _ ah)],rfl,hk⟩
 | panicked qs =>
  obtain ⟨ps,hx,_⟩:=h
  cases hx
 | outgrown=>exact h.elim
def jR (Y:aN)(p:Post)(wb:Nat)(k:Int)(wl:List (Nat×Obj))(n:Nat)(cs:List Y.Call)(S:ai)(M:Nat→Prop)(w:World):Prop :=
 if cs.isEmpty then S=nQ Try.prog p∧Mm Try.prog M w ((p.pb,aR p false false) :: ((wb,bY p k) :: wl)) [] else S=nR Try.prog Y p n (none,cs)∧Mm Try.prog M w ((wb,bY p k) :: wl) [(p.pb,aR p false false)]
def H8 (Y:aN)(p:Post)(wb:Nat)(k:Int)(wl:List (Nat×Obj))(n:Nat)(q:Y.bL)(s s':Y.σ)(cs:List Y.Call)(b7:Bool)(S:ai)(M:Nat→Prop)(w:World):Prop :=
 if b7 then jR Y p wb k wl n cs S M w else S=dP Try.prog Y p n q s∧Mm Try.prog M w ((p.pb,aR p false false) :: ((wb,bY p k) :: wl ++ Y.sh s')) []
theorem H8.any {b7:Bool}{S:ai}(h:H8 Y p wb k wl n q s s' cs b7 S M w):∃ L R,Mm Try.prog M w L R∧(∀ M1 w1,Mm Try.prog M1 w1 L R→H8 Y p wb k wl n q s s' cs b7 S M1 w1)∧(∀ (j:Nat) x,wl[j]?=some x→∃ j':Nat,(L ++ R)[j']?=some x)∧∃ j':Nat,(L ++ R)[j']?=some (p.pb,aR p false false):=by
 have mem:∀ (l:List (Nat×Obj)) x,x∈l→∃ j:Nat,l[j]?=some x:=fun l x hx=>List.mem_iff_getElem?.1 hx
 unfold H8 at h ⊢
 cases b7 with
 | false =>
  simp only [Bool.false_eq_true,if_false] at h ⊢
  exact ⟨_,_,h.2,fun M1 w1 hm=>⟨h.1,hm⟩,fun j x hx=>mem _ _ (by have:=List.mem_of_getElem? hx;simp [this]),mem _ _ ah⟩
 | true =>
  simp only [if_true] at h ⊢
  unfold jR at h ⊢
  split at h
  ·rename_i hc
   simp only [hc,if_true]
   exact ⟨_,_,h.2,fun M1 w1 hm=>⟨h.1,hm⟩,fun j x hx=>mem _ _ (by have:=List.mem_of_getElem? hx;simp [this]),mem _ _ ah⟩
  ·rename_i hc
   simp only [hc,if_false]
   exact ⟨_,_,h.2,fun M1 w1 hm=>⟨h.1,hm⟩,fun j x hx=>mem _ _ (by have:=List.mem_of_getElem? hx;simp [this]),mem _ _ ah⟩
def sK (p:Post)(an:List Value):Nat→Value
 | 0=>.pointer (some ⟨p.pb,0,none⟩)
 | 1=>.pointer (some ⟨p.pb,0,none⟩)
 | 2=>.pointer (some ⟨p.pb,2,none⟩)
 | 3=>.chan (some p.arr)
 | 4=>.agg an.toArray
 | 5=>.agg an.toArray
 | 6=>.agg (fP an.toArray)
 | _=>undef
theorem OY (bF:p.ob=aR p false false){a0:Act}{bp b8 i4 i8:Nat}{Q:aZ}(hs:a0.tmps.size=39)(h4:a0.eval (.tmp 4)=.pointer (some ⟨bp,0,none⟩))(h8:a0.eval (.tmp 8)=.pointer (some ⟨b8,0,none⟩))
  (hl:Y.dM q s=(s',fP (aQ ok n1 n2 er).toArray,if cs.isEmpty then none else some (none,cs)))(hm:Mm Try.prog M w ((p.pb,aR p false false) :: ((wb,bY p k) :: wl ++ Y.sh s')) [])(hbp:wl[i4]?=some (bp,gM p))(OZ:wl[i8]?=some (b8,dW ok n1 n2 er))
  (hQ:∀ a S w M,a.tmps.size=39→a.defers=a0.defers→(∀ x,some x∉D8→a.eval (.tmp x)=a0.eval (.tmp x))→jR Y p wb k wl n cs S M w→Q .normal S M a w) :
  aM Try.prog false 40 .normal (.region 8 (opsOf 8 Try.f40.body) true) Q (dP Try.prog Y p n q s) M a0 w:=by
 refine jy af D8 (by rw [hs];kernel_rfl) (Γ:=Unit) (fun _=>sK p (aQ ok n1 n2 er)) (fun _ l S M w=>H8 Y p wb k wl n q s s' cs (on l 7) S M w) () (fun w1 hr=>?_) (fun i hi γ l S M a w o ho hg hM hoi az hC=>?_) (fun γ l S M a w hall hM hC=>?_)
 ·have z:on (Array.replicate (opsOf 8 Try.f40.body).size false) 7=false:=by
   unfold on
   rw [Array.getD_eq_getD_getElem?,Array.getElem?_replicate]
   split <;> rfl
  rw [z]
  unfold H8
  simp only [Bool.false_eq_true,if_false]
  have hm1:=hm.rely hr
  exact ⟨trivial,⟨hm1.own,hm1.rd,hm1.low,hm1.aX,hm1.base,hm1.nodup⟩⟩
 ·have hsz:l.size=8:=hM.size
  have hw:=jd (a:=a) (ops:=opsOf 8 Try.f40.body) hg
  have hlt:i < 8:=hi
  obtain ⟨L,R,dO,nT,oL,jp,hjp⟩:=hC.any
  have still:∀ M1 w1 x,i≠7→x=sK p (aQ ok n1 n2 er) i→Mm Try.prog M1 w1 L R→∃ γ':Unit,a.put o.dst x=a.put o.dst (sK p (aQ ok n1 n2 er) i)∧(∀ j,on l j=true→sK p (aQ ok n1 n2 er) j=sK p (aQ ok n1 n2 er) j)∧H8 Y p wb k wl n q s s' cs (on (l.setIfInBounds i true) 7) S M1 w1:=by
   intro M1 w1 x h7 hx hm1
   refine ⟨(),by rw [hx],fun _ _=>rfl,?_⟩
   rw [aB h7]
   exact nT M1 w1 hm1
  rcases (by omega:i=0∨i=1∨i=2∨i=3∨i=4∨i=5∨i=6∨i=7) with rfl | rfl | rfl | rfl | rfl | rfl | rfl | rfl
  ·obtain ⟨j4,qI⟩:=oL _ _ hbp
   exact eU ae ho hw (t:=111) (x:=.tmp 4) (aC af ho) (n:=j4) (b:=bp) (k:=0) ((hM.slot ae).trans h4) dO qI (v:=.pointer (some ⟨p.pb,0,none⟩)) rfl af fun w1=>still M w1 _ ae rfl
  ·have hv:=hM.val 0 32 rfl (az 0 af)
   exact aS ae ho hw (jA (x:=.tmp 32) (aC af ho) hv) dO fun w1=>still M w1 _ ae rfl
  ·have hv:=hM.val 1 33 rfl (az 1 af)
   exact aS ae ho hw (bZ (t:=115) (x:=.tmp 33) (k:=2) (fo:=2) (aC af ho) hv af) dO fun w1=>still M w1 _ ae rfl
  ·have hv:=hM.val 2 34 rfl (az 2 af)
   exact eU ae ho hw (t:=113) (x:=.tmp 34) (aC af ho) (n:=jp) (b:=p.pb) (k:=2) hv dO hjp (v:=.chan (some p.arr)) rfl af fun w1=>still M w1 _ ae rfl
  ·obtain ⟨j8,xX⟩:=oL _ _ OZ
   exact pq ae ho hw (t:=48) (x:=.tmp 8) (aC af ho) (n:=j8) (b:=b8) (off:=0) ((hM.slot ae).trans h8) dO xX (vs:=aQ ok n1 n2 er) (fun j v hj=>by simpa [dW] using hj) af af fun w1=>still M w1 _ ae rfl
  ·have hv:=hM.val 4 36 rfl (az 4 af)
   refine nU ae ho hw (args:=#[.tmp 36]) (ats:=#[48]) (aC af ho) Try.func68 af af (ys:=#[.agg (aQ ok n1 n2 er).toArray]) (by simp [hv,sK]) (OX dO) fun e S' M' w' hd=>?_
   obtain ⟨rfl,rfl,hm'⟩:=hd
   exact ⟨_,rfl,still M' w' _ ae rfl hm'⟩
  ·have hv:=hM.val 5 37 rfl (az 5 af)
   exact aS ae ho hw (ik (t:=133) (parts:=#[(0,.const (.bool true)),(2,.tmp 37)]) (aC af ho) (vs:=[(0,.bool true),(2,.agg (aQ ok n1 n2 er).toArray)]) (by show [(0,_),(2,a.eval (.tmp 37))]=_;rw [hv];rfl) (cells:=fP (aQ ok n1 n2 er).toArray) af) dO fun w1=>still M w1 _ ae rfl
  ·have hv3:=hM.val 3 35 rfl (az 3 af)
   have hv6:=hM.val 6 38 rfl (az 6 af)
   rw [hoi] at hC
   unfold H8 at hC
   simp only [Bool.false_eq_true,if_false] at hC
   obtain ⟨rfl,dQ⟩:=hC
   have hrun:=FE (P:=Try.prog) (a:=a) (x:=.tmp 35) (y:=.tmp 38) (aC af ho) hv3 hv6
   cases cs with
   | nil =>
    refine Oz ae ho hw hrun (q:=q) (s:=s) hl dQ fun M' w' hm'=>⟨(),rfl,fun _ _=>rfl,?_⟩
    rw [bP ag]
    exact ⟨rfl,hm'⟩
   | cons c2 cs2 =>
    refine Oy ae ho hw hrun (q:=q) (s:=s) hl bF.symm dQ fun M' w' hm'=>⟨(),rfl,fun _ _=>rfl,?_⟩
    rw [bP ag]
    exact ⟨rfl,hm'⟩
 ·have h7:on l 7=true:=hall 7 ae
  rw [h7] at hC
  exact hQ a S w M (hM.fV.trans hs) hM.defers (fun x hx=>hM.slot hx) hC
end
def dV (v:Value):Obj:=.cells #[v] 22 (0,0)
def sN {Y:aN}(enc:Y.Call→List Value)(v:Value)(rest:List (Nat×Obj)):List Y.Call→Prop
 | []=>∃ o cap,v=.slice o 0 cap
 | c :: cs=>∃ (cb off cap:Nat) (cc:Array Value) (eC:TypeId) (fz:Nat×Nat) (i2:Nat),v=.slice (some ⟨cb,off,none⟩) (cs.length+1) cap∧cs.length+1≤cap∧rest[i2]?=some (cb,.cells cc eC fz)∧∀ (i:Nat) x,(c :: cs)[i]?=some x→∀ (j:Nat) y,(enc x)[j]?=some y→cc[off+5 * i+j]?=some y
structure WI {Y:aN}(p:Post)(wb:Nat)(k:Int)(t:TypeId)(vd:Value)(enc:Y.Call→List Value)(ds:List Deferred)(bp bc:Nat)(n:Nat)(cs:List Y.Call)(S:ai)(M:Nat→Prop)(a:Act)(w:World):Prop where
 size:a.tmps.size=39
 defers:a.defers=ds
 s1:a.eval (.tmp 1)=.pointer (some ⟨wb,0,none⟩)
 s3:a.eval (.tmp 3)=.iface t vd
 s4:a.eval (.tmp 4)=.pointer (some ⟨bp,0,none⟩)
 s6:a.eval (.tmp 6)=.pointer (some ⟨bc,0,none⟩)
 mem:∃ v rest,sN enc v rest cs∧jR Y p wb k ((bp,gM p) :: (bc,dV v) :: rest) n cs S M w
section
variable {Y:aN}{p:Post}{wb:Nat}{k:Int}{t:TypeId}{vd rc:Value}{f:FuncId}{aD:Func}{enc:Y.Call→List Value}{n:Nat}{c:Y.Call}{cs:List Y.Call}{s:Y.σ}{M:Nat→Prop}{a:Act}{w:World}{S:ai}{ds:List Deferred}{bp bc:Nat}{Q:aZ}{l r:List (Nat×Obj)}{v:Value}
theorem F5 {o:Option Addr}{len cap i:Nat}(hs:a.tmps.size=39)(h6:a.eval (.tmp 6)=.pointer (some ⟨bc,0,none⟩))(hm:Mm Try.prog M w l r)(hb:(l ++ r)[i]?=some (bc,dV (.slice o len cap)))(hQ:∀ a' w',a'.tmps.size=39→a'.defers=a.defers→(∀ x:Nat,x < 10→a'.eval (.tmp x)=a.eval (.tmp x))→a'.eval (.tmp 12)=.bool (decide (0 < len))→Mm Try.prog M w' l r→Q .normal S M a' w') :
  aM Try.prog false 40 .normal (.region 2 (opsOf 2 Try.f40.body) false) Q S M a w:=by
 refine kG [0,1,2] (kL (d:=some 10) (t:=22) (x:=.tmp 6) h6 hm hb (v:=.slice o len cap) rfl fun w hm=>?_)
 refine kR (d:=some 11) (gN (t:=22) (x:=.tmp 10) (ad:=o) (len:=len) (cap:=cap) af eV) hm fun w hm=>?_
 refine kR (d:=some 12) (xY (t:=3) (t':=3) (x:=.tmp 11) (k:=len) eV) hm fun w hm=>?_
 refine aA (hQ _ _ bJ rfl (fun x hx=>?_) ?_ hm)
 ·rw [eP,eP,eP,if_neg ag,if_neg ag,if_neg ag]
 ·rw [eP];rfl
theorem O4 {q:Y.bL}{wl:List (Nat×Obj)}{gv gn:Bool}{i:Nat}(hs:a.tmps.size=39)(h4:a.eval (.tmp 4)=.pointer (some ⟨bp,0,none⟩))(hm:Mm Try.prog M w wl [(p.pb,aR p gv gn)])(hb:(wl ++ [(p.pb,aR p gv gn)])[i]?=some (bp,gM p))(hQ:∀ a' w' M' n' s,n=n' + 1→a'.tmps.size=39→a'.defers=a.defers→(∀ x:Nat,x < 10→a'.eval (.tmp x)=a.eval (.tmp x))→Mm Try.prog M' w' ((p.pb,aR p gv gn) :: (wl ++ Y.sh s)) []→Q .normal (dP Try.prog Y p n' q s) M' a' w') :
  aM Try.prog false 40 .normal (.region 3 (opsOf 3 Try.f40.body) false) Q (nR Try.prog Y p n q) M a w:=by
 refine kG [0,1] (kL (d:=some 13) (t:=111) (x:=.tmp 4) h4 hm hb (v:=.pointer (some ⟨p.pb,0,none⟩)) rfl fun w hm=>?_)
 refine kC (d:=some 14) (args:=#[.tmp 13]) (ats:=#[111]) Try.func67 (ys:=#[.pointer (some ⟨p.pb,0,none⟩)]) (by simp [lT,hs]) (bG (Fu hm) fun e S' M w hq=>?_)
 obtain ⟨rfl,n',s,hn,rfl,hm⟩:=hq
 refine aA (hQ _ _ _ n' s hn bJ rfl (fun x hx=>?_) hm)
 rw [eP,eP,if_neg ag,if_neg ag]
theorem O5 {wl:List (Nat×Obj)}{gv gn:Bool}{i:Nat}(hs:a.tmps.size=39)(h4:a.eval (.tmp 4)=.pointer (some ⟨bp,0,none⟩))(hm:Mm Try.prog M w ((p.pb,aR p gv gn) :: wl) [])(hb:(((p.pb,aR p gv gn) :: wl) ++ [])[i]?=some (bp,gM p))(hQ:∀ a' w',a'.tmps.size=39→a'.defers=a.defers→(∀ x:Nat,x < 10→a'.eval (.tmp x)=a.eval (.tmp x))→Mm Try.prog M w' ((p.pb,aR p true gn) :: wl) []→Q .normal S M a' w') :
  aM Try.prog false 40 .normal (.region 4 (opsOf 4 Try.f40.body) false) Q S M a w:=by
 refine kG [0,1,2,3] (kL (d:=some 15) (t:=111) (x:=.tmp 4) h4 hm hb (v:=.pointer (some ⟨p.pb,0,none⟩)) rfl fun w hm=>?_)
 refine kN 16 15 hm fun w hm=>kP (fo:=3) (off:=0) 17 115 16 3 hm fun w hm=>lU ae Try.func40 rfl (d:=none) (t:=4) (x:=.tmp 17) (y:=.const (.bool true)) eI (n:=0) (b:=p.pb) (k:=3) (v:=.bool true) eV rfl hm rfl (by show 3 < 5;decide) af rfl fun w hm=>?_
 refine aA (hQ _ _ bJ rfl (fun x hx=>?_) hm)
 rw [bV,eP,eP,eP,if_neg ag,if_neg ag,if_neg ag]
theorem O6 {wl:List (Nat×Obj)}{gv gn:Bool}{i:Nat}(hs:a.tmps.size=39)(h4:a.eval (.tmp 4)=.pointer (some ⟨bp,0,none⟩))(hm:Mm Try.prog M w ((p.pb,aR p gv gn) :: wl) [])(hb:(((p.pb,aR p gv gn) :: wl) ++ [])[i]?=some (bp,gM p))(hQ:∀ a' w',a'.tmps.size=39→a'.defers=a.defers→(∀ x:Nat,x < 10→a'.eval (.tmp x)=a.eval (.tmp x))→a'.eval (.tmp 29)=.bool gn→Mm Try.prog M w' ((p.pb,aR p gv gn) :: wl) []→Q .normal S M a' w') :
  aM Try.prog false 40 .normal (.region 6 (opsOf 6 Try.f40.body) false) Q S M a w:=by
 refine kG [0,1,2,3] (kL (d:=some 26) (t:=111) (x:=.tmp 4) h4 hm hb (v:=.pointer (some ⟨p.pb,0,none⟩)) rfl fun w hm=>?_)
 refine kN 27 26 hm fun w hm=>kP (fo:=4) (off:=0) 28 115 27 4 hm fun w hm=>kL (d:=some 29) (t:=4) (x:=.tmp 28) (n:=0) (b:=p.pb) (k:=4) eV hm rfl (v:=.bool gn) rfl fun w hm=>?_
 refine aA (hQ _ _ bJ rfl (fun x hx=>?_) ?_ hm)
 ·rw [eP,eP,eP,eP,if_neg ag,if_neg ag,if_neg ag,if_neg ag]
 ·rw [eP];rfl
theorem O7 {o:Option Addr}{len cap i:Nat}{e:Nat×Obj}(hs:a.tmps.size=39)(h6:a.eval (.tmp 6)=.pointer (some ⟨bc,0,none⟩))(hm:Mm Try.prog M w l [])(hb:l[i]?=some (bc,dV (.slice o len cap)))(hl:1≤len)(hQ:∀ a' w',a'.tmps.size=39→a'.defers=a.defers→(∀ x:Nat,x < 10→a'.eval (.tmp x)=a.eval (.tmp x))→Mm Try.prog M w' (l.set i (bc,dV (sliced o 1 len cap 5))) []→Q .normal S M a' w') :
  aM Try.prog false 40 .normal (.region 7 (opsOf 7 Try.f40.body) false) Q S M a w:=by
 refine kG [0,1,2] (kL (d:=some 30) (t:=22) (x:=.tmp 6) h6 hm (by rw [List.append_nil];exact hb) (v:=.slice o len cap) rfl fun w hm=>?_)
 refine kR (d:=some 31) (O3 (t:=22) (x:=.tmp 30) (ad:=o) (len:=len) (cap:=cap) (sz:=5) af af eV hl) hm fun w hm=>?_
 refine lU ae Try.func40 rfl (d:=none) (t:=22) (x:=.tmp 6) (y:=.tmp 31) eI (n:=i) (b:=bc) (k:=0) (v:=sliced o 1 len cap 5) eV eV hm hb (by show 0 < 1;decide) af rfl fun w hm=>?_
 refine aA (hQ _ _ bJ rfl (fun x hx=>?_) hm)
 rw [bV,eP,eP,if_neg ag,if_neg ag]
theorem O8 (bF:p.ob=aR p false false)(gW:pE Y p wb k t vd rc f aD enc)(hI:WI p wb k t vd enc ds bp bc n cs S M a w):aM Try.prog false 40 .normal (.seq (.seq (.region 2 (opsOf 2 Try.f40.body) false) (.cond (.tmp 12) .skip (.exit 0))) (.block 1 (.seq (.region 3 (opsOf 3 Try.f40.body) false) (.seq (.region 4 (opsOf 4 Try.f40.body) false) (.seq (.region 5 (opsOf 5 Try.f40.body) true) (.seq (.seq (.region 6 (opsOf 6 Try.f40.body) false) (.cond (.tmp 29) .ret .skip)) (.seq (.region 7 (opsOf 7 Try.f40.body) false) (.region 8 (opsOf 8 Try.f40.body) true)))))))) (fun e S' M' a' w'=>match e with | .normal=>∃ n' cs',cs'.length < cs.length∧WI p wb k t vd enc ds bp bc n' cs' S' M' a' w' | .exit i=>i=0∧WI p wb k t vd enc ds bp bc n ([]:List Y.Call) S' M' a' w' | _=>False) S M a w:=by
 obtain ⟨hs,hd,h1,h3,h4,h6,v,rest,hv,hfin⟩:=hI
 have lt:∀ {P:Prop},P→P:=fun h=>h
 cases cs with
 | nil =>
  obtain ⟨o,cap,rfl⟩:=hv
  obtain ⟨rfl,hm⟩:S=nQ Try.prog p∧Mm Try.prog M w ((p.pb,aR p false false) :: ((wb,bY p k) :: (bp,gM p) :: (bc,dV (.slice o 0 cap)) :: rest)) []:=hfin
  refine ak (ak (F5 hs h6 hm (i:=3) rfl fun a' w' k1 k2 k3 k4 hm'=>?_))
  refine kF k4 ?_
  refine lG ?_
  exact ⟨rfl,k1,k2.trans hd,(k3 1 ae).trans h1,(k3 3 ae).trans h3,(k3 4 ae).trans h4,(k3 6 ae).trans h6,_,rest,⟨o,cap,rfl⟩,rfl,hm'⟩
 | cons c cs =>
  obtain ⟨cb,off,cap,cc,eC,fz,i2,rfl,hcap,hcb,F6⟩:=hv
  obtain ⟨rfl,hm⟩:S=nR Try.prog Y p n (none,c :: cs)∧Mm Try.prog M w ((wb,bY p k) :: (bp,gM p) :: (bc,dV (.slice (some ⟨cb,off,none⟩) (cs.length+1) cap)) :: rest) [(p.pb,aR p false false)]:=hfin
  refine ak (ak (F5 hs h6 hm (i:=2) rfl fun a w k1 k2 k3 k4 hm=>?_))
  replace h1:=(k3 1 ae).trans h1
  replace h3:=(k3 3 ae).trans h3
  replace h4:=(k3 4 ae).trans h4
  replace h6:=(k3 6 ae).trans h6
  replace hd:=k2.trans hd
  clear k2 k3
  refine kY (k4.trans ah) ?_
  refine bS (eH (ak (O4 k1 h4 hm (i:=1) rfl fun a w M n' s hn k1 k2 k3 hm=>?_)))
  replace h1:=(k3 1 ae).trans h1
  replace h3:=(k3 3 ae).trans h3
  replace h4:=(k3 4 ae).trans h4
  replace h6:=(k3 6 ae).trans h6
  replace hd:=k2.trans hd
  clear k2 k3
  refine ak (O5 k1 h4 hm (i:=2) rfl fun a w k1 k2 k3 hm=>?_)
  replace h1:=(k3 1 ae).trans h1
  replace h3:=(k3 3 ae).trans h3
  replace h4:=(k3 4 ae).trans h4
  replace h6:=(k3 6 ae).trans h6
  replace hd:=k2.trans hd
  clear k2 k3
  refine ak (Ow gW (wl:=(bp,gM p) :: (bc,dV (.slice (some ⟨cb,off,none⟩) (cs.length+1) cap)) :: rest) (i1:=1) (i2:=i2+2) k1 h1 h3 h6 hm rfl hcb (fun j x hx=>by simpa using F6 0 c rfl j x hx) ag fun a w M b8 ok m1 m2 er n2 q' s0 s' k1 k2 k3 h8 hl hm=>?_)
  replace h1:=(k3 1 ae).trans h1
  replace h3:=(k3 3 ae).trans h3
  replace h4:=(k3 4 ae).trans h4
  replace h6:=(k3 6 ae).trans h6
  replace hd:=k2.trans hd
  clear k2 k3
  refine ak (ak (O6 k1 h4 hm (i:=2) rfl fun a w k1 k2 k3 k4 hm=>?_))
  replace h1:=(k3 1 ae).trans h1
  replace h3:=(k3 3 ae).trans h3
  replace h4:=(k3 4 ae).trans h4
  replace h6:=(k3 6 ae).trans h6
  replace h8:=(k3 8 ae).trans h8
  replace hd:=k2.trans hd
  clear k2 k3
  refine kF k4 ?_
  refine bS (ak (O7 (o:=some ⟨cb,off,none⟩) (len:=cs.length+1) (cap:=cap) (i:=3) (e:=(0,.cells #[] 0 (0,0))) k1 h6 hm rfl ag fun a w k1 k2 k3 hm=>?_))
  replace h1:=(k3 1 ae).trans h1
  replace h3:=(k3 3 ae).trans h3
  replace h4:=(k3 4 ae).trans h4
  replace h6:=(k3 6 ae).trans h6
  replace h8:=(k3 8 ae).trans h8
  replace hd:=k2.trans hd
  clear k2 k3
  refine OY bF (wl:=(bp,gM p) :: (bc,dV (sliced (some ⟨cb,off,none⟩) 1 (cs.length+1) cap 5)) :: (rest ++ [(b8,dW ok m1 m2 er)])) (i4:=0) (i8:=rest.length+2) k1 h4 h8 hl hm rfl ah fun a S w M k1 k2 k3 hf=>?_
  refine ⟨n2,cs,ah,k1,k2.trans hd,(k3 1 ae).trans h1,(k3 3 ae).trans h3,(k3 4 ae).trans h4,(k3 6 ae).trans h6,_,_,?_,hf⟩
  cases cs with
  | nil=>exact ⟨_,_,rfl⟩
  | cons c2 cs2 =>
   have hne:¬ cap=1:=by simp only [List.length_cons] at hcap;omega
   refine ⟨cb,off+5,cap - 1,cc,eC,fz,i2,?_,?_,?_,fun i x hx j y hy=>?_⟩
   ·simp only [sliced,hne,if_false,Option.map_some,Addr.add_mid,Nat.one_mul,List.length_cons,Nat.add_sub_cancel]
   ·simp only [List.length_cons] at hcap ⊢;omega
   ·rw [List.getElem?_append_left (List.getElem?_eq_some_iff.1 hcb).1];exact hcb
   ·have:=F6 (i+1) x hx j y hy
    rw [← this];congr 1;omega
end
theorem O9:Try.f66.body=some (.seq (.region 0 (opsOf 0 Try.f66.body) false) (.seq (.region 1 (opsOf 1 Try.f66.body) false) (.seq (.region 2 (opsOf 2 Try.f66.body) false) (.cond (.tmp 8) (.region 3 (opsOf 3 Try.f66.body) false) .skip)))):=by kernel_rfl
theorem Pd:Try.f40.body=some (.seq (.region 0 (opsOf 0 Try.f40.body) false) (.seq (.region 1 (opsOf 1 Try.f40.body) false) (.block 0 (.loop (.seq (.seq (.region 2 (opsOf 2 Try.f40.body) false) (.cond (.tmp 12) .skip (.exit 0))) (.block 1 (.seq (.region 3 (opsOf 3 Try.f40.body) false) (.seq (.region 4 (opsOf 4 Try.f40.body) false) (.seq (.region 5 (opsOf 5 Try.f40.body) true) (.seq (.seq (.region 6 (opsOf 6 Try.f40.body) false) (.cond (.tmp 29) .ret .skip)) (.seq (.region 7 (opsOf 7 Try.f40.body) false) (.region 8 (opsOf 8 Try.f40.body) true)))))))))))):=by kernel_rfl
section
variable {Y:aN}{p:Post}{wb:Nat}{k:Int}{t:TypeId}{vd rc:Value}{f:FuncId}{aD:Func}{enc:Y.Call→List Value}{n:Nat}{c:Y.Call}{cs:List Y.Call}{s:Y.σ}{M:Nat→Prop}{a:Act}{w:World}{S:ai}{ds:List Deferred}{bp bc:Nat}{l rest:List (Nat×Obj)}{v:Value}
theorem Pe {o:Option Addr}{cap i1 i2:Nat}{gv gn:Bool}{main:Bool}(hm:Mm Try.prog M w ((p.pb,aR p gv gn) :: l) [])(hbp:l[i1]?=some (bp,gM p))(hbc:l[i2]?=some (bc,dV (.slice o 0 cap))) :
  zD Try.prog main 66 #[.pointer (some ⟨bp,0,none⟩),.pointer (some ⟨bc,0,none⟩)] (fun e S' M' w'=>e=.returned (.tuple #[])∧S'=S∧M'=M∧Mm Try.prog M' w' ((p.pb,aR p gv true) :: l) []) S M w:=by
 refine KL Try.func66 O9 ?_
 obtain ⟨a,ha,hs,hd,he⟩:=entered Try.func66 #[.pointer (some ⟨bp,0,none⟩),.pointer (some ⟨bc,0,none⟩)] .deferred (N:=14) rfl (by show 2≤14;decide)
 have h0:a.eval (.tmp 0)=.pointer (some ⟨bp,0,none⟩):=he 0 _ rfl
 have h1:a.eval (.tmp 1)=.pointer (some ⟨bc,0,none⟩):=he 1 _ rfl
 rw [← ha]
 clear ha he
 refine KI ?_
 obtain ⟨o0,ho0,hd0,Pf,hw0⟩:=aV.at (ops:=(opsOf 0 Try.f66.body)) (i:=0) (d:=some 2) (p:=.call { callee:=.builtin .recover,args:=#[],argTypes:=#[] }) eI a
 refine KJ (rest:=[]) af ho0 hw0 (fun w1=>?_) fun v=>?_
 ·unfold execOp
  simp only [Pf]
  rfl
 rw [hd0]
 refine aA ?_
 have g0:(a.put (some 2) v).eval (.tmp 0)=.pointer (some ⟨bp,0,none⟩):=by rw [eN];exact h0
 have g1:(a.put (some 2) v).eval (.tmp 1)=.pointer (some ⟨bc,0,none⟩):=by rw [eN];exact h1
 have gs:(a.put (some 2) v).tmps.size=14:=by rw [size_put];exact hs
 have gd:(a.put (some 2) v).defers=[]:=hd
 obtain ⟨a',ha'⟩:∃ a':Act,a'=a.put (some 2) v:=⟨_,rfl⟩
 simp only [if_true]
 rw [← ha'] at g0 g1 gs gd ⊢
 clear ha' h0 h1 hs hd
 have hs:=gs
 refine ak (kG [0,1,2,3] ?_)
 have Pg:(((p.pb,aR p gv gn) :: l) ++ [])[i1+1]?=some (bp,gM p):=by rw [List.append_nil];exact hbp
 refine kL (d:=some 3) (t:=111) (x:=.tmp 0) g0 hm Pg (v:=.pointer (some ⟨p.pb,0,none⟩)) rfl fun w hm=>?_
 refine kN 4 3 hm fun w hm=>kP (fo:=4) (off:=0) 5 115 4 4 hm fun w hm=>lU ae Try.func66 rfl (d:=none) (t:=4) (x:=.tmp 5) (y:=.const (.bool true)) eI (n:=0) (b:=p.pb) (k:=4) (v:=.bool true) eV rfl hm rfl (by show 4 < 5;decide) af rfl fun w hm=>?_
 replace hm:Mm Try.prog M w ((p.pb,aR p gv true) :: l) []:=hm
 refine aA (ak (kG [0,1,2] ?_))
 have Ph:(((p.pb,aR p gv true) :: l) ++ [])[i2+1]?=some (bc,dV (.slice o 0 cap)):=by rw [List.append_nil];exact hbc
 refine kL (d:=some 6) (t:=22) (x:=.tmp 1) (by rw [bV,eP,eP,eN,if_neg ae,if_neg ae];exact g1) hm Ph (v:=.slice o 0 cap) rfl fun w hm=>?_
 refine kR (d:=some 7) (gN (t:=22) (x:=.tmp 6) (ad:=o) (len:=0) (cap:=cap) af (by rw [lT (by simp only [bV,size_put];omega)];rfl)) hm fun w hm=>?_
 refine kR (d:=some 8) (xY (t:=3) (t':=3) (x:=.tmp 7) (k:=0) (by rw [lT (by simp only [bV,size_put];omega)];rfl)) hm fun w hm=>?_
 refine aA (kF (by rw [lT (by simp only [bV,size_put];omega)];rfl) ?_)
 refine bS (F4 (Df (kd:=.deferred) Try.func66 (iZ rfl ?_ fun w1 hr=>⟨rfl,rfl,rfl,hm.rely hr⟩)))
 simp only [bO,bV]
 exact gd
theorem F7 (A R:List (Nat×Obj))(x y:Nat×Obj):(((A ++ R) ++ [x]) ++ [y]).Perm (A ++ (x :: y :: R)):=by
 rw [List.append_assoc,List.append_assoc]
 exact List.perm_append_comm.append_left A
theorem Pj (bF:p.ob=aR p false false)(gW:pE Y p wb k t vd rc f aD enc)(hv:sN enc v rest cs)(hv1:v.cells=#[v])(hf:jR Y p wb k rest n cs S M w) :
  bn Try.prog false 40 #[.pointer (some ⟨p.pb,0,none⟩),.pointer (some ⟨wb,0,none⟩),v,.iface t vd] (fun e S' M' w'=>e=.returned (.tuple #[])∧S'=nQ Try.prog p∧∃ l,Mm Try.prog M' w' l []) S M w:=by
 refine KE (KD Try.func40 Pd ?_)
 obtain ⟨a,ha,hs,hd,he⟩:=entered Try.func40 #[.pointer (some ⟨p.pb,0,none⟩),.pointer (some ⟨wb,0,none⟩),v,.iface t vd] .normal (N:=39) rfl (by show 4≤39;decide)
 have h0:a.eval (.tmp 0)=.pointer (some ⟨p.pb,0,none⟩):=he 0 _ rfl
 have h1:a.eval (.tmp 1)=.pointer (some ⟨wb,0,none⟩):=he 1 _ rfl
 have h2:a.eval (.tmp 2)=v:=he 2 _ rfl
 have h3:a.eval (.tmp 3)=.iface t vd:=he 3 _ rfl
 rw [← ha]
 clear ha he
 have boxes:∀ (l r:List (Nat×Obj)) (Q:aZ),Mm Try.prog M w l r→(∀ bp bc M' w',Mm Try.prog M' w' ((l ++ [(bp,gM p)]) ++ [(bc,dV v)]) r→Q .normal S M' ((a.put (some 4) (.pointer (some ⟨bp,0,none⟩))).put (some 6) (.pointer (some ⟨bc,0,none⟩))) w')→aM Try.prog false 40 .normal (.region 0 (opsOf 0 Try.f40.body) false) Q S M a w:=by
  intro l r Q hm hQ
  refine kG [0,1] (je ae (d:=some 4) (t:=111) (x:=.tmp 0) eI (cells:=#[.pointer (some ⟨p.pb,0,none⟩)]) (by rw [h0];rfl) hm fun bp w hm=>?_)
  refine je ae (d:=some 6) (t:=22) (x:=.tmp 2) eI (cells:=#[v]) (by rw [eN,h2];exact hv1) hm fun bc w hm=>?_
  exact aA (hQ bp bc _ _ hm)
 have main:∀ (bp bc:Nat) (M':Nat→Prop) (w':World),jR Y p wb k ((bp,gM p) :: (bc,dV v) :: rest) n cs S M' w'→aM Try.prog false 40 .normal (.seq (.region 1 (opsOf 1 Try.f40.body) false) (.block 0 (.loop (.seq (.seq (.region 2 (opsOf 2 Try.f40.body) false) (.cond (.tmp 12) .skip (.exit 0))) (.block 1 (.seq (.region 3 (opsOf 3 Try.f40.body) false) (.seq (.region 4 (opsOf 4 Try.f40.body) false) (.seq (.region 5 (opsOf 5 Try.f40.body) true) (.seq (.seq (.region 6 (opsOf 6 Try.f40.body) false) (.cond (.tmp 29) .ret .skip)) (.seq (.region 7 (opsOf 7 Try.f40.body) false) (.region 8 (opsOf 8 Try.f40.body) true))))))))))) (uH Try.prog false 40 .normal (fun e S' M' w'=>e=.returned (.tuple #[])∧S'=nQ Try.prog p∧∃ l,Mm Try.prog M' w' l [])) S M' ((a.put (some 4) (.pointer (some ⟨bp,0,none⟩))).put (some 6) (.pointer (some ⟨bc,0,none⟩))) w':=by
  intro bp bc M w hf
  have sO:∀ x:Nat,((a.put (some 4) (.pointer (some ⟨bp,0,none⟩))).put (some 6) (.pointer (some ⟨bc,0,none⟩))).eval (.tmp x)=if x=6 then .pointer (some ⟨bc,0,none⟩) else if x=4 then .pointer (some ⟨bp,0,none⟩) else a.eval (.tmp x):=fun x=>by rw [lT (by rw [size_put];omega),eP]
  have F8:((a.put (some 4) (.pointer (some ⟨bp,0,none⟩))).put (some 6) (.pointer (some ⟨bc,0,none⟩))).tmps.size=39:=by rw [size_put,size_put];exact hs
  have F9:((a.put (some 4) (.pointer (some ⟨bp,0,none⟩))).put (some 6) (.pointer (some ⟨bc,0,none⟩))).defers=[]:=hd
  obtain ⟨a1,ha1⟩:∃ a1:Act,a1=(a.put (some 4) (.pointer (some ⟨bp,0,none⟩))).put (some 6) (.pointer (some ⟨bc,0,none⟩)):=⟨_,rfl⟩
  rw [← ha1] at sO F8 F9 ⊢
  clear ha1
  obtain ⟨L,R,dO,hback⟩:∃ L R,Mm Try.prog M w L R∧∀ w1,Mm Try.prog M w1 L R→jR Y p wb k ((bp,gM p) :: (bc,dV v) :: rest) n cs S M w1:=by
   unfold jR at hf ⊢
   split at hf
   ·rename_i hc;simp only [hc,if_true];exact ⟨_,_,hf.2,fun w1 h=>⟨hf.1,h⟩⟩
   ·rename_i hc;simp only [hc,if_false];exact ⟨_,_,hf.2,fun w1 h=>⟨hf.1,h⟩⟩
  refine ak (kG [0,1] (kR (d:=some 9) (Ar (fn:=.func 66) (first:=#[]) (cap:=#[.tmp 4,.tmp 6]) (vs:=#[]) (us:=#[.pointer (some ⟨bp,0,none⟩),.pointer (some ⟨bc,0,none⟩)]) ah (by simp [sO])) dO fun w hm=>?_))
  refine FZ ae (d:=none) (x:=.tmp 9) (args:=#[]) (ats:=#[]) eI (f:=.func 66) (vs:=#[]) (us:=#[.pointer (some ⟨bp,0,none⟩),.pointer (some ⟨bc,0,none⟩)]) (ys:=#[]) eV ah ?_
  refine aA (eH (kE (X:=List Y.Call) (r:=InvImage (· < ·) List.length) (InvImage.wf _ Nat.lt_wfRel.wf) (fun cs S M a w=>∃ n,WI p wb k t vd enc [⟨.fn (.func 66) #[.pointer (some ⟨bp,0,none⟩),.pointer (some ⟨bc,0,none⟩)],#[]⟩] bp bc n cs S M a w) cs ⟨n,?_⟩ fun cs S M a w ⟨n,hI⟩=>xc (O8 bF gW hI) fun e S M a w hq=>?_))
  ·have e9:∀ x:Nat,x≠9→(Act.mk ((a1.put (some 9) (.func (.func 66) #[] #[.pointer (some ⟨bp,0,none⟩),.pointer (some ⟨bc,0,none⟩)])).put none undef).tmps [⟨.fn (.func 66) #[.pointer (some ⟨bp,0,none⟩),.pointer (some ⟨bc,0,none⟩)],#[]⟩]).eval (.tmp x)=a1.eval (.tmp x):=fun x hx=>by
    have:=lT (a:=a1) (s:=9) (x:=x) (v:=.func (.func 66) #[] #[.pointer (some ⟨bp,0,none⟩),.pointer (some ⟨bc,0,none⟩)]) ag
    rw [if_neg hx] at this
    exact this
   refine ⟨?_,?_,?_,?_,?_,?_,v,rest,hv,hback w hm⟩
   ·show (a1.put (some 9) _).tmps.size=39
    rw [size_put];exact F8
   ·show _ :: a1.defers=_
    rw [F9];rfl
   ·exact (e9 1 ae).trans ((sO 1).trans h1)
   ·exact (e9 3 ae).trans ((sO 3).trans h3)
   ·exact (e9 4 ae).trans (sO 4)
   ·exact (e9 6 ae).trans (sO 6)
  ·cases e with
   | normal =>
    obtain ⟨n',cs',hlt,hI'⟩:=hq
    exact ⟨cs',hlt,n',hI'⟩
   | exit i =>
    obtain ⟨rfl,hI'⟩:=hq
    obtain ⟨q1,q2,q3,q4,q5,q6,v',rest',⟨o,cap,rfl⟩,rfl,hm'⟩:=hI'
    simp only [Bool.false_eq_true,if_false,if_true]
    refine F4 (KC q2 (g:=66) (xs:=#[.pointer (some ⟨bp,0,none⟩),.pointer (some ⟨bc,0,none⟩)]) (fun w=>F3 Try.func66 af af w) (fun b h=>by cases h) (fun h=>by cases h) (fun h=>by cases h) ?_)
    refine fun cc y9 k1 k2=>Pe (i1:=1) (i2:=2) hm' rfl rfl cc y9 (fun y S' M' w' hq=>k1 y S' M' w' ?_) (fun ch S' M' w' hq=>k2 ch S' M' w' ?_)
    ·obtain ⟨_,rfl,rfl,hm2⟩:=hq
     exact Df Try.func40 (iZ rfl rfl fun w1 hr=>⟨rfl,rfl,_,hm2.rely hr⟩)
    ·cases hq.1
   | ret=>exact hq.elim
   | panic ch=>exact hq.elim
   | goto l=>exact hq.elim
   | outgrown=>exact hq.elim
 unfold jR at hf
 split at hf
 ·rename_i hc
  refine ak (boxes _ _ _ hf.2 fun bp bc M' w' hm=>main bp bc M' w' ?_)
  unfold jR
  simp only [hc,if_true]
  exact ⟨hf.1,hm.perm (F7 [(p.pb,aR p false false),(wb,bY p k)] rest _ _)⟩
 ·rename_i hc
  refine ak (boxes _ _ _ hf.2 fun bp bc M' w' hm=>main bp bc M' w' ?_)
  unfold jR
  simp only [hc,if_false]
  exact ⟨hf.1,hm.perm (F7 [(wb,bY p k)] rest _ _)⟩
end
end Go.Proofs.Ytanploaffndpjaa
namespace Go.Proofs
abbrev Try.link:Go.Conc.Lib.WgLink:={ add:=37,done:=39,wait:=34,relMerge:=58,disable:=47,enable:=49,inBubble:=55,associate:=59,fatal:=60,uOr:=61,uAdd:=62,raceRead:=63,uLoad:=48,uStore:=64,disassociate:=53,semrelease:=65,acquire:=50,isAssociated:=51,uCas:=52,raceWrite:=54,semacquire:=56,orU64:=74,addU64:=75,loadU64:=72,storeU64:=76,casU64:=73,tWg:=97,tWgP:=134,tUP:=138,tAU:=94,tU64:=92,tUint:=136,tU32:=95,tPU32:=142,tPAU:=158,tPU64:=160,tNoCopy:=91,tANoCopy:=59,tAlign64:=60,tAssoc:=146 }
theorem Try.Au:Go.Conc.Lib.WgLib Try.prog Try.link :=
 ⟨Try.func37,Try.func39,Try.func34,Try.func58,Try.func47,Try.func49,Try.func55,Try.func59,Try.func60,Try.func61,Try.func62,Try.func63,Try.func48,Try.func64,Try.func53,Try.func65,Try.func50,Try.func51,Try.func52,Try.func54,Try.func56,Try.func74,Try.func75,Try.func72,Try.func76,Try.func73,Try.underlying134,Try.runUnderlying134,Try.sizeOf134,Try.isAgg134,Try.zeroValue134,Try.underlying138,Try.runUnderlying138,Try.sizeOf138,Try.isAgg138,Try.zeroValue138,Try.underlying146,Try.runUnderlying146,Try.sizeOf146,Try.isAgg146,Try.zeroValue146,Try.underlying97,Try.runUnderlying97,Try.sizeOf97,Try.isAgg97,Try.zeroValue97,Try.underlying94,Try.runUnderlying94,Try.sizeOf94,Try.isAgg94,Try.zeroValue94,Try.underlying92,Try.runUnderlying92,Try.sizeOf92,Try.isAgg92,Try.zeroValue92,Try.underlying136,Try.runUnderlying136,Try.sizeOf136,Try.isAgg136,Try.zeroValue136,Try.underlying95,Try.runUnderlying95,Try.sizeOf95,Try.isAgg95,Try.zeroValue95,Try.underlying142,Try.runUnderlying142,Try.sizeOf142,Try.isAgg142,Try.zeroValue142,Try.underlying158,Try.runUnderlying158,Try.sizeOf158,Try.isAgg158,Try.zeroValue158,Try.underlying160,Try.runUnderlying160,Try.sizeOf160,Try.isAgg160,Try.zeroValue160,Try.underlying0,Try.runUnderlying0,Try.sizeOf0,Try.isAgg0,Try.zeroValue0,Try.underlying3,Try.runUnderlying3,Try.sizeOf3,Try.isAgg3,Try.zeroValue3,Try.underlying4,Try.runUnderlying4,Try.sizeOf4,Try.isAgg4,Try.zeroValue4,Try.underlying9,Try.runUnderlying9,Try.sizeOf9,Try.isAgg9,Try.zeroValue9,Try.underlying20,Try.runUnderlying20,Try.sizeOf20,Try.isAgg20,Try.zeroValue20,Try.underlying21,Try.runUnderlying21,Try.sizeOf21,Try.isAgg21,Try.zeroValue21,af,af⟩
end Go.Proofs

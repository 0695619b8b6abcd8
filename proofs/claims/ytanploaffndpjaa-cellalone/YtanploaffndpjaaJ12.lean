/- Of the proof. -/
import Derived.Test.YtanploaffndpjaaJ11
import Derived.Laws.Tables
import Derived.BigQuiet
set_option maxRecDepth 100000
namespace Go.Proofs.Ytanploaffndpjaa
open Go.RowKit
section
variable {P:Program}{o:Oper}{a:Act}{ρ:Operand→Value}{w w':World}{K:Act→World→Prop}{Q:Exit→Act→World→Prop}{d:Option Nat}
theorem UM {n:String}{x:Operand}{v:Value}(h:o.op=.makeFunc (.method n) #[x] #[])(hx:ρ x=v):(execOp ρ o).run P w=.ok (.value (.func (.method n) #[v] #[])) w:=by
 simp [execOp,h,Instr.makeFunc,hx]
theorem UN {n:String}{x:Operand}{t:TypeId}{v:Value}{us:Array Value}(h:o.op=.nilCheck x)(hx:ρ x=.func (.method n) #[.iface t v] us)(hn:(nilAhead (P.types.size+Made.depth) t v n).run P w=.ok (some false) w):(execOp ρ o).run P w=.ok (.value (.func (.method n) #[.iface t v] us)) w:=by
 simp [execOp,h,hx,hn]
theorem UO {f:FuncId}{fn:Func}{c:Code}{r:Operand}{n:String}{args:Array Operand}{UQ:Array TypeId}{xs:Array Value}{t:TypeId}{dv rc v:Value}{M:World→Prop}(hd:o.dst=d)(h:o.op=.call { callee:=.invoke r n,args:=args,argTypes:=UQ })(hr:a.eval r=.iface t dv)(hm:(method (P.types.size+Made.depth) t dv n).run P w=.ok (f,rc) w)(hx:#[rc] ++ args.map a.eval=xs)
  (hf:P.funcs[f]?=some fn)(hname:(fn.name == "runtime.NumGoroutine")=false)(hb:fn.body=some c)(hc:Calls P f xs w fun e w''=>e=.returned v∧M w'')(hK:∀ w',M w'→K (a.put d v) w'):o.wp P a w K Q:=by
 have hrun:(execOp a.eval o).run P w=.ok (.enter f xs) w:=by
  have h0:(#[Value.iface t dv] ++ args.map a.eval)[0]?=some (.iface t dv):=by
   rw [Array.getElem?_append_left ah]
   rfl
  have h3:(args.map a.eval).extract 0 args.size=args.map a.eval:=by simp
  simp [execOp,h,resolve,invoke,callMethod,hr,h0,h3,hm,hx,Go.MuLone.run_callFunc_enter hf hname hb]
 unfold Oper.wp
 rw [hrun,Oper.upon_enter]
 refine hc.mono ?_
 rintro e w'' ⟨rfl,hM⟩
 rw [hd]
 exact hK w'' hM
end
structure CA (w:World)(xb b n:Nat)(cs:Array Value):Prop where
 x:w.heap[xb]?=some (.cells #[.slice (some ⟨b,0,none⟩) n n] 53 (0,0))
 c:w.heap[b]?=some (.cells cs 62 (0,0))
 size:cs.size=n
structure jl (t:TypeId)(dv:Value)(ok:Bool)(m:Int)(b k:Nat)(cs:Array Value)(y:Int):Prop where
 ex:∃ (f:FuncId) (fn:Func) (c:Code),(∀ w,(method (Try.prog.types.size+Made.depth) t dv "skein/cell.do").run Try.prog w=.ok (f,dv) w)∧(∀ w,(nilAhead (Try.prog.types.size+Made.depth) t dv "skein/cell.do").run Try.prog w=.ok (some false) w)∧Try.prog.funcs[f]?=some fn∧(fn.name == "runtime.NumGoroutine")=false∧fn.body=some c ∧
  ∀ w:World,w.heap[b]?=some (.cells cs 62 (0,0))→Calls Try.prog f #[dv,.pointer none,.pointer (some ⟨b,k,none⟩)] w fun e w'=>e=.returned (dJ ok m 0)∧bM b k cs y w w'
section
variable {xb b n k:Nat}{cs:Array Value}{w:World}{t:TypeId}{dv:Value}{ok:Bool}{m y:Int}
theorem UR (ok:Bool)(n e:Int):(dJ ok n e).cells.all (·.oneCell')=true:=by simp [dJ,Value.cells,Value.oneCell']
theorem US {K:Act→World→Prop}{Q:Exit→Act→World→Prop}{a:Act}{g:Nat}{zs:Array Value}(hs:a.tmps.size=35)(x0:a.eval (.tmp 0)=.pointer (some ⟨xb,0,none⟩))(x1:a.eval (.tmp 1)=.pointer none)(x2:a.eval (.tmp 2)=.int .i64 (k:Nat))(x3:a.eval (.tmp 3)=.iface t dv)(x8:a.eval (.tmp 8)=.pointer (some ⟨g,0,none⟩))(hk:k < n)(hA:CA w xb b n cs)(hg:w.heap[g]?=some (.cells zs 48 (0,0)))(hgb:g≠b)(hz:zs.size=9)(hD:jl t dv ok m b k cs y)
  (UT:∀ a1 w1,a1.tmps.size=35→a1.defers=a.defers→a1.eval (.tmp 8)=.pointer (some ⟨g,0,none⟩)→au [b,g] w w1→w1.heap[b]?=some (.cells (cs.setIfInBounds k (.int .i64 y)) 62 (0,0))→w1.heap[g]?=some (.cells (dJ ok m 0).cells 48 (0,0))→K a1 w1) :
  (Code.region 4 (aL 4 Try.f22.body) true).wp Try.prog (Exit.then K Q) a w:=by
 obtain ⟨f,fn,c,hm1,hm2,hf,hname,hbody,hC⟩:=hD.ex
 have hlt:b < w.heap.size:=lt_of_heap hA.c
 refine UG af [some 23,some 24,some 25,some 26,some 27,some 28,some 29,some 30,some 31,some 32,some 33,some 34,none] (fun kk=>match kk with
   | 0=>.iface t dv
   | 1=>.pointer none
   | 2=>.pointer (some ⟨xb,0,none⟩)
   | 3=>.pointer (some ⟨xb,0,none⟩)
   | 4=>.pointer (some ⟨xb,0,none⟩)
   | 5=>.slice (some ⟨b,0,none⟩) n n
   | 6=>.int .i64 (k:Nat)
   | 7=>.pointer (some ⟨b,k,none⟩)
   | 8=>.func (.method "skein/cell.do") #[.iface t dv] #[]
   | 9=>.func (.method "skein/cell.do") #[.iface t dv] #[]
   | 10=>.iface t dv
   | 11=>dJ ok m 0
   | _=>undef) (by rw [hs];kernel_rfl) [11,12] (fun jj=>match jj with
   | 0=>fun x=>au [] w x
   | 1=>fun x=>au [b] w x∧x.heap[b]?=some (.cells (cs.setIfInBounds k (.int .i64 y)) 62 (0,0))
   | _=>fun x=>au [b,g] w x∧x.heap[b]?=some (.cells (cs.setIfInBounds k (.int .i64 y)) 62 (0,0))∧x.heap[g]?=some (.cells (dJ ok m 0).cells 48 (0,0))) (au.refl _ _).drew ae (by decide +kernel) ?_ ?_ ?_
 ·intro kk gg bq h
  exact (Ux af h).elim
 ·intro kk hkk hgd o ac wa M K ho hd _ hoff hv hpre hL hK
  rcases (by simp at hkk;omega:kk=0∨kk=1∨kk=2∨kk=3∨kk=4∨kk=5∨kk=6∨kk=7∨kk=8∨kk=9∨kk=10∨kk=11∨kk=12) with rfl | rfl | rfl | rfl | rfl | rfl | rfl | rfl | rfl | rfl | rfl | rfl | rfl
  ·obtain ⟨hM,jw,iK,hW,l8⟩:=hL.off ae
   exact lZ hd ((wD (j6 rfl ho)).trans (by rw [(hoff 3 ae).trans x3];rfl)) (hK _ hM)
  ·obtain ⟨hM,jw,iK,hW,l8⟩:=hL.off ae
   exact lZ hd ((wD (j6 rfl ho)).trans (by rw [(hoff 1 ae).trans x1];rfl)) (hK _ hM)
  ·obtain ⟨hM,jw,iK,hW,l8⟩:=hL.off ae
   exact lZ hd ((wD (j6 rfl ho)).trans (by rw [(hoff 0 ae).trans x0];rfl)) (hK _ hM)
  ·obtain ⟨hM,jw,iK,hW,l8⟩:=hL.off ae
   exact lZ hd (Uy (j6 rfl ho) (hv 2 25 rfl af)) (hK _ hM)
  ·obtain ⟨hM,jw,iK,hW,l8⟩:=hL.off ae
   exact lZ hd (UC (j6 rfl ho) (by rw [hv 3 26 rfl af];go_simp)) (hK _ hM)
  ·obtain ⟨hM,jw,iK,hW,l8⟩:=hL.off ae
   have hj:=l8 0 11 rfl (by decide +kernel)
   obtain rfl:jw=0:=by omega
   have hc:wa.cell? ⟨xb,0,none⟩=some (.slice (some ⟨b,0,none⟩) n n):=bW (au.heap hW hA.x ah) 0
   exact lZ hd (Uz (j6 rfl ho) (by rw [hv 4 27 rfl af];go_simp)) (hK _ hM)
  ·obtain ⟨hM,jw,iK,hW,l8⟩:=hL.off ae
   exact lZ hd ((wD (j6 rfl ho)).trans (by rw [(hoff 2 ae).trans x2];rfl)) (hK _ hM)
  ·obtain ⟨hM,jw,iK,hW,l8⟩:=hL.off ae
   exact lZ hd (UD (j6 rfl ho) (by rw [hv 5 28 rfl af,hv 6 29 rfl af];go_simp)) (hK _ hM)
  ·obtain ⟨hM,jw,iK,hW,l8⟩:=hL.off ae
   exact lZ hd (UM (j6 rfl ho) (hv 0 23 rfl af)) (hK _ hM)
  ·obtain ⟨hM,jw,iK,hW,l8⟩:=hL.off ae
   exact lZ hd (UN (j6 rfl ho) (hv 8 31 rfl af) (hm2 _)) (hK _ hM)
  ·obtain ⟨hM,jw,iK,hW,l8⟩:=hL.off ae
   exact lZ hd ((wD (j6 rfl ho)).trans (by rw [hv 0 23 rfl af];rfl)) (hK _ hM)
  ·obtain ⟨hW,rfl⟩:=hL.at_ ae (j:=0) rfl
   have hb1:wa.heap[b]?=some (.cells cs 62 (0,0)):=au.heap hW hA.c ah
   refine UO hd (j6 rfl ho) (hv 10 33 rfl af) (hm1 _) (xs:=#[dv,.pointer none,.pointer (some ⟨b,k,none⟩)]) (by simp only [List.map_toArray,List.map_cons,List.map_nil,hv 1 24 rfl af,hv 7 30 rfl af] <;> rfl) hf hname hbody ((hC wa hb1).mono fun e w2 q=>⟨q.1,?_⟩) hK
   exact ⟨(au.mono hW ah).trans q.2.turned,q.2.blk⟩
  ·obtain ⟨hW,rfl⟩:=hL.at_ ae (j:=1) rfl
   obtain ⟨hW1,hW2⟩:=hW
   have hg1:wa.heap[g]?=some (.cells zs 48 (0,0)):=hW1.heap hg (by simpa using hgb)
   have hst:(Instr.storeAt 48 (.pointer (some ⟨g,0,none⟩)) (dJ ok m 0)).run Try.prog wa=.ok () (wa.setRow g (dJ ok m 0).cells):=by
    have:=run_storeVar_row (P:=Try.prog) wa g 48 48 zs (dJ ok m 0).cells hg1 af (by rw [hz];rfl) (UR _ _ _)
    simp only [Instr.storeAt,Instr.sureAddr]
    exact this
   refine l_skip hd (UA (j6 rfl ho) (by rw [(hoff 8 ae).trans x8,hv 11 34 rfl af];exact hst)) (hK _ ?_)
   have hgn:∀ q:Nat,q≠g→(wa.setRow g (dJ ok m 0).cells).heap[q]?=wa.heap[q]?:=fun q hq=>by
    simp only [World.setRow,Array.getElem?_modify]
    rw [if_neg (fun z=>hq z.symm)]
   refine ⟨(hW1.mono (m:=[b,g]) ah).trans ⟨rfl,rfl,rfl,by simp [World.setRow],fun q _ hq=>hgn q (fun z=>hq (by simp [z]))⟩,(hgn b (fun z=>hgb z.symm)).trans hW2,setRow_heap _ _ _ _ _ _ hg1⟩
 ·intro a1 g1 g2 g3 g4 w1 hW
  exact UT a1 w1 (g1.trans hs) g2 ((UE (g3 8 (fun hm=>by simp at hm))).trans x8) hW.1 hW.2.1 hW.2.2
theorem ny (hA:CA w xb b n cs)(hk:k < n)(hD:jl t dv ok m b k cs y):Calls Try.prog 22 #[.pointer (some ⟨xb,0,none⟩),.pointer none,.int .i64 (k:Nat),.iface t dv] w fun e w'=>e=.returned (dJ ok m 0)∧bM b k cs y w w':=by
 have hx:=lt_of_heap hA.x
 have hb:=lt_of_heap hA.c
 have hc:w.cell? ⟨xb,0,none⟩=some (.slice (some ⟨b,0,none⟩) n n):=bW hA.x 0
 have h1:decide ((k:Int) < 0)=false:=decide_eq_false ag
 have h2:decide ((n:Int)≤(k:Int))=false:=decide_eq_false ag
 go_enter Try.func22,Try.ntmps22
 refine wp_seq_k fun K hK=>?_
 have HK:Hid _:=hK
 clear hK
 go_wp2
 refine HK.out _ _ ?_
 clear HK K
 refine wp_seq_k fun K hK=>?_
 have HK:Hid _:=hK
 clear hK
 go_wp2
 refine HK.out _ _ ?_
 clear HK K
 refine wp_seq (US (g:=w.heap.size) rfl rfl rfl rfl rfl rfl hk (w:=w.alloc _) ⟨jU hA.x _,jU hA.c _,hA.size⟩ (nY _ _) ag rfl hD fun a1 w1 hs hd x8 ht hb1 hg1=>?_)
 refine wp_ret ?_
 refine bodyPost_ret (results_cell_row (P:=Try.prog) (p:=8) rfl a1.tmps w1 w.heap.size 48 (dJ ok m 0).cells (0,0) _ x8 hg1 Try.underlying48 rfl af) hd ⟨rfl,?_,hb1⟩
 exact ((au.refl [b] w).alloc _).inner ht (by intro x hx;simp at hx;rcases hx with rfl | rfl <;> simp)
theorem gB {i:Int}(hA:CA w xb b n cs)(hk:i < 0∨(n:Int)≤i):Calls Try.prog 22 #[.pointer (some ⟨xb,0,none⟩),.pointer none,.int .i64 i,.iface t dv] w fun e w'=>e=.returned (dJ false 0 41)∧au [] w w':=by
 have hx:=lt_of_heap hA.x
 have hc:w.cell? ⟨xb,0,none⟩=some (.slice (some ⟨b,0,none⟩) n n):=bW hA.x 0
 have H1:=mQ
 clear hA
 rcases (by omega:i < 0∨(¬ i < 0∧(n:Int)≤i)) with h | ⟨h,h2⟩
 ·have h1:decide (i < 0)=true:=decide_eq_true h
  clear hk
  go_enter Try.func22,Try.ntmps22
  go_wp2_with (go_at_call 36;refine (H1 _).mono ?_;rintro e x1 ⟨rfl,rfl⟩)
  refine bodyPost_ret (results_cell_row (P:=Try.prog) (p:=8) rfl _ _ w.heap.size 48 (dJ false 0 41).cells (0,0) _ rfl (nY _ _) Try.underlying48 rfl af) rfl ⟨rfl,(au.refl _ _).alloc _⟩
 ·have h1:decide (i < 0)=false:=decide_eq_false h
  have h3:decide ((n:Int)≤i)=true:=decide_eq_true h2
  clear hk
  go_enter Try.func22,Try.ntmps22
  go_wp2_with (go_at_call 36;refine (H1 _).mono ?_;rintro e x1 ⟨rfl,rfl⟩)
  refine bodyPost_ret (results_cell_row (P:=Try.prog) (p:=8) rfl _ _ w.heap.size 48 (dJ false 0 41).cells (0,0) _ rfl (nY _ _) Try.underlying48 rfl af) rfl ⟨rfl,(au.refl _ _).alloc _⟩
end
theorem au.drewN {l:List Nat}{a w:World}{n:Nat}(h:au l a w):au l a (w.drewN n):=⟨h.os,h.tape,h.output,h.size,h.block⟩
section
variable {w:World}{t:TypeId}{dv:Value}{ok:Bool}{m er i:Int}{px:Value}{R:World→Prop}
theorem fZ {xb:Nat}(HD:Calls Try.prog 22 #[.pointer (some ⟨xb,0,none⟩),.pointer none,.int .i64 i,.iface t dv] w fun e w'=>e=.returned (dJ ok m er)∧R w'):Calls Try.prog 21 #[.pointer (some ⟨xb,0,none⟩),.pointer none,.int .i64 i,.iface t dv] w fun e w'=>e=.returned (.tuple #[.int .i64 m,.int .i64 er])∧∃ x,R x∧au [] x w':=by
 unfold dJ at HD
 go_enter Try.func21,Try.ntmps21
 go_wp2_with (first
  | (go_at_call 22;refine HD.mono ?_;rintro e x1 ⟨rfl,hr⟩;have HR:Hid (R x1):=hr;clear hr HD)
  | go_quiet (fail))
 go_ret2
 exact ⟨rfl,_,HR.out,((au.refl [] _).alloc _).drewN⟩
theorem BM {xb:Nat}(HN:Calls Try.prog 21 #[.pointer (some ⟨xb,0,none⟩),.pointer none,.int .i64 i,.iface 71 (.agg #[])] w fun e w'=>e=.returned (.tuple #[.int .i64 m,.int .i64 er])∧R w'):Calls Try.prog 11 #[.pointer (some ⟨xb,0,none⟩),.pointer none,.int .i64 i] w fun e w'=>e=.returned (.tuple #[.int .i64 m,.int .i64 er])∧R w':=by
 go_enter Try.func11,Try.ntmps11
 go_wp2_with (go_at_call 21;refine HN.mono ?_;rintro e x1 ⟨rfl,hr⟩;have HR:Hid (R x1):=hr;clear hr HN)
 go_ret2
 exact ⟨rfl,HR.out⟩
theorem BN {xb:Nat}{v:Int}(HN:Calls Try.prog 21 #[.pointer (some ⟨xb,0,none⟩),.pointer none,.int .i64 i,.iface 75 (.agg #[.int .i64 v])] w fun e w'=>e=.returned (.tuple #[.int .i64 m,.int .i64 er])∧R w'):Calls Try.prog 13 #[.pointer (some ⟨xb,0,none⟩),.pointer none,.int .i64 i,.int .i64 v] w fun e w'=>e=.returned (.tuple #[.int .i64 m,.int .i64 er])∧R w':=by
 go_enter Try.func13,Try.ntmps13
 go_wp2_with (go_at_call 21;refine HN.mono ?_;rintro e x1 ⟨rfl,hr⟩;have HR:Hid (R x1):=hr;clear hr HN)
 go_ret2
 exact ⟨rfl,HR.out⟩
theorem BO {xb:Nat}{v:Int}(HN:Calls Try.prog 21 #[.pointer (some ⟨xb,0,none⟩),.pointer none,.int .i64 i,.iface 76 (.agg #[.int .i64 v])] w fun e w'=>e=.returned (.tuple #[.int .i64 m,.int .i64 er])∧R w'):Calls Try.prog 14 #[.pointer (some ⟨xb,0,none⟩),.pointer none,.int .i64 i,.int .i64 v] w fun e w'=>e=.returned (.tuple #[.int .i64 m,.int .i64 er])∧R w':=by
 go_enter Try.func14,Try.ntmps14
 go_wp2_with (go_at_call 21;refine HN.mono ?_;rintro e x1 ⟨rfl,hr⟩;have HR:Hid (R x1):=hr;clear hr HN)
 go_ret2
 exact ⟨rfl,HR.out⟩
theorem tY {xb:Nat}{v:Int}(HN:Calls Try.prog 21 #[.pointer (some ⟨xb,0,none⟩),.pointer none,.int .i64 i,.iface 79 (.agg #[.int .i64 v])] w fun e w'=>e=.returned (.tuple #[.int .i64 m,.int .i64 er])∧R w'):Calls Try.prog 16 #[.pointer (some ⟨xb,0,none⟩),.pointer none,.int .i64 i,.int .i64 v] w fun e w'=>e=.returned (.tuple #[.int .i64 m,.int .i64 er])∧R w':=by
 go_enter Try.func16,Try.ntmps16
 go_wp2_with (go_at_call 21;refine HN.mono ?_;rintro e x1 ⟨rfl,hr⟩;have HR:Hid (R x1):=hr;clear hr HN)
 go_ret2
 exact ⟨rfl,HR.out⟩
theorem tZ {xb:Nat}{v:Int}(HN:Calls Try.prog 21 #[.pointer (some ⟨xb,0,none⟩),.pointer none,.int .i64 i,.iface 80 (.agg #[.int .i64 v])] w fun e w'=>e=.returned (.tuple #[.int .i64 m,.int .i64 er])∧R w'):Calls Try.prog 17 #[.pointer (some ⟨xb,0,none⟩),.pointer none,.int .i64 i,.int .i64 v] w fun e w'=>e=.returned (.tuple #[.int .i64 m,.int .i64 er])∧R w':=by
 go_enter Try.func17,Try.ntmps17
 go_wp2_with (go_at_call 21;refine HN.mono ?_;rintro e x1 ⟨rfl,hr⟩;have HR:Hid (R x1):=hr;clear hr HN)
 go_ret2
 exact ⟨rfl,HR.out⟩
theorem BP {xb:Nat}{v:Int}(HD:Calls Try.prog 22 #[.pointer (some ⟨xb,0,none⟩),.pointer none,.int .i64 i,.iface 74 (.agg #[.int .i64 v])] w fun e w'=>e=.returned (dJ ok m er)∧R w'):Calls Try.prog 12 #[.pointer (some ⟨xb,0,none⟩),.pointer none,.int .i64 i,.int .i64 v] w fun e w'=>e=.returned (.int .i64 er)∧R w':=by
 have hF:∀ y:World,(Instr.field 48 (.agg #[.int .i64 0,.int .i64 0,.int .i64 0,.bool ok,.int .i64 m,.int .i64 0,.int .i64 er,.slice none 0 0,.slice none 0 0]) 6).run Try.prog y=.ok (.int .i64 er) y:=fun y=>by kernel_rfl
 unfold dJ at HD
 go_enter Try.func12,Try.ntmps12
 go_wp2_with (go_at_call 22;refine HD.mono ?_;rintro e x1 ⟨rfl,hr⟩;have HR:Hid (R x1):=hr;clear hr HD)
 go_ret
 exact ⟨rfl,HR.out⟩
theorem uf {xb:Nat}{o v:Int}(HD:Calls Try.prog 22 #[.pointer (some ⟨xb,0,none⟩),.pointer none,.int .i64 i,.iface 78 (.agg #[.int .i64 o,.int .i64 v])] w fun e w'=>e=.returned (dJ ok m er)∧R w'):Calls Try.prog 15 #[.pointer (some ⟨xb,0,none⟩),.pointer none,.int .i64 i,.int .i64 o,.int .i64 v] w fun e w'=>e=.returned (.tuple #[.bool ok,.int .i64 er])∧∃ x,R x∧au [] x w':=by
 unfold dJ at HD
 go_enter Try.func15,Try.ntmps15
 go_wp2_with (first
  | (go_at_call 22;refine HD.mono ?_;rintro e x1 ⟨rfl,hr⟩;have HR:Hid (R x1):=hr;clear hr HD)
  | go_quiet (fail))
 go_ret2
 exact ⟨rfl,_,HR.out,((au.refl [] _).alloc _).drewN⟩
end
section
variable {b k:Nat}{cs:Array Value}{x v o:Int}
theorem UU (hx:cs[k]?=some (.int .i64 x)):jl 71 (.agg #[]) false x b k cs x:=⟨99,_,_,fun w=>by kernel_rfl,fun w=>by kernel_rfl,Try.func99,af,rfl,fun w hb=>Qc hb hx⟩
theorem UW (hx:cs[k]?=some (.int .i64 x)):jl 74 (.agg #[.int .i64 v]) false 0 b k cs v:=⟨100,_,_,fun w=>by kernel_rfl,fun w=>by kernel_rfl,Try.func100,af,rfl,fun w hb=>Qd hb hx⟩
theorem UX (hx:cs[k]?=some (.int .i64 x)):jl 75 (.agg #[.int .i64 v]) false (wrap64 (x+v)) b k cs (wrap64 (x+v)):=⟨101,_,_,fun w=>by kernel_rfl,fun w=>by kernel_rfl,Try.func101,af,rfl,fun w hb=>Qe hb hx⟩
theorem UY (hx:cs[k]?=some (.int .i64 x)):jl 76 (.agg #[.int .i64 v]) false x b k cs v:=⟨104,_,_,fun w=>by kernel_rfl,fun w=>by kernel_rfl,Try.func104,af,rfl,fun w hb=>Qf hb hx⟩
theorem II (hx:cs[k]?=some (.int .i64 x)):jl 78 (.agg #[.int .i64 o,.int .i64 v]) (decide (x=o)) 0 b k cs (if x=o then v else x):=⟨107,_,_,fun w=>by kernel_rfl,fun w=>by kernel_rfl,Try.func107,af,rfl,fun w hb=>Qg hb hx⟩
theorem IJ (hx:cs[k]?=some (.int .i64 x)):jl 79 (.agg #[.int .i64 v]) false (max x v) b k cs (max x v):=⟨111,_,_,fun w=>by kernel_rfl,fun w=>by kernel_rfl,Try.func111,af,rfl,fun w hb=>Up hb hx⟩
theorem IK (hx:cs[k]?=some (.int .i64 x)):jl 80 (.agg #[.int .i64 v]) false (min x v) b k cs (min x v):=⟨112,_,_,fun w=>by kernel_rfl,fun w=>by kernel_rfl,Try.func112,af,rfl,fun w hb=>Uq hb hx⟩
end
theorem bM.still {b k:Nat}{cs:Array Value}{y:Int}{w x x':World}(h:bM b k cs y w x)(ht:au [] x x'):bM b k cs y w x':=⟨h.turned.trans (ht.mono ah),ht.heap h.blk ah⟩
theorem bQ (w:World)(n:Int):Calls Try.prog 6 #[.int .i64 n] w fun e w'=>e=.returned (.int .i64 n)∧w'=w:=by
 go_enter Try.func6,Try.ntmps6
 go_wp2
 go_ret
 exact ⟨rfl,rfl⟩
structure DA (w:World)(xb b lb n:Nat)(cs:Array Value):Prop where
 c:CA w xb b n cs
 l:w.heap[lb]?=some (.cells cs 3 (0,0))
 nb:lb≠b
 nx:lb≠xb
 bx:b≠xb
structure DL (w:World)(b lb:Nat)(cs':Array Value)(w':World):Prop where
 turned:au [b,lb] w w'
 c:w'.heap[b]?=some (.cells cs' 62 (0,0))
 l:w'.heap[lb]?=some (.cells cs' 3 (0,0))
section
variable {w:World}{xb b lb n k:Nat}{cs:Array Value}{x p1 p2 p3:Int}{pv:Value}
structure l9 (w x1:World)(lb k:Nat)(q0 q1 q2 q3 x:Int):Prop where
 z:w.heap.size < x1.heap.size
 l:lb < x1.heap.size
 c0:x1.cell? ⟨w.heap.size,0,none⟩=some (.int .i64 q0)
 c1:x1.cell? ⟨w.heap.size,1,none⟩=some (.int .i64 q1)
 c2:x1.cell? ⟨w.heap.size,2,none⟩=some (.int .i64 q2)
 c3:x1.cell? ⟨w.heap.size,3,none⟩=some (.int .i64 q3)
 cl:x1.cell? ⟨lb,k,none⟩=some (.int .i64 x)
 fl:x1.frozen? ⟨lb,k,none⟩=false
theorem nA (hA:DA w xb b lb n cs)(hx:cs[k]?=some (.int .i64 x)){q0 q1 q2 q3 y:Int}{x1:World}(hd:bM b k cs y (w.alloc (.cells #[.int .i64 q0,.int .i64 q1,.int .i64 q2,.int .i64 q3,pv] 32 (0,0))) x1):l9 w x1 lb k q0 q1 q2 q3 x:=by
 have hb:=lt_of_heap hA.c.c
 have h1:x1.heap[w.heap.size]?=some (.cells #[.int .i64 q0,.int .i64 q1,.int .i64 q2,.int .i64 q3,pv] 32 (0,0)):=hd.turned.heap (nY _ _) (by simp;omega)
 have h2:x1.heap[lb]?=some (.cells cs 3 (0,0)):=hd.turned.heap (jU hA.l _) (by simpa using hA.nb)
 exact ⟨lt_of_heap h1,lt_of_heap h2,bW h1 0,bW h1 1,bW h1 2,bW h1 3,(bW h2 k).trans hx,mP h2 k⟩
theorem nC (hA:DA w xb b lb n cs){y:Int}{x1:World}{o:Obj}(hd:bM b k cs y (w.alloc o) x1):DL w b lb (cs.setIfInBounds k (.int .i64 y)) (x1.setCell ⟨lb,k,none⟩ (.int .i64 y)):=by
 have h2:x1.heap[lb]?=some (.cells cs 3 (0,0)):=hd.turned.heap (jU hA.l _) (by simpa using hA.nb)
 refine ⟨?_,(P5 (fun e=>hA.nb e.symm) _ _).trans hd.blk,yf h2 k _⟩
 exact (((au.refl [b,lb] w).alloc o).trans (hd.turned.mono ah)).set (.inl ah) _ _
theorem DL.drewN {cs':Array Value}{w':World}{j:Nat}(h:DL w b lb cs' w'):DL w b lb cs' (w'.drewN j):=⟨h.turned.drewN,h.c,h.l⟩
theorem UZ (hA:DA w xb b lb n cs)(hk:k < n)(hx:cs[k]?=some (.int .i64 x)):Calls Try.prog 7 #[.pointer (some ⟨xb,0,none⟩),.slice (some ⟨lb,0,none⟩) n n,.agg #[.int .i64 1,.int .i64 (k:Nat),.int .i64 p2,.int .i64 p3,pv]] w fun e w'=>e=.returned (.bool true)∧DL w b lb (cs.setIfInBounds k (.int .i64 x)) w':=by
 have hl:=lt_of_heap hA.l
 have hc:w.cell? ⟨lb,k,none⟩=some (.int .i64 x):=(bW hA.l k).trans hx
 have h0:(k:Int).toNat=k:=by omega
 have h1:decide (0≤(k:Int))=true:=decide_eq_true ag
 have h2:decide ((k:Int) < (n:Int))=true:=decide_eq_true ag
 have HC:Hid (∀ y:World,au [] w y→Calls Try.prog 11 #[.pointer (some ⟨xb,0,none⟩),.pointer none,.int .i64 (k:Nat)] y fun e w'=>e=.returned (.tuple #[.int .i64 x,.int .i64 0])∧bM b k cs x y w'):=fun y ht=>by
  have hC:CA y xb b n cs:=⟨ht.heap hA.c.x ah,ht.heap hA.c.c ah,hA.c.size⟩
  exact (BM (fZ (ny hC hk (UU hx)))).mono fun e w' q=>⟨q.1,q.2.elim fun _ z=>z.1.still z.2⟩
 have HN:=bQ
 have HA:Hid (∀ x1,bM b k cs x (w.alloc (.cells #[.int .i64 1,.int .i64 (k:Nat),.int .i64 p2,.int .i64 p3,pv] 32 (0,0))) x1→l9 w x1 lb k 1 (k:Nat) p2 p3 x):=fun x1 hd=>nA hA hx hd
 have HF:Hid (∀ o x1,bM b k cs x (w.alloc o) x1→DL w b lb (cs.setIfInBounds k (.int .i64 x)) (x1.setCell ⟨lb,k,none⟩ (.int .i64 x))):=fun o x1 hd=>nC hA hd
 clear hA hx
 go_enter Try.func7,Try.ntmps7
 go_wp2_with (first
  | (go_at_call 11;refine (HC.out _ ((au.refl _ _).alloc _)).mono ?_;rintro e x1 ⟨rfl,hd⟩;have A1:=HA.out _ hd;have D1:=(HF.out _ _ hd);clear hd HA HF HC;obtain ⟨z1,z2,z3,z4,z5,z6,z7,z8⟩:=A1;have D2:Hid _:=D1;clear D1)
  | (go_at_call 6;refine (HN _ _).mono ?_;rintro e x2 ⟨rfl,rfl⟩)
  | go_quiet (fail))
 go_ret
 exact ⟨rfl,D2.out⟩
theorem U0 (hA:DA w xb b lb n cs)(hk:k < n)(hx:cs[k]?=some (.int .i64 x)):Calls Try.prog 7 #[.pointer (some ⟨xb,0,none⟩),.slice (some ⟨lb,0,none⟩) n n,.agg #[.int .i64 2,.int .i64 (k:Nat),.int .i64 p2,.int .i64 p3,pv]] w fun e w'=>e=.returned (.bool true)∧DL w b lb (cs.setIfInBounds k (.int .i64 p2)) w':=by
 have hl:=lt_of_heap hA.l
 have hc:w.cell? ⟨lb,k,none⟩=some (.int .i64 x):=(bW hA.l k).trans hx
 have h0:(k:Int).toNat=k:=by omega
 have h1:decide (0≤(k:Int))=true:=decide_eq_true ag
 have h2:decide ((k:Int) < (n:Int))=true:=decide_eq_true ag
 have HC:Hid (∀ y:World,au [] w y→Calls Try.prog 12 #[.pointer (some ⟨xb,0,none⟩),.pointer none,.int .i64 (k:Nat),.int .i64 p2] y fun e w'=>e=.returned (.int .i64 0)∧bM b k cs p2 y w'):=fun y ht=>by
  have hC:CA y xb b n cs:=⟨ht.heap hA.c.x ah,ht.heap hA.c.c ah,hA.c.size⟩
  exact BP (ny hC hk (UW hx))
 have HN:=bQ
 have HA:Hid (∀ x1,bM b k cs p2 (w.alloc (.cells #[.int .i64 2,.int .i64 (k:Nat),.int .i64 p2,.int .i64 p3,pv] 32 (0,0))) x1→l9 w x1 lb k 2 (k:Nat) p2 p3 x):=fun x1 hd=>nA hA hx hd
 have HF:Hid (∀ o x1,bM b k cs p2 (w.alloc o) x1→DL w b lb (cs.setIfInBounds k (.int .i64 p2)) (x1.setCell ⟨lb,k,none⟩ (.int .i64 p2))):=fun o x1 hd=>nC hA hd
 clear hA hx
 go_enter Try.func7,Try.ntmps7
 go_wp2_with (first
  | (go_at_call 12;refine (HC.out _ ((au.refl _ _).alloc _)).mono ?_;rintro e x1 ⟨rfl,hd⟩;have A1:=HA.out _ hd;have D1:=(HF.out _ _ hd);clear hd HA HF HC;obtain ⟨z1,z2,z3,z4,z5,z6,z7,z8⟩:=A1;have D2:Hid _:=D1;clear D1)
  | (go_at_call 6;refine (HN _ _).mono ?_;rintro e x2 ⟨rfl,rfl⟩)
  | go_quiet (fail))
 go_ret
 exact ⟨rfl,D2.out⟩
theorem U1 (hA:DA w xb b lb n cs)(hk:k < n)(hx:cs[k]?=some (.int .i64 x)):Calls Try.prog 7 #[.pointer (some ⟨xb,0,none⟩),.slice (some ⟨lb,0,none⟩) n n,.agg #[.int .i64 3,.int .i64 (k:Nat),.int .i64 p2,.int .i64 p3,pv]] w fun e w'=>e=.returned (.bool true)∧DL w b lb (cs.setIfInBounds k (.int .i64 (wrap64 (x+p2)))) w':=by
 have hl:=lt_of_heap hA.l
 have hc:w.cell? ⟨lb,k,none⟩=some (.int .i64 x):=(bW hA.l k).trans hx
 have h0:(k:Int).toNat=k:=by omega
 have h1:decide (0≤(k:Int))=true:=decide_eq_true ag
 have h2:decide ((k:Int) < (n:Int))=true:=decide_eq_true ag
 have HC:Hid (∀ y:World,au [] w y→Calls Try.prog 13 #[.pointer (some ⟨xb,0,none⟩),.pointer none,.int .i64 (k:Nat),.int .i64 p2] y fun e w'=>e=.returned (.tuple #[.int .i64 (wrap64 (x+p2)),.int .i64 0])∧bM b k cs (wrap64 (x+p2)) y w'):=fun y ht=>by
  have hC:CA y xb b n cs:=⟨ht.heap hA.c.x ah,ht.heap hA.c.c ah,hA.c.size⟩
  exact (BN (fZ (ny hC hk (UX hx)))).mono fun e w' q=>⟨q.1,q.2.elim fun _ z=>z.1.still z.2⟩
 have HN:=bQ
 have HA:Hid (∀ x1,bM b k cs (wrap64 (x+p2)) (w.alloc (.cells #[.int .i64 3,.int .i64 (k:Nat),.int .i64 p2,.int .i64 p3,pv] 32 (0,0))) x1→l9 w x1 lb k 3 (k:Nat) p2 p3 x):=fun x1 hd=>nA hA hx hd
 have HF:Hid (∀ o x1,bM b k cs (wrap64 (x+p2)) (w.alloc o) x1→DL w b lb (cs.setIfInBounds k (.int .i64 (wrap64 (x+p2)))) (x1.setCell ⟨lb,k,none⟩ (.int .i64 (wrap64 (x+p2))))):=fun o x1 hd=>nC hA hd
 clear hA hx
 go_enter Try.func7,Try.ntmps7
 go_wp2_with (first
  | (go_at_call 13;refine (HC.out _ ((au.refl _ _).alloc _)).mono ?_;rintro e x1 ⟨rfl,hd⟩;have A1:=HA.out _ hd;have D1:=(HF.out _ _ hd);clear hd HA HF HC;obtain ⟨z1,z2,z3,z4,z5,z6,z7,z8⟩:=A1;have D2:Hid _:=D1;clear D1)
  | (go_at_call 6;refine (HN _ _).mono ?_;rintro e x2 ⟨rfl,rfl⟩)
  | go_quiet (fail))
 go_ret
 exact ⟨rfl,D2.out⟩
theorem U2 (hA:DA w xb b lb n cs)(hk:k < n)(hx:cs[k]?=some (.int .i64 x)):Calls Try.prog 7 #[.pointer (some ⟨xb,0,none⟩),.slice (some ⟨lb,0,none⟩) n n,.agg #[.int .i64 4,.int .i64 (k:Nat),.int .i64 p2,.int .i64 p3,pv]] w fun e w'=>e=.returned (.bool true)∧DL w b lb (cs.setIfInBounds k (.int .i64 p2)) w':=by
 have hl:=lt_of_heap hA.l
 have hc:w.cell? ⟨lb,k,none⟩=some (.int .i64 x):=(bW hA.l k).trans hx
 have h0:(k:Int).toNat=k:=by omega
 have h1:decide (0≤(k:Int))=true:=decide_eq_true ag
 have h2:decide ((k:Int) < (n:Int))=true:=decide_eq_true ag
 have HC:Hid (∀ y:World,au [] w y→Calls Try.prog 14 #[.pointer (some ⟨xb,0,none⟩),.pointer none,.int .i64 (k:Nat),.int .i64 p2] y fun e w'=>e=.returned (.tuple #[.int .i64 x,.int .i64 0])∧bM b k cs p2 y w'):=fun y ht=>by
  have hC:CA y xb b n cs:=⟨ht.heap hA.c.x ah,ht.heap hA.c.c ah,hA.c.size⟩
  exact (BO (fZ (ny hC hk (UY hx)))).mono fun e w' q=>⟨q.1,q.2.elim fun _ z=>z.1.still z.2⟩
 have HN:=bQ
 have HA:Hid (∀ x1,bM b k cs p2 (w.alloc (.cells #[.int .i64 4,.int .i64 (k:Nat),.int .i64 p2,.int .i64 p3,pv] 32 (0,0))) x1→l9 w x1 lb k 4 (k:Nat) p2 p3 x):=fun x1 hd=>nA hA hx hd
 have HF:Hid (∀ o x1,bM b k cs p2 (w.alloc o) x1→DL w b lb (cs.setIfInBounds k (.int .i64 p2)) (x1.setCell ⟨lb,k,none⟩ (.int .i64 p2))):=fun o x1 hd=>nC hA hd
 clear hA hx
 go_enter Try.func7,Try.ntmps7
 go_wp2_with (first
  | (go_at_call 14;refine (HC.out _ ((au.refl _ _).alloc _)).mono ?_;rintro e x1 ⟨rfl,hd⟩;have A1:=HA.out _ hd;have D1:=(HF.out _ _ hd);clear hd HA HF HC;obtain ⟨z1,z2,z3,z4,z5,z6,z7,z8⟩:=A1;have D2:Hid _:=D1;clear D1)
  | (go_at_call 6;refine (HN _ _).mono ?_;rintro e x2 ⟨rfl,rfl⟩)
  | go_quiet (fail))
 go_ret
 exact ⟨rfl,D2.out.drewN⟩
theorem U3 (hA:DA w xb b lb n cs)(hk:k < n)(hx:cs[k]?=some (.int .i64 x))(he:x=p2):Calls Try.prog 7 #[.pointer (some ⟨xb,0,none⟩),.slice (some ⟨lb,0,none⟩) n n,.agg #[.int .i64 5,.int .i64 (k:Nat),.int .i64 p2,.int .i64 p3,pv]] w fun e w'=>e=.returned (.bool true)∧DL w b lb (cs.setIfInBounds k (.int .i64 p3)) w':=by
 have hl:=lt_of_heap hA.l
 have hc:w.cell? ⟨lb,k,none⟩=some (.int .i64 x):=(bW hA.l k).trans hx
 have h0:(k:Int).toNat=k:=by omega
 have h1:decide (0≤(k:Int))=true:=decide_eq_true ag
 have h2:decide ((k:Int) < (n:Int))=true:=decide_eq_true ag
 have HC:Hid (∀ y:World,au [] w y→Calls Try.prog 15 #[.pointer (some ⟨xb,0,none⟩),.pointer none,.int .i64 (k:Nat),.int .i64 p2,.int .i64 p3] y fun e w'=>e=.returned (.tuple #[.bool true,.int .i64 0])∧bM b k cs p3 y w'):=fun y ht=>by
  have hC:CA y xb b n cs:=⟨ht.heap hA.c.x ah,ht.heap hA.c.c ah,hA.c.size⟩
  have hD:jl 78 (.agg #[.int .i64 p2,.int .i64 p3]) true 0 b k cs p3:=by
   have:=II (b:=b) (o:=p2) (v:=p3) hx
   rw [if_pos he,decide_eq_true he] at this
   exact this
  exact (uf (ny hC hk hD)).mono fun e w' q=>⟨q.1,q.2.elim fun _ z=>z.1.still z.2⟩
 have HN:=bQ
 have HA:Hid (∀ x1,bM b k cs p3 (w.alloc (.cells #[.int .i64 5,.int .i64 (k:Nat),.int .i64 p2,.int .i64 p3,pv] 32 (0,0))) x1→l9 w x1 lb k 5 (k:Nat) p2 p3 x):=fun x1 hd=>nA hA hx hd
 have HF:Hid (∀ o x1,bM b k cs p3 (w.alloc o) x1→DL w b lb (cs.setIfInBounds k (.int .i64 p3)) (x1.setCell ⟨lb,k,none⟩ (.int .i64 p3))):=fun o x1 hd=>nC hA hd
 clear hA hx
 have hq:(x == p2)=true:=by simpa using he
 subst he
 go_enter Try.func7,Try.ntmps7
 go_wp2_with (first
  | (go_at_call 15;refine (HC.out _ ((au.refl _ _).alloc _)).mono ?_;rintro e x1 ⟨rfl,hd⟩;have A1:=HA.out _ hd;have D1:=(HF.out _ _ hd);clear hd HA HF HC;obtain ⟨z1,z2,z3,z4,z5,z6,z7,z8⟩:=A1;have D2:Hid _:=D1;clear D1)
  | (go_at_call 6;refine (HN _ _).mono ?_;rintro e x2 ⟨rfl,rfl⟩)
  | go_quiet (fail))
 go_ret
 exact ⟨rfl,D2.out⟩
theorem U4 (hA:DA w xb b lb n cs)(hk:k < n)(hx:cs[k]?=some (.int .i64 x))(he:¬ x=p2):Calls Try.prog 7 #[.pointer (some ⟨xb,0,none⟩),.slice (some ⟨lb,0,none⟩) n n,.agg #[.int .i64 5,.int .i64 (k:Nat),.int .i64 p2,.int .i64 p3,pv]] w fun e w'=>e=.returned (.bool true)∧DL w b lb (cs.setIfInBounds k (.int .i64 x)) w':=by
 have hl:=lt_of_heap hA.l
 have hc:w.cell? ⟨lb,k,none⟩=some (.int .i64 x):=(bW hA.l k).trans hx
 have h0:(k:Int).toNat=k:=by omega
 have h1:decide (0≤(k:Int))=true:=decide_eq_true ag
 have h2:decide ((k:Int) < (n:Int))=true:=decide_eq_true ag
 have HC:Hid (∀ y:World,au [] w y→Calls Try.prog 15 #[.pointer (some ⟨xb,0,none⟩),.pointer none,.int .i64 (k:Nat),.int .i64 p2,.int .i64 p3] y fun e w'=>e=.returned (.tuple #[.bool false,.int .i64 0])∧bM b k cs x y w'):=fun y ht=>by
  have hC:CA y xb b n cs:=⟨ht.heap hA.c.x ah,ht.heap hA.c.c ah,hA.c.size⟩
  have hD:jl 78 (.agg #[.int .i64 p2,.int .i64 p3]) false 0 b k cs x:=by
   have:=II (b:=b) (o:=p2) (v:=p3) hx
   rw [if_neg he,decide_eq_false he] at this
   exact this
  exact (uf (ny hC hk hD)).mono fun e w' q=>⟨q.1,q.2.elim fun _ z=>z.1.still z.2⟩
 have HN:=bQ
 have HA:Hid (∀ x1,bM b k cs x (w.alloc (.cells #[.int .i64 5,.int .i64 (k:Nat),.int .i64 p2,.int .i64 p3,pv] 32 (0,0))) x1→l9 w x1 lb k 5 (k:Nat) p2 p3 x):=fun x1 hd=>nA hA hx hd
 have HF:Hid (∀ o x1,bM b k cs x (w.alloc o) x1→DL w b lb (cs.setIfInBounds k (.int .i64 x)) (x1.setCell ⟨lb,k,none⟩ (.int .i64 x))):=fun o x1 hd=>nC hA hd
 clear hA hx
 have hq:(x == p2)=false:=by simpa using he
 go_enter Try.func7,Try.ntmps7
 go_wp2_with (first
  | (go_at_call 15;refine (HC.out _ ((au.refl _ _).alloc _)).mono ?_;rintro e x1 ⟨rfl,hd⟩;have A1:=HA.out _ hd;have D1:=(HF.out _ _ hd);clear hd HA HF HC;obtain ⟨z1,z2,z3,z4,z5,z6,z7,z8⟩:=A1;have D2:Hid _:=D1;clear D1)
  | (go_at_call 6;refine (HN _ _).mono ?_;rintro e x2 ⟨rfl,rfl⟩)
  | go_quiet (fail))
 go_ret
 exact ⟨rfl,D2.out⟩
theorem U5 (hA:DA w xb b lb n cs)(hk:k < n)(hx:cs[k]?=some (.int .i64 x))(he:¬ x < p2):Calls Try.prog 7 #[.pointer (some ⟨xb,0,none⟩),.slice (some ⟨lb,0,none⟩) n n,.agg #[.int .i64 6,.int .i64 (k:Nat),.int .i64 p2,.int .i64 p3,pv]] w fun e w'=>e=.returned (.bool true)∧DL w b lb (cs.setIfInBounds k (.int .i64 x)) w':=by
 have hl:=lt_of_heap hA.l
 have hc:w.cell? ⟨lb,k,none⟩=some (.int .i64 x):=(bW hA.l k).trans hx
 have h0:(k:Int).toNat=k:=by omega
 have h1:decide (0≤(k:Int))=true:=decide_eq_true ag
 have h2:decide ((k:Int) < (n:Int))=true:=decide_eq_true ag
 have HC:Hid (∀ y:World,au [] w y→Calls Try.prog 16 #[.pointer (some ⟨xb,0,none⟩),.pointer none,.int .i64 (k:Nat),.int .i64 p2] y fun e w'=>e=.returned (.tuple #[.int .i64 x,.int .i64 0])∧bM b k cs x y w'):=fun y ht=>by
  have hC:CA y xb b n cs:=⟨ht.heap hA.c.x ah,ht.heap hA.c.c ah,hA.c.size⟩
  have hD:jl 79 (.agg #[.int .i64 p2]) false x b k cs x:=by
   have:=IJ (b:=b) (v:=p2) hx
   rw [show max x p2=x by omega] at this
   exact this
  exact (tY (fZ (ny hC hk hD))).mono fun e w' q=>⟨q.1,q.2.elim fun _ z=>z.1.still z.2⟩
 have HN:=bQ
 have HA:Hid (∀ x1,bM b k cs x (w.alloc (.cells #[.int .i64 6,.int .i64 (k:Nat),.int .i64 p2,.int .i64 p3,pv] 32 (0,0))) x1→l9 w x1 lb k 6 (k:Nat) p2 p3 x):=fun x1 hd=>nA hA hx hd
 have HF:Hid (∀ o x1,bM b k cs x (w.alloc o) x1→DL w b lb (cs.setIfInBounds k (.int .i64 x)) (x1.setCell ⟨lb,k,none⟩ (.int .i64 x))):=fun o x1 hd=>nC hA hd
 clear hA hx
 go_enter Try.func7,Try.ntmps7
 go_wp2_with (first
  | (go_at_call 16;refine (HC.out _ ((au.refl _ _).alloc _)).mono ?_;rintro e x1 ⟨rfl,hd⟩;have A1:=HA.out _ hd;have D1:=(HF.out _ _ hd);clear hd HA HF HC;obtain ⟨z1,z2,z3,z4,z5,z6,z7,z8⟩:=A1;have D2:Hid _:=D1;clear D1)
  | (go_at_call 6;refine (HN _ _).mono ?_;rintro e x2 ⟨rfl,rfl⟩)
  | go_quiet (fail))
 go_ret
 exact ⟨rfl,D2.out⟩
theorem U6 (hA:DA w xb b lb n cs)(hk:k < n)(hx:cs[k]?=some (.int .i64 x))(he:x < p2):Calls Try.prog 7 #[.pointer (some ⟨xb,0,none⟩),.slice (some ⟨lb,0,none⟩) n n,.agg #[.int .i64 6,.int .i64 (k:Nat),.int .i64 p2,.int .i64 p3,pv]] w fun e w'=>e=.returned (.bool true)∧DL w b lb (cs.setIfInBounds k (.int .i64 p2)) w':=by
 have hl:=lt_of_heap hA.l
 have hc:w.cell? ⟨lb,k,none⟩=some (.int .i64 x):=(bW hA.l k).trans hx
 have h0:(k:Int).toNat=k:=by omega
 have h1:decide (0≤(k:Int))=true:=decide_eq_true ag
 have h2:decide ((k:Int) < (n:Int))=true:=decide_eq_true ag
 have HC:Hid (∀ y:World,au [] w y→Calls Try.prog 16 #[.pointer (some ⟨xb,0,none⟩),.pointer none,.int .i64 (k:Nat),.int .i64 p2] y fun e w'=>e=.returned (.tuple #[.int .i64 p2,.int .i64 0])∧bM b k cs p2 y w'):=fun y ht=>by
  have hC:CA y xb b n cs:=⟨ht.heap hA.c.x ah,ht.heap hA.c.c ah,hA.c.size⟩
  have hD:jl 79 (.agg #[.int .i64 p2]) false p2 b k cs p2:=by
   have:=IJ (b:=b) (v:=p2) hx
   rw [show max x p2=p2 by omega] at this
   exact this
  exact (tY (fZ (ny hC hk hD))).mono fun e w' q=>⟨q.1,q.2.elim fun _ z=>z.1.still z.2⟩
 have HN:=bQ
 have HA:Hid (∀ x1,bM b k cs p2 (w.alloc (.cells #[.int .i64 6,.int .i64 (k:Nat),.int .i64 p2,.int .i64 p3,pv] 32 (0,0))) x1→l9 w x1 lb k 6 (k:Nat) p2 p3 x):=fun x1 hd=>nA hA hx hd
 have HF:Hid (∀ o x1,bM b k cs p2 (w.alloc o) x1→DL w b lb (cs.setIfInBounds k (.int .i64 p2)) (x1.setCell ⟨lb,k,none⟩ (.int .i64 p2))):=fun o x1 hd=>nC hA hd
 clear hA hx
 go_enter Try.func7,Try.ntmps7
 go_wp2_with (first
  | (go_at_call 16;refine (HC.out _ ((au.refl _ _).alloc _)).mono ?_;rintro e x1 ⟨rfl,hd⟩;have A1:=HA.out _ hd;have D1:=(HF.out _ _ hd);clear hd HA HF HC;obtain ⟨z1,z2,z3,z4,z5,z6,z7,z8⟩:=A1;have D2:Hid _:=D1;clear D1)
  | (go_at_call 6;refine (HN _ _).mono ?_;rintro e x2 ⟨rfl,rfl⟩)
  | go_quiet (fail))
 go_ret
 exact ⟨rfl,D2.out⟩
theorem U7 (hA:DA w xb b lb n cs)(hk:k < n)(hx:cs[k]?=some (.int .i64 x))(he:¬ p2 < x):Calls Try.prog 7 #[.pointer (some ⟨xb,0,none⟩),.slice (some ⟨lb,0,none⟩) n n,.agg #[.int .i64 7,.int .i64 (k:Nat),.int .i64 p2,.int .i64 p3,pv]] w fun e w'=>e=.returned (.bool true)∧DL w b lb (cs.setIfInBounds k (.int .i64 x)) w':=by
 have hl:=lt_of_heap hA.l
 have hc:w.cell? ⟨lb,k,none⟩=some (.int .i64 x):=(bW hA.l k).trans hx
 have h0:(k:Int).toNat=k:=by omega
 have h1:decide (0≤(k:Int))=true:=decide_eq_true ag
 have h2:decide ((k:Int) < (n:Int))=true:=decide_eq_true ag
 have HC:Hid (∀ y:World,au [] w y→Calls Try.prog 17 #[.pointer (some ⟨xb,0,none⟩),.pointer none,.int .i64 (k:Nat),.int .i64 p2] y fun e w'=>e=.returned (.tuple #[.int .i64 x,.int .i64 0])∧bM b k cs x y w'):=fun y ht=>by
  have hC:CA y xb b n cs:=⟨ht.heap hA.c.x ah,ht.heap hA.c.c ah,hA.c.size⟩
  have hD:jl 80 (.agg #[.int .i64 p2]) false x b k cs x:=by
   have:=IK (b:=b) (v:=p2) hx
   rw [show min x p2=x by omega] at this
   exact this
  exact (tZ (fZ (ny hC hk hD))).mono fun e w' q=>⟨q.1,q.2.elim fun _ z=>z.1.still z.2⟩
 have HN:=bQ
 have HA:Hid (∀ x1,bM b k cs x (w.alloc (.cells #[.int .i64 7,.int .i64 (k:Nat),.int .i64 p2,.int .i64 p3,pv] 32 (0,0))) x1→l9 w x1 lb k 7 (k:Nat) p2 p3 x):=fun x1 hd=>nA hA hx hd
 have HF:Hid (∀ o x1,bM b k cs x (w.alloc o) x1→DL w b lb (cs.setIfInBounds k (.int .i64 x)) (x1.setCell ⟨lb,k,none⟩ (.int .i64 x))):=fun o x1 hd=>nC hA hd
 clear hA hx
 go_enter Try.func7,Try.ntmps7
 go_wp2_with (first
  | (go_at_call 17;refine (HC.out _ ((au.refl _ _).alloc _)).mono ?_;rintro e x1 ⟨rfl,hd⟩;have A1:=HA.out _ hd;have D1:=(HF.out _ _ hd);clear hd HA HF HC;obtain ⟨z1,z2,z3,z4,z5,z6,z7,z8⟩:=A1;have D2:Hid _:=D1;clear D1)
  | (go_at_call 6;refine (HN _ _).mono ?_;rintro e x2 ⟨rfl,rfl⟩)
  | go_quiet (fail))
 go_ret
 exact ⟨rfl,D2.out⟩
theorem U8 (hA:DA w xb b lb n cs)(hk:k < n)(hx:cs[k]?=some (.int .i64 x))(he:p2 < x):Calls Try.prog 7 #[.pointer (some ⟨xb,0,none⟩),.slice (some ⟨lb,0,none⟩) n n,.agg #[.int .i64 7,.int .i64 (k:Nat),.int .i64 p2,.int .i64 p3,pv]] w fun e w'=>e=.returned (.bool true)∧DL w b lb (cs.setIfInBounds k (.int .i64 p2)) w':=by
 have hl:=lt_of_heap hA.l
 have hc:w.cell? ⟨lb,k,none⟩=some (.int .i64 x):=(bW hA.l k).trans hx
 have h0:(k:Int).toNat=k:=by omega
 have h1:decide (0≤(k:Int))=true:=decide_eq_true ag
 have h2:decide ((k:Int) < (n:Int))=true:=decide_eq_true ag
 have HC:Hid (∀ y:World,au [] w y→Calls Try.prog 17 #[.pointer (some ⟨xb,0,none⟩),.pointer none,.int .i64 (k:Nat),.int .i64 p2] y fun e w'=>e=.returned (.tuple #[.int .i64 p2,.int .i64 0])∧bM b k cs p2 y w'):=fun y ht=>by
  have hC:CA y xb b n cs:=⟨ht.heap hA.c.x ah,ht.heap hA.c.c ah,hA.c.size⟩
  have hD:jl 80 (.agg #[.int .i64 p2]) false p2 b k cs p2:=by
   have:=IK (b:=b) (v:=p2) hx
   rw [show min x p2=p2 by omega] at this
   exact this
  exact (tZ (fZ (ny hC hk hD))).mono fun e w' q=>⟨q.1,q.2.elim fun _ z=>z.1.still z.2⟩
 have HN:=bQ
 have HA:Hid (∀ x1,bM b k cs p2 (w.alloc (.cells #[.int .i64 7,.int .i64 (k:Nat),.int .i64 p2,.int .i64 p3,pv] 32 (0,0))) x1→l9 w x1 lb k 7 (k:Nat) p2 p3 x):=fun x1 hd=>nA hA hx hd
 have HF:Hid (∀ o x1,bM b k cs p2 (w.alloc o) x1→DL w b lb (cs.setIfInBounds k (.int .i64 p2)) (x1.setCell ⟨lb,k,none⟩ (.int .i64 p2))):=fun o x1 hd=>nC hA hd
 clear hA hx
 go_enter Try.func7,Try.ntmps7
 go_wp2_with (first
  | (go_at_call 17;refine (HC.out _ ((au.refl _ _).alloc _)).mono ?_;rintro e x1 ⟨rfl,hd⟩;have A1:=HA.out _ hd;have D1:=(HF.out _ _ hd);clear hd HA HF HC;obtain ⟨z1,z2,z3,z4,z5,z6,z7,z8⟩:=A1;have D2:Hid _:=D1;clear D1)
  | (go_at_call 6;refine (HN _ _).mono ?_;rintro e x2 ⟨rfl,rfl⟩)
  | go_quiet (fail))
 go_ret
 exact ⟨rfl,D2.out⟩
end
section
variable {w:World}{xb b lb n:Nat}{cs:Array Value}{q a p2 p3:Int}{pv:Value}
structure gp (w x1:World)(q0 q1 q2 q3:Int):Prop where
 z:w.heap.size < x1.heap.size
 c0:x1.cell? ⟨w.heap.size,0,none⟩=some (.int .i64 q0)
 c1:x1.cell? ⟨w.heap.size,1,none⟩=some (.int .i64 q1)
 c2:x1.cell? ⟨w.heap.size,2,none⟩=some (.int .i64 q2)
 c3:x1.cell? ⟨w.heap.size,3,none⟩=some (.int .i64 q3)
theorem gD {q0 q1 q2 q3:Int}{x1:World}(ht:au [] (w.alloc (.cells #[.int .i64 q0,.int .i64 q1,.int .i64 q2,.int .i64 q3,pv] 32 (0,0))) x1):gp w x1 q0 q1 q2 q3:=by
 have h1:x1.heap[w.heap.size]?=some (.cells #[.int .i64 q0,.int .i64 q1,.int .i64 q2,.int .i64 q3,pv] 32 (0,0)):=ht.heap (nY _ _) ah
 exact ⟨lt_of_heap h1,bW h1 0,bW h1 1,bW h1 2,bW h1 3⟩
theorem fD (hA:DA w xb b lb n cs){x1:World}{o:Obj}(ht:au [] (w.alloc o) x1):DL w b lb cs x1 :=
 ⟨((au.refl [b,lb] w).alloc o).trans (ht.mono ah),ht.heap (jU hA.c.c _) ah,ht.heap (jU hA.l _) ah⟩
theorem U9 (hA:DA w xb b lb n cs)(ha:a < 0):Calls Try.prog 7 #[.pointer (some ⟨xb,0,none⟩),.slice (some ⟨lb,0,none⟩) n n,.agg #[.int .i64 1,.int .i64 a,.int .i64 p2,.int .i64 p3,pv]] w fun e w'=>e=.returned (.bool true)∧DL w b lb cs w':=by
 have h1:decide (0≤a)=false:=decide_eq_false ag
 have HC:Hid (∀ y:World,au [] w y→Calls Try.prog 11 #[.pointer (some ⟨xb,0,none⟩),.pointer none,.int .i64 a] y fun e w'=>e=.returned (.tuple #[.int .i64 0,.int .i64 41])∧au [] y w'):=fun y ht=>by
  have hC:CA y xb b n cs:=⟨ht.heap hA.c.x ah,ht.heap hA.c.c ah,hA.c.size⟩
  exact (BM (fZ (gB hC (.inl ha)))).mono fun e w' q=>⟨q.1,q.2.elim fun _ z=>z.1.trans z.2⟩
 have HN:=bQ
 have HA:Hid (∀ x1,au [] (w.alloc (.cells #[.int .i64 1,.int .i64 a,.int .i64 p2,.int .i64 p3,pv] 32 (0,0))) x1→gp w x1 1 a p2 p3):=fun x1 hd=>gD hd
 have HF:Hid (∀ o x1,au [] (w.alloc o) x1→DL w b lb cs x1):=fun o x1 hd=>fD hA hd
 clear hA
 go_enter Try.func7,Try.ntmps7
 go_wp2_with (first
  | (go_at_call 11;refine (HC.out _ ((au.refl _ _).alloc _)).mono ?_;rintro e x1 ⟨rfl,hd⟩;have A1:=HA.out _ hd;have D1:=(HF.out _ _ hd);clear hd HA HF HC;obtain ⟨z1,z2,z3,z4,z5⟩:=A1;have D2:Hid _:=D1;clear D1)
  | (go_at_call 6;refine (HN _ _).mono ?_;rintro e x2 ⟨rfl,rfl⟩)
  | go_quiet (fail))
 go_ret
 exact ⟨rfl,D2.out⟩
theorem Va (hA:DA w xb b lb n cs)(ha:(n:Int)≤a):Calls Try.prog 7 #[.pointer (some ⟨xb,0,none⟩),.slice (some ⟨lb,0,none⟩) n n,.agg #[.int .i64 1,.int .i64 a,.int .i64 p2,.int .i64 p3,pv]] w fun e w'=>e=.returned (.bool true)∧DL w b lb cs w':=by
 have h1:decide (0≤a)=true:=decide_eq_true ag
 have h2:decide (a < (n:Int))=false:=decide_eq_false ag
 have HC:Hid (∀ y:World,au [] w y→Calls Try.prog 11 #[.pointer (some ⟨xb,0,none⟩),.pointer none,.int .i64 a] y fun e w'=>e=.returned (.tuple #[.int .i64 0,.int .i64 41])∧au [] y w'):=fun y ht=>by
  have hC:CA y xb b n cs:=⟨ht.heap hA.c.x ah,ht.heap hA.c.c ah,hA.c.size⟩
  exact (BM (fZ (gB hC (.inr ha)))).mono fun e w' q=>⟨q.1,q.2.elim fun _ z=>z.1.trans z.2⟩
 have HN:=bQ
 have HA:Hid (∀ x1,au [] (w.alloc (.cells #[.int .i64 1,.int .i64 a,.int .i64 p2,.int .i64 p3,pv] 32 (0,0))) x1→gp w x1 1 a p2 p3):=fun x1 hd=>gD hd
 have HF:Hid (∀ o x1,au [] (w.alloc o) x1→DL w b lb cs x1):=fun o x1 hd=>fD hA hd
 clear hA
 go_enter Try.func7,Try.ntmps7
 go_wp2_with (first
  | (go_at_call 11;refine (HC.out _ ((au.refl _ _).alloc _)).mono ?_;rintro e x1 ⟨rfl,hd⟩;have A1:=HA.out _ hd;have D1:=(HF.out _ _ hd);clear hd HA HF HC;obtain ⟨z1,z2,z3,z4,z5⟩:=A1;have D2:Hid _:=D1;clear D1)
  | (go_at_call 6;refine (HN _ _).mono ?_;rintro e x2 ⟨rfl,rfl⟩)
  | go_quiet (fail))
 go_ret
 exact ⟨rfl,D2.out⟩
theorem Vb (hA:DA w xb b lb n cs)(ha:a < 0):Calls Try.prog 7 #[.pointer (some ⟨xb,0,none⟩),.slice (some ⟨lb,0,none⟩) n n,.agg #[.int .i64 2,.int .i64 a,.int .i64 p2,.int .i64 p3,pv]] w fun e w'=>e=.returned (.bool true)∧DL w b lb cs w':=by
 have h1:decide (0≤a)=false:=decide_eq_false ag
 have HC:Hid (∀ y:World,au [] w y→Calls Try.prog 12 #[.pointer (some ⟨xb,0,none⟩),.pointer none,.int .i64 a,.int .i64 p2] y fun e w'=>e=.returned (.int .i64 41)∧au [] y w'):=fun y ht=>by
  have hC:CA y xb b n cs:=⟨ht.heap hA.c.x ah,ht.heap hA.c.c ah,hA.c.size⟩
  exact BP (gB hC (.inl ha))
 have HN:=bQ
 have HA:Hid (∀ x1,au [] (w.alloc (.cells #[.int .i64 2,.int .i64 a,.int .i64 p2,.int .i64 p3,pv] 32 (0,0))) x1→gp w x1 2 a p2 p3):=fun x1 hd=>gD hd
 have HF:Hid (∀ o x1,au [] (w.alloc o) x1→DL w b lb cs x1):=fun o x1 hd=>fD hA hd
 clear hA
 go_enter Try.func7,Try.ntmps7
 go_wp2_with (first
  | (go_at_call 12;refine (HC.out _ ((au.refl _ _).alloc _)).mono ?_;rintro e x1 ⟨rfl,hd⟩;have A1:=HA.out _ hd;have D1:=(HF.out _ _ hd);clear hd HA HF HC;obtain ⟨z1,z2,z3,z4,z5⟩:=A1;have D2:Hid _:=D1;clear D1)
  | (go_at_call 6;refine (HN _ _).mono ?_;rintro e x2 ⟨rfl,rfl⟩)
  | go_quiet (fail))
 go_ret
 exact ⟨rfl,D2.out⟩
theorem Vd (hA:DA w xb b lb n cs)(ha:(n:Int)≤a):Calls Try.prog 7 #[.pointer (some ⟨xb,0,none⟩),.slice (some ⟨lb,0,none⟩) n n,.agg #[.int .i64 2,.int .i64 a,.int .i64 p2,.int .i64 p3,pv]] w fun e w'=>e=.returned (.bool true)∧DL w b lb cs w':=by
 have h1:decide (0≤a)=true:=decide_eq_true ag
 have h2:decide (a < (n:Int))=false:=decide_eq_false ag
 have HC:Hid (∀ y:World,au [] w y→Calls Try.prog 12 #[.pointer (some ⟨xb,0,none⟩),.pointer none,.int .i64 a,.int .i64 p2] y fun e w'=>e=.returned (.int .i64 41)∧au [] y w'):=fun y ht=>by
  have hC:CA y xb b n cs:=⟨ht.heap hA.c.x ah,ht.heap hA.c.c ah,hA.c.size⟩
  exact BP (gB hC (.inr ha))
 have HN:=bQ
 have HA:Hid (∀ x1,au [] (w.alloc (.cells #[.int .i64 2,.int .i64 a,.int .i64 p2,.int .i64 p3,pv] 32 (0,0))) x1→gp w x1 2 a p2 p3):=fun x1 hd=>gD hd
 have HF:Hid (∀ o x1,au [] (w.alloc o) x1→DL w b lb cs x1):=fun o x1 hd=>fD hA hd
 clear hA
 go_enter Try.func7,Try.ntmps7
 go_wp2_with (first
  | (go_at_call 12;refine (HC.out _ ((au.refl _ _).alloc _)).mono ?_;rintro e x1 ⟨rfl,hd⟩;have A1:=HA.out _ hd;have D1:=(HF.out _ _ hd);clear hd HA HF HC;obtain ⟨z1,z2,z3,z4,z5⟩:=A1;have D2:Hid _:=D1;clear D1)
  | (go_at_call 6;refine (HN _ _).mono ?_;rintro e x2 ⟨rfl,rfl⟩)
  | go_quiet (fail))
 go_ret
 exact ⟨rfl,D2.out⟩
theorem Ve (hA:DA w xb b lb n cs)(ha:a < 0):Calls Try.prog 7 #[.pointer (some ⟨xb,0,none⟩),.slice (some ⟨lb,0,none⟩) n n,.agg #[.int .i64 3,.int .i64 a,.int .i64 p2,.int .i64 p3,pv]] w fun e w'=>e=.returned (.bool true)∧DL w b lb cs w':=by
 have h1:decide (0≤a)=false:=decide_eq_false ag
 have HC:Hid (∀ y:World,au [] w y→Calls Try.prog 13 #[.pointer (some ⟨xb,0,none⟩),.pointer none,.int .i64 a,.int .i64 p2] y fun e w'=>e=.returned (.tuple #[.int .i64 0,.int .i64 41])∧au [] y w'):=fun y ht=>by
  have hC:CA y xb b n cs:=⟨ht.heap hA.c.x ah,ht.heap hA.c.c ah,hA.c.size⟩
  exact (BN (fZ (gB hC (.inl ha)))).mono fun e w' q=>⟨q.1,q.2.elim fun _ z=>z.1.trans z.2⟩
 have HN:=bQ
 have HA:Hid (∀ x1,au [] (w.alloc (.cells #[.int .i64 3,.int .i64 a,.int .i64 p2,.int .i64 p3,pv] 32 (0,0))) x1→gp w x1 3 a p2 p3):=fun x1 hd=>gD hd
 have HF:Hid (∀ o x1,au [] (w.alloc o) x1→DL w b lb cs x1):=fun o x1 hd=>fD hA hd
 clear hA
 go_enter Try.func7,Try.ntmps7
 go_wp2_with (first
  | (go_at_call 13;refine (HC.out _ ((au.refl _ _).alloc _)).mono ?_;rintro e x1 ⟨rfl,hd⟩;have A1:=HA.out _ hd;have D1:=(HF.out _ _ hd);clear hd HA HF HC;obtain ⟨z1,z2,z3,z4,z5⟩:=A1;have D2:Hid _:=D1;clear D1)
  | (go_at_call 6;refine (HN _ _).mono ?_;rintro e x2 ⟨rfl,rfl⟩)
  | go_quiet (fail))
 go_ret
 exact ⟨rfl,D2.out⟩
theorem Vf (hA:DA w xb b lb n cs)(ha:(n:Int)≤a):Calls Try.prog 7 #[.pointer (some ⟨xb,0,none⟩),.slice (some ⟨lb,0,none⟩) n n,.agg #[.int .i64 3,.int .i64 a,.int .i64 p2,.int .i64 p3,pv]] w fun e w'=>e=.returned (.bool true)∧DL w b lb cs w':=by
 have h1:decide (0≤a)=true:=decide_eq_true ag
 have h2:decide (a < (n:Int))=false:=decide_eq_false ag
 have HC:Hid (∀ y:World,au [] w y→Calls Try.prog 13 #[.pointer (some ⟨xb,0,none⟩),.pointer none,.int .i64 a,.int .i64 p2] y fun e w'=>e=.returned (.tuple #[.int .i64 0,.int .i64 41])∧au [] y w'):=fun y ht=>by
  have hC:CA y xb b n cs:=⟨ht.heap hA.c.x ah,ht.heap hA.c.c ah,hA.c.size⟩
  exact (BN (fZ (gB hC (.inr ha)))).mono fun e w' q=>⟨q.1,q.2.elim fun _ z=>z.1.trans z.2⟩
 have HN:=bQ
 have HA:Hid (∀ x1,au [] (w.alloc (.cells #[.int .i64 3,.int .i64 a,.int .i64 p2,.int .i64 p3,pv] 32 (0,0))) x1→gp w x1 3 a p2 p3):=fun x1 hd=>gD hd
 have HF:Hid (∀ o x1,au [] (w.alloc o) x1→DL w b lb cs x1):=fun o x1 hd=>fD hA hd
 clear hA
 go_enter Try.func7,Try.ntmps7
 go_wp2_with (first
  | (go_at_call 13;refine (HC.out _ ((au.refl _ _).alloc _)).mono ?_;rintro e x1 ⟨rfl,hd⟩;have A1:=HA.out _ hd;have D1:=(HF.out _ _ hd);clear hd HA HF HC;obtain ⟨z1,z2,z3,z4,z5⟩:=A1;have D2:Hid _:=D1;clear D1)
  | (go_at_call 6;refine (HN _ _).mono ?_;rintro e x2 ⟨rfl,rfl⟩)
  | go_quiet (fail))
 go_ret
 exact ⟨rfl,D2.out⟩
theorem Vg (hA:DA w xb b lb n cs)(ha:a < 0):Calls Try.prog 7 #[.pointer (some ⟨xb,0,none⟩),.slice (some ⟨lb,0,none⟩) n n,.agg #[.int .i64 4,.int .i64 a,.int .i64 p2,.int .i64 p3,pv]] w fun e w'=>e=.returned (.bool true)∧DL w b lb cs w':=by
 have h1:decide (0≤a)=false:=decide_eq_false ag
 have HC:Hid (∀ y:World,au [] w y→Calls Try.prog 14 #[.pointer (some ⟨xb,0,none⟩),.pointer none,.int .i64 a,.int .i64 p2] y fun e w'=>e=.returned (.tuple #[.int .i64 0,.int .i64 41])∧au [] y w'):=fun y ht=>by
  have hC:CA y xb b n cs:=⟨ht.heap hA.c.x ah,ht.heap hA.c.c ah,hA.c.size⟩
  exact (BO (fZ (gB hC (.inl ha)))).mono fun e w' q=>⟨q.1,q.2.elim fun _ z=>z.1.trans z.2⟩
 have HN:=bQ
 have HA:Hid (∀ x1,au [] (w.alloc (.cells #[.int .i64 4,.int .i64 a,.int .i64 p2,.int .i64 p3,pv] 32 (0,0))) x1→gp w x1 4 a p2 p3):=fun x1 hd=>gD hd
 have HF:Hid (∀ o x1,au [] (w.alloc o) x1→DL w b lb cs x1):=fun o x1 hd=>fD hA hd
 clear hA
 go_enter Try.func7,Try.ntmps7
 go_wp2_with (first
  | (go_at_call 14;refine (HC.out _ ((au.refl _ _).alloc _)).mono ?_;rintro e x1 ⟨rfl,hd⟩;have A1:=HA.out _ hd;have D1:=(HF.out _ _ hd);clear hd HA HF HC;obtain ⟨z1,z2,z3,z4,z5⟩:=A1;have D2:Hid _:=D1;clear D1)
  | (go_at_call 6;refine (HN _ _).mono ?_;rintro e x2 ⟨rfl,rfl⟩)
  | go_quiet (fail))
 go_ret
 exact ⟨rfl,D2.out.drewN⟩
theorem Vh (hA:DA w xb b lb n cs)(ha:(n:Int)≤a):Calls Try.prog 7 #[.pointer (some ⟨xb,0,none⟩),.slice (some ⟨lb,0,none⟩) n n,.agg #[.int .i64 4,.int .i64 a,.int .i64 p2,.int .i64 p3,pv]] w fun e w'=>e=.returned (.bool true)∧DL w b lb cs w':=by
 have h1:decide (0≤a)=true:=decide_eq_true ag
 have h2:decide (a < (n:Int))=false:=decide_eq_false ag
 have HC:Hid (∀ y:World,au [] w y→Calls Try.prog 14 #[.pointer (some ⟨xb,0,none⟩),.pointer none,.int .i64 a,.int .i64 p2] y fun e w'=>e=.returned (.tuple #[.int .i64 0,.int .i64 41])∧au [] y w'):=fun y ht=>by
  have hC:CA y xb b n cs:=⟨ht.heap hA.c.x ah,ht.heap hA.c.c ah,hA.c.size⟩
  exact (BO (fZ (gB hC (.inr ha)))).mono fun e w' q=>⟨q.1,q.2.elim fun _ z=>z.1.trans z.2⟩
 have HN:=bQ
 have HA:Hid (∀ x1,au [] (w.alloc (.cells #[.int .i64 4,.int .i64 a,.int .i64 p2,.int .i64 p3,pv] 32 (0,0))) x1→gp w x1 4 a p2 p3):=fun x1 hd=>gD hd
 have HF:Hid (∀ o x1,au [] (w.alloc o) x1→DL w b lb cs x1):=fun o x1 hd=>fD hA hd
 clear hA
 go_enter Try.func7,Try.ntmps7
 go_wp2_with (first
  | (go_at_call 14;refine (HC.out _ ((au.refl _ _).alloc _)).mono ?_;rintro e x1 ⟨rfl,hd⟩;have A1:=HA.out _ hd;have D1:=(HF.out _ _ hd);clear hd HA HF HC;obtain ⟨z1,z2,z3,z4,z5⟩:=A1;have D2:Hid _:=D1;clear D1)
  | (go_at_call 6;refine (HN _ _).mono ?_;rintro e x2 ⟨rfl,rfl⟩)
  | go_quiet (fail))
 go_ret
 exact ⟨rfl,D2.out.drewN⟩
end
section
variable {w:World}{xb b lb n:Nat}{cs:Array Value}{q a p2 p3:Int}{pv:Value}
theorem Vi (hA:DA w xb b lb n cs)(ha:a < 0)(he:p2=0):Calls Try.prog 7 #[.pointer (some ⟨xb,0,none⟩),.slice (some ⟨lb,0,none⟩) n n,.agg #[.int .i64 5,.int .i64 a,.int .i64 p2,.int .i64 p3,pv]] w fun e w'=>e=.returned (.bool true)∧DL w b lb cs w':=by
 have h1:decide (0≤a)=false:=decide_eq_false ag
 have HC:Hid (∀ y:World,au [] w y→Calls Try.prog 15 #[.pointer (some ⟨xb,0,none⟩),.pointer none,.int .i64 a,.int .i64 p2,.int .i64 p3] y fun e w'=>e=.returned (.tuple #[.bool false,.int .i64 41])∧au [] y w'):=fun y ht=>by
  have hC:CA y xb b n cs:=⟨ht.heap hA.c.x ah,ht.heap hA.c.c ah,hA.c.size⟩
  exact (uf (gB hC (.inl ha))).mono fun e w' q=>⟨q.1,q.2.elim fun _ z=>z.1.trans z.2⟩
 have HN:=bQ
 have HA:Hid (∀ x1,au [] (w.alloc (.cells #[.int .i64 5,.int .i64 a,.int .i64 p2,.int .i64 p3,pv] 32 (0,0))) x1→gp w x1 5 a p2 p3):=fun x1 hd=>gD hd
 have HF:Hid (∀ o x1,au [] (w.alloc o) x1→DL w b lb cs x1):=fun o x1 hd=>fD hA hd
 clear hA
 subst he
 go_enter Try.func7,Try.ntmps7
 go_wp2_with (first
  | (go_at_call 15;refine (HC.out _ ((au.refl _ _).alloc _)).mono ?_;rintro e x1 ⟨rfl,hd⟩;have A1:=HA.out _ hd;have D1:=(HF.out _ _ hd);clear hd HA HF HC;obtain ⟨z1,z2,z3,z4,z5⟩:=A1;have D2:Hid _:=D1;clear D1)
  | (go_at_call 6;refine (HN _ _).mono ?_;rintro e x2 ⟨rfl,rfl⟩)
  | go_quiet (fail))
 go_ret
 exact ⟨rfl,D2.out⟩
theorem Vj (hA:DA w xb b lb n cs)(ha:a < 0)(he:¬ p2=0):Calls Try.prog 7 #[.pointer (some ⟨xb,0,none⟩),.slice (some ⟨lb,0,none⟩) n n,.agg #[.int .i64 5,.int .i64 a,.int .i64 p2,.int .i64 p3,pv]] w fun e w'=>e=.returned (.bool true)∧DL w b lb cs w':=by
 have h1:decide (0≤a)=false:=decide_eq_false ag
 have HC:Hid (∀ y:World,au [] w y→Calls Try.prog 15 #[.pointer (some ⟨xb,0,none⟩),.pointer none,.int .i64 a,.int .i64 p2,.int .i64 p3] y fun e w'=>e=.returned (.tuple #[.bool false,.int .i64 41])∧au [] y w'):=fun y ht=>by
  have hC:CA y xb b n cs:=⟨ht.heap hA.c.x ah,ht.heap hA.c.c ah,hA.c.size⟩
  exact (uf (gB hC (.inl ha))).mono fun e w' q=>⟨q.1,q.2.elim fun _ z=>z.1.trans z.2⟩
 have HN:=bQ
 have HA:Hid (∀ x1,au [] (w.alloc (.cells #[.int .i64 5,.int .i64 a,.int .i64 p2,.int .i64 p3,pv] 32 (0,0))) x1→gp w x1 5 a p2 p3):=fun x1 hd=>gD hd
 have HF:Hid (∀ o x1,au [] (w.alloc o) x1→DL w b lb cs x1):=fun o x1 hd=>fD hA hd
 clear hA
 have hq:((0:Int) == p2)=false:=by simp;omega
 go_enter Try.func7,Try.ntmps7
 go_wp2_with (first
  | (go_at_call 15;refine (HC.out _ ((au.refl _ _).alloc _)).mono ?_;rintro e x1 ⟨rfl,hd⟩;have A1:=HA.out _ hd;have D1:=(HF.out _ _ hd);clear hd HA HF HC;obtain ⟨z1,z2,z3,z4,z5⟩:=A1;have D2:Hid _:=D1;clear D1)
  | (go_at_call 6;refine (HN _ _).mono ?_;rintro e x2 ⟨rfl,rfl⟩)
  | go_quiet (fail))
 go_ret
 exact ⟨rfl,D2.out⟩
theorem Vk (hA:DA w xb b lb n cs)(ha:(n:Int)≤a)(he:p2=0):Calls Try.prog 7 #[.pointer (some ⟨xb,0,none⟩),.slice (some ⟨lb,0,none⟩) n n,.agg #[.int .i64 5,.int .i64 a,.int .i64 p2,.int .i64 p3,pv]] w fun e w'=>e=.returned (.bool true)∧DL w b lb cs w':=by
 have h1:decide (0≤a)=true:=decide_eq_true ag
 have h2:decide (a < (n:Int))=false:=decide_eq_false ag
 have HC:Hid (∀ y:World,au [] w y→Calls Try.prog 15 #[.pointer (some ⟨xb,0,none⟩),.pointer none,.int .i64 a,.int .i64 p2,.int .i64 p3] y fun e w'=>e=.returned (.tuple #[.bool false,.int .i64 41])∧au [] y w'):=fun y ht=>by
  have hC:CA y xb b n cs:=⟨ht.heap hA.c.x ah,ht.heap hA.c.c ah,hA.c.size⟩
  exact (uf (gB hC (.inr ha))).mono fun e w' q=>⟨q.1,q.2.elim fun _ z=>z.1.trans z.2⟩
 have HN:=bQ
 have HA:Hid (∀ x1,au [] (w.alloc (.cells #[.int .i64 5,.int .i64 a,.int .i64 p2,.int .i64 p3,pv] 32 (0,0))) x1→gp w x1 5 a p2 p3):=fun x1 hd=>gD hd
 have HF:Hid (∀ o x1,au [] (w.alloc o) x1→DL w b lb cs x1):=fun o x1 hd=>fD hA hd
 clear hA
 subst he
 go_enter Try.func7,Try.ntmps7
 go_wp2_with (first
  | (go_at_call 15;refine (HC.out _ ((au.refl _ _).alloc _)).mono ?_;rintro e x1 ⟨rfl,hd⟩;have A1:=HA.out _ hd;have D1:=(HF.out _ _ hd);clear hd HA HF HC;obtain ⟨z1,z2,z3,z4,z5⟩:=A1;have D2:Hid _:=D1;clear D1)
  | (go_at_call 6;refine (HN _ _).mono ?_;rintro e x2 ⟨rfl,rfl⟩)
  | go_quiet (fail))
 go_ret
 exact ⟨rfl,D2.out⟩
theorem Vl (hA:DA w xb b lb n cs)(ha:(n:Int)≤a)(he:¬ p2=0):Calls Try.prog 7 #[.pointer (some ⟨xb,0,none⟩),.slice (some ⟨lb,0,none⟩) n n,.agg #[.int .i64 5,.int .i64 a,.int .i64 p2,.int .i64 p3,pv]] w fun e w'=>e=.returned (.bool true)∧DL w b lb cs w':=by
 have h1:decide (0≤a)=true:=decide_eq_true ag
 have h2:decide (a < (n:Int))=false:=decide_eq_false ag
 have HC:Hid (∀ y:World,au [] w y→Calls Try.prog 15 #[.pointer (some ⟨xb,0,none⟩),.pointer none,.int .i64 a,.int .i64 p2,.int .i64 p3] y fun e w'=>e=.returned (.tuple #[.bool false,.int .i64 41])∧au [] y w'):=fun y ht=>by
  have hC:CA y xb b n cs:=⟨ht.heap hA.c.x ah,ht.heap hA.c.c ah,hA.c.size⟩
  exact (uf (gB hC (.inr ha))).mono fun e w' q=>⟨q.1,q.2.elim fun _ z=>z.1.trans z.2⟩
 have HN:=bQ
 have HA:Hid (∀ x1,au [] (w.alloc (.cells #[.int .i64 5,.int .i64 a,.int .i64 p2,.int .i64 p3,pv] 32 (0,0))) x1→gp w x1 5 a p2 p3):=fun x1 hd=>gD hd
 have HF:Hid (∀ o x1,au [] (w.alloc o) x1→DL w b lb cs x1):=fun o x1 hd=>fD hA hd
 clear hA
 have hq:((0:Int) == p2)=false:=by simp;omega
 go_enter Try.func7,Try.ntmps7
 go_wp2_with (first
  | (go_at_call 15;refine (HC.out _ ((au.refl _ _).alloc _)).mono ?_;rintro e x1 ⟨rfl,hd⟩;have A1:=HA.out _ hd;have D1:=(HF.out _ _ hd);clear hd HA HF HC;obtain ⟨z1,z2,z3,z4,z5⟩:=A1;have D2:Hid _:=D1;clear D1)
  | (go_at_call 6;refine (HN _ _).mono ?_;rintro e x2 ⟨rfl,rfl⟩)
  | go_quiet (fail))
 go_ret
 exact ⟨rfl,D2.out⟩
theorem Vm (hA:DA w xb b lb n cs)(ha:a < 0)(he:0 < p2):Calls Try.prog 7 #[.pointer (some ⟨xb,0,none⟩),.slice (some ⟨lb,0,none⟩) n n,.agg #[.int .i64 6,.int .i64 a,.int .i64 p2,.int .i64 p3,pv]] w fun e w'=>e=.returned (.bool true)∧DL w b lb cs w':=by
 have h1:decide (0≤a)=false:=decide_eq_false ag
 have HC:Hid (∀ y:World,au [] w y→Calls Try.prog 16 #[.pointer (some ⟨xb,0,none⟩),.pointer none,.int .i64 a,.int .i64 p2] y fun e w'=>e=.returned (.tuple #[.int .i64 0,.int .i64 41])∧au [] y w'):=fun y ht=>by
  have hC:CA y xb b n cs:=⟨ht.heap hA.c.x ah,ht.heap hA.c.c ah,hA.c.size⟩
  exact (tY (fZ (gB hC (.inl ha)))).mono fun e w' q=>⟨q.1,q.2.elim fun _ z=>z.1.trans z.2⟩
 have HN:=bQ
 have HA:Hid (∀ x1,au [] (w.alloc (.cells #[.int .i64 6,.int .i64 a,.int .i64 p2,.int .i64 p3,pv] 32 (0,0))) x1→gp w x1 6 a p2 p3):=fun x1 hd=>gD hd
 have HF:Hid (∀ o x1,au [] (w.alloc o) x1→DL w b lb cs x1):=fun o x1 hd=>fD hA hd
 clear hA
 go_enter Try.func7,Try.ntmps7
 go_wp2_with (first
  | (go_at_call 16;refine (HC.out _ ((au.refl _ _).alloc _)).mono ?_;rintro e x1 ⟨rfl,hd⟩;have A1:=HA.out _ hd;have D1:=(HF.out _ _ hd);clear hd HA HF HC;obtain ⟨z1,z2,z3,z4,z5⟩:=A1;have D2:Hid _:=D1;clear D1)
  | (go_at_call 6;refine (HN _ _).mono ?_;rintro e x2 ⟨rfl,rfl⟩)
  | go_quiet (fail))
 go_ret
 exact ⟨rfl,D2.out⟩
theorem Vn (hA:DA w xb b lb n cs)(ha:a < 0)(he:¬ 0 < p2):Calls Try.prog 7 #[.pointer (some ⟨xb,0,none⟩),.slice (some ⟨lb,0,none⟩) n n,.agg #[.int .i64 6,.int .i64 a,.int .i64 p2,.int .i64 p3,pv]] w fun e w'=>e=.returned (.bool true)∧DL w b lb cs w':=by
 have h1:decide (0≤a)=false:=decide_eq_false ag
 have HC:Hid (∀ y:World,au [] w y→Calls Try.prog 16 #[.pointer (some ⟨xb,0,none⟩),.pointer none,.int .i64 a,.int .i64 p2] y fun e w'=>e=.returned (.tuple #[.int .i64 0,.int .i64 41])∧au [] y w'):=fun y ht=>by
  have hC:CA y xb b n cs:=⟨ht.heap hA.c.x ah,ht.heap hA.c.c ah,hA.c.size⟩
  exact (tY (fZ (gB hC (.inl ha)))).mono fun e w' q=>⟨q.1,q.2.elim fun _ z=>z.1.trans z.2⟩
 have HN:=bQ
 have HA:Hid (∀ x1,au [] (w.alloc (.cells #[.int .i64 6,.int .i64 a,.int .i64 p2,.int .i64 p3,pv] 32 (0,0))) x1→gp w x1 6 a p2 p3):=fun x1 hd=>gD hd
 have HF:Hid (∀ o x1,au [] (w.alloc o) x1→DL w b lb cs x1):=fun o x1 hd=>fD hA hd
 clear hA
 go_enter Try.func7,Try.ntmps7
 go_wp2_with (first
  | (go_at_call 16;refine (HC.out _ ((au.refl _ _).alloc _)).mono ?_;rintro e x1 ⟨rfl,hd⟩;have A1:=HA.out _ hd;have D1:=(HF.out _ _ hd);clear hd HA HF HC;obtain ⟨z1,z2,z3,z4,z5⟩:=A1;have D2:Hid _:=D1;clear D1)
  | (go_at_call 6;refine (HN _ _).mono ?_;rintro e x2 ⟨rfl,rfl⟩)
  | go_quiet (fail))
 go_ret
 exact ⟨rfl,D2.out⟩
theorem Vo (hA:DA w xb b lb n cs)(ha:(n:Int)≤a)(he:0 < p2):Calls Try.prog 7 #[.pointer (some ⟨xb,0,none⟩),.slice (some ⟨lb,0,none⟩) n n,.agg #[.int .i64 6,.int .i64 a,.int .i64 p2,.int .i64 p3,pv]] w fun e w'=>e=.returned (.bool true)∧DL w b lb cs w':=by
 have h1:decide (0≤a)=true:=decide_eq_true ag
 have h2:decide (a < (n:Int))=false:=decide_eq_false ag
 have HC:Hid (∀ y:World,au [] w y→Calls Try.prog 16 #[.pointer (some ⟨xb,0,none⟩),.pointer none,.int .i64 a,.int .i64 p2] y fun e w'=>e=.returned (.tuple #[.int .i64 0,.int .i64 41])∧au [] y w'):=fun y ht=>by
  have hC:CA y xb b n cs:=⟨ht.heap hA.c.x ah,ht.heap hA.c.c ah,hA.c.size⟩
  exact (tY (fZ (gB hC (.inr ha)))).mono fun e w' q=>⟨q.1,q.2.elim fun _ z=>z.1.trans z.2⟩
 have HN:=bQ
 have HA:Hid (∀ x1,au [] (w.alloc (.cells #[.int .i64 6,.int .i64 a,.int .i64 p2,.int .i64 p3,pv] 32 (0,0))) x1→gp w x1 6 a p2 p3):=fun x1 hd=>gD hd
 have HF:Hid (∀ o x1,au [] (w.alloc o) x1→DL w b lb cs x1):=fun o x1 hd=>fD hA hd
 clear hA
 go_enter Try.func7,Try.ntmps7
 go_wp2_with (first
  | (go_at_call 16;refine (HC.out _ ((au.refl _ _).alloc _)).mono ?_;rintro e x1 ⟨rfl,hd⟩;have A1:=HA.out _ hd;have D1:=(HF.out _ _ hd);clear hd HA HF HC;obtain ⟨z1,z2,z3,z4,z5⟩:=A1;have D2:Hid _:=D1;clear D1)
  | (go_at_call 6;refine (HN _ _).mono ?_;rintro e x2 ⟨rfl,rfl⟩)
  | go_quiet (fail))
 go_ret
 exact ⟨rfl,D2.out⟩
theorem Vp (hA:DA w xb b lb n cs)(ha:(n:Int)≤a)(he:¬ 0 < p2):Calls Try.prog 7 #[.pointer (some ⟨xb,0,none⟩),.slice (some ⟨lb,0,none⟩) n n,.agg #[.int .i64 6,.int .i64 a,.int .i64 p2,.int .i64 p3,pv]] w fun e w'=>e=.returned (.bool true)∧DL w b lb cs w':=by
 have h1:decide (0≤a)=true:=decide_eq_true ag
 have h2:decide (a < (n:Int))=false:=decide_eq_false ag
 have HC:Hid (∀ y:World,au [] w y→Calls Try.prog 16 #[.pointer (some ⟨xb,0,none⟩),.pointer none,.int .i64 a,.int .i64 p2] y fun e w'=>e=.returned (.tuple #[.int .i64 0,.int .i64 41])∧au [] y w'):=fun y ht=>by
  have hC:CA y xb b n cs:=⟨ht.heap hA.c.x ah,ht.heap hA.c.c ah,hA.c.size⟩
  exact (tY (fZ (gB hC (.inr ha)))).mono fun e w' q=>⟨q.1,q.2.elim fun _ z=>z.1.trans z.2⟩
 have HN:=bQ
 have HA:Hid (∀ x1,au [] (w.alloc (.cells #[.int .i64 6,.int .i64 a,.int .i64 p2,.int .i64 p3,pv] 32 (0,0))) x1→gp w x1 6 a p2 p3):=fun x1 hd=>gD hd
 have HF:Hid (∀ o x1,au [] (w.alloc o) x1→DL w b lb cs x1):=fun o x1 hd=>fD hA hd
 clear hA
 go_enter Try.func7,Try.ntmps7
 go_wp2_with (first
  | (go_at_call 16;refine (HC.out _ ((au.refl _ _).alloc _)).mono ?_;rintro e x1 ⟨rfl,hd⟩;have A1:=HA.out _ hd;have D1:=(HF.out _ _ hd);clear hd HA HF HC;obtain ⟨z1,z2,z3,z4,z5⟩:=A1;have D2:Hid _:=D1;clear D1)
  | (go_at_call 6;refine (HN _ _).mono ?_;rintro e x2 ⟨rfl,rfl⟩)
  | go_quiet (fail))
 go_ret
 exact ⟨rfl,D2.out⟩
theorem Vq (hA:DA w xb b lb n cs)(ha:a < 0)(he:p2 < 0):Calls Try.prog 7 #[.pointer (some ⟨xb,0,none⟩),.slice (some ⟨lb,0,none⟩) n n,.agg #[.int .i64 7,.int .i64 a,.int .i64 p2,.int .i64 p3,pv]] w fun e w'=>e=.returned (.bool true)∧DL w b lb cs w':=by
 have h1:decide (0≤a)=false:=decide_eq_false ag
 have HC:Hid (∀ y:World,au [] w y→Calls Try.prog 17 #[.pointer (some ⟨xb,0,none⟩),.pointer none,.int .i64 a,.int .i64 p2] y fun e w'=>e=.returned (.tuple #[.int .i64 0,.int .i64 41])∧au [] y w'):=fun y ht=>by
  have hC:CA y xb b n cs:=⟨ht.heap hA.c.x ah,ht.heap hA.c.c ah,hA.c.size⟩
  exact (tZ (fZ (gB hC (.inl ha)))).mono fun e w' q=>⟨q.1,q.2.elim fun _ z=>z.1.trans z.2⟩
 have HN:=bQ
 have HA:Hid (∀ x1,au [] (w.alloc (.cells #[.int .i64 7,.int .i64 a,.int .i64 p2,.int .i64 p3,pv] 32 (0,0))) x1→gp w x1 7 a p2 p3):=fun x1 hd=>gD hd
 have HF:Hid (∀ o x1,au [] (w.alloc o) x1→DL w b lb cs x1):=fun o x1 hd=>fD hA hd
 clear hA
 go_enter Try.func7,Try.ntmps7
 go_wp2_with (first
  | (go_at_call 17;refine (HC.out _ ((au.refl _ _).alloc _)).mono ?_;rintro e x1 ⟨rfl,hd⟩;have A1:=HA.out _ hd;have D1:=(HF.out _ _ hd);clear hd HA HF HC;obtain ⟨z1,z2,z3,z4,z5⟩:=A1;have D2:Hid _:=D1;clear D1)
  | (go_at_call 6;refine (HN _ _).mono ?_;rintro e x2 ⟨rfl,rfl⟩)
  | go_quiet (fail))
 go_ret
 exact ⟨rfl,D2.out⟩
theorem Vr (hA:DA w xb b lb n cs)(ha:a < 0)(he:¬ p2 < 0):Calls Try.prog 7 #[.pointer (some ⟨xb,0,none⟩),.slice (some ⟨lb,0,none⟩) n n,.agg #[.int .i64 7,.int .i64 a,.int .i64 p2,.int .i64 p3,pv]] w fun e w'=>e=.returned (.bool true)∧DL w b lb cs w':=by
 have h1:decide (0≤a)=false:=decide_eq_false ag
 have HC:Hid (∀ y:World,au [] w y→Calls Try.prog 17 #[.pointer (some ⟨xb,0,none⟩),.pointer none,.int .i64 a,.int .i64 p2] y fun e w'=>e=.returned (.tuple #[.int .i64 0,.int .i64 41])∧au [] y w'):=fun y ht=>by
  have hC:CA y xb b n cs:=⟨ht.heap hA.c.x ah,ht.heap hA.c.c ah,hA.c.size⟩
  exact (tZ (fZ (gB hC (.inl ha)))).mono fun e w' q=>⟨q.1,q.2.elim fun _ z=>z.1.trans z.2⟩
 have HN:=bQ
 have HA:Hid (∀ x1,au [] (w.alloc (.cells #[.int .i64 7,.int .i64 a,.int .i64 p2,.int .i64 p3,pv] 32 (0,0))) x1→gp w x1 7 a p2 p3):=fun x1 hd=>gD hd
 have HF:Hid (∀ o x1,au [] (w.alloc o) x1→DL w b lb cs x1):=fun o x1 hd=>fD hA hd
 clear hA
 go_enter Try.func7,Try.ntmps7
 go_wp2_with (first
  | (go_at_call 17;refine (HC.out _ ((au.refl _ _).alloc _)).mono ?_;rintro e x1 ⟨rfl,hd⟩;have A1:=HA.out _ hd;have D1:=(HF.out _ _ hd);clear hd HA HF HC;obtain ⟨z1,z2,z3,z4,z5⟩:=A1;have D2:Hid _:=D1;clear D1)
  | (go_at_call 6;refine (HN _ _).mono ?_;rintro e x2 ⟨rfl,rfl⟩)
  | go_quiet (fail))
 go_ret
 exact ⟨rfl,D2.out⟩
theorem Vs (hA:DA w xb b lb n cs)(ha:(n:Int)≤a)(he:p2 < 0):Calls Try.prog 7 #[.pointer (some ⟨xb,0,none⟩),.slice (some ⟨lb,0,none⟩) n n,.agg #[.int .i64 7,.int .i64 a,.int .i64 p2,.int .i64 p3,pv]] w fun e w'=>e=.returned (.bool true)∧DL w b lb cs w':=by
 have h1:decide (0≤a)=true:=decide_eq_true ag
 have h2:decide (a < (n:Int))=false:=decide_eq_false ag
 have HC:Hid (∀ y:World,au [] w y→Calls Try.prog 17 #[.pointer (some ⟨xb,0,none⟩),.pointer none,.int .i64 a,.int .i64 p2] y fun e w'=>e=.returned (.tuple #[.int .i64 0,.int .i64 41])∧au [] y w'):=fun y ht=>by
  have hC:CA y xb b n cs:=⟨ht.heap hA.c.x ah,ht.heap hA.c.c ah,hA.c.size⟩
  exact (tZ (fZ (gB hC (.inr ha)))).mono fun e w' q=>⟨q.1,q.2.elim fun _ z=>z.1.trans z.2⟩
 have HN:=bQ
 have HA:Hid (∀ x1,au [] (w.alloc (.cells #[.int .i64 7,.int .i64 a,.int .i64 p2,.int .i64 p3,pv] 32 (0,0))) x1→gp w x1 7 a p2 p3):=fun x1 hd=>gD hd
 have HF:Hid (∀ o x1,au [] (w.alloc o) x1→DL w b lb cs x1):=fun o x1 hd=>fD hA hd
 clear hA
 go_enter Try.func7,Try.ntmps7
 go_wp2_with (first
  | (go_at_call 17;refine (HC.out _ ((au.refl _ _).alloc _)).mono ?_;rintro e x1 ⟨rfl,hd⟩;have A1:=HA.out _ hd;have D1:=(HF.out _ _ hd);clear hd HA HF HC;obtain ⟨z1,z2,z3,z4,z5⟩:=A1;have D2:Hid _:=D1;clear D1)
  | (go_at_call 6;refine (HN _ _).mono ?_;rintro e x2 ⟨rfl,rfl⟩)
  | go_quiet (fail))
 go_ret
 exact ⟨rfl,D2.out⟩
theorem Vt (hA:DA w xb b lb n cs)(ha:(n:Int)≤a)(he:¬ p2 < 0):Calls Try.prog 7 #[.pointer (some ⟨xb,0,none⟩),.slice (some ⟨lb,0,none⟩) n n,.agg #[.int .i64 7,.int .i64 a,.int .i64 p2,.int .i64 p3,pv]] w fun e w'=>e=.returned (.bool true)∧DL w b lb cs w':=by
 have h1:decide (0≤a)=true:=decide_eq_true ag
 have h2:decide (a < (n:Int))=false:=decide_eq_false ag
 have HC:Hid (∀ y:World,au [] w y→Calls Try.prog 17 #[.pointer (some ⟨xb,0,none⟩),.pointer none,.int .i64 a,.int .i64 p2] y fun e w'=>e=.returned (.tuple #[.int .i64 0,.int .i64 41])∧au [] y w'):=fun y ht=>by
  have hC:CA y xb b n cs:=⟨ht.heap hA.c.x ah,ht.heap hA.c.c ah,hA.c.size⟩
  exact (tZ (fZ (gB hC (.inr ha)))).mono fun e w' q=>⟨q.1,q.2.elim fun _ z=>z.1.trans z.2⟩
 have HN:=bQ
 have HA:Hid (∀ x1,au [] (w.alloc (.cells #[.int .i64 7,.int .i64 a,.int .i64 p2,.int .i64 p3,pv] 32 (0,0))) x1→gp w x1 7 a p2 p3):=fun x1 hd=>gD hd
 have HF:Hid (∀ o x1,au [] (w.alloc o) x1→DL w b lb cs x1):=fun o x1 hd=>fD hA hd
 clear hA
 go_enter Try.func7,Try.ntmps7
 go_wp2_with (first
  | (go_at_call 17;refine (HC.out _ ((au.refl _ _).alloc _)).mono ?_;rintro e x1 ⟨rfl,hd⟩;have A1:=HA.out _ hd;have D1:=(HF.out _ _ hd);clear hd HA HF HC;obtain ⟨z1,z2,z3,z4,z5⟩:=A1;have D2:Hid _:=D1;clear D1)
  | (go_at_call 6;refine (HN _ _).mono ?_;rintro e x2 ⟨rfl,rfl⟩)
  | go_quiet (fail))
 go_ret
 exact ⟨rfl,D2.out⟩
theorem Vu (hA:DA w xb b lb n cs)(ha:a < 0)(hq:q < 1∨7 < q):Calls Try.prog 7 #[.pointer (some ⟨xb,0,none⟩),.slice (some ⟨lb,0,none⟩) n n,.agg #[.int .i64 q,.int .i64 a,.int .i64 p2,.int .i64 p3,pv]] w fun e w'=>e=.returned (.bool true)∧DL w b lb cs w':=by
 have h1:decide (0≤a)=false:=decide_eq_false ag
 have e1:(q == 1)=false:=by simp;omega
 have e2:(q == 2)=false:=by simp;omega
 have e3:(q == 3)=false:=by simp;omega
 have e4:(q == 4)=false:=by simp;omega
 have e5:(q == 5)=false:=by simp;omega
 have e6:(q == 6)=false:=by simp;omega
 have e7:(q == 7)=false:=by simp;omega
 have HF:Hid (∀ o,DL w b lb cs (w.alloc o)):=fun o=>fD hA (au.refl _ _)
 clear hA hq
 go_enter Try.func7,Try.ntmps7
 go_wp2
 go_ret
 exact ⟨rfl,HF.out _⟩
theorem Vv (hA:DA w xb b lb n cs)(ha:(n:Int)≤a)(hq:q < 1∨7 < q):Calls Try.prog 7 #[.pointer (some ⟨xb,0,none⟩),.slice (some ⟨lb,0,none⟩) n n,.agg #[.int .i64 q,.int .i64 a,.int .i64 p2,.int .i64 p3,pv]] w fun e w'=>e=.returned (.bool true)∧DL w b lb cs w':=by
 have h1:decide (0≤a)=true:=decide_eq_true ag
 have h2:decide (a < (n:Int))=false:=decide_eq_false ag
 have e1:(q == 1)=false:=by simp;omega
 have e2:(q == 2)=false:=by simp;omega
 have e3:(q == 3)=false:=by simp;omega
 have e4:(q == 4)=false:=by simp;omega
 have e5:(q == 5)=false:=by simp;omega
 have e6:(q == 6)=false:=by simp;omega
 have e7:(q == 7)=false:=by simp;omega
 have HF:Hid (∀ o,DL w b lb cs (w.alloc o)):=fun o=>fD hA (au.refl _ _)
 clear hA hq
 go_enter Try.func7,Try.ntmps7
 go_wp2
 go_ret
 exact ⟨rfl,HF.out _⟩
theorem Vw {k:Nat}{x:Int}(hA:DA w xb b lb n cs)(hk:k < n)(hx:cs[k]?=some (.int .i64 x))(hq:q < 1∨7 < q):Calls Try.prog 7 #[.pointer (some ⟨xb,0,none⟩),.slice (some ⟨lb,0,none⟩) n n,.agg #[.int .i64 q,.int .i64 (k:Nat),.int .i64 p2,.int .i64 p3,pv]] w fun e w'=>e=.returned (.bool true)∧DL w b lb cs w':=by
 have hl:=lt_of_heap hA.l
 have hc:w.cell? ⟨lb,k,none⟩=some (.int .i64 x):=(bW hA.l k).trans hx
 have h0:(k:Int).toNat=k:=by omega
 have h1:decide (0≤(k:Int))=true:=decide_eq_true ag
 have h2:decide ((k:Int) < (n:Int))=true:=decide_eq_true ag
 have e1:(q == 1)=false:=by simp;omega
 have e2:(q == 2)=false:=by simp;omega
 have e3:(q == 3)=false:=by simp;omega
 have e4:(q == 4)=false:=by simp;omega
 have e5:(q == 5)=false:=by simp;omega
 have e6:(q == 6)=false:=by simp;omega
 have e7:(q == 7)=false:=by simp;omega
 have HF:Hid (∀ o,DL w b lb cs (w.alloc o)):=fun o=>fD hA (au.refl _ _)
 clear hA hq hx
 go_enter Try.func7,Try.ntmps7
 go_wp2
 go_ret
 exact ⟨rfl,HF.out _⟩
end
def gq (cs:Array Value):Prop:=∀ i,i < cs.size→∃ x:Int,cs[i]?=some (.int .i64 x)
theorem gq.set {cs:Array Value}(h:gq cs)(k:Nat)(y:Int):gq (cs.setIfInBounds k (.int .i64 y)):=fun i hi=>by
 rw [Array.getElem?_setIfInBounds]
 have hi':i < cs.size:=by simpa using hi
 by_cases e:k=i
 ·rw [if_pos e,if_pos ag];exact ⟨y,rfl⟩
 ·rw [if_neg e];exact h i hi'
theorem IL {w:World}{xb b lb n:Nat}{cs:Array Value}{q a p2 p3:Int}{pv:Value}(hA:DA w xb b lb n cs)(hI:gq cs):Calls Try.prog 7 #[.pointer (some ⟨xb,0,none⟩),.slice (some ⟨lb,0,none⟩) n n,.agg #[.int .i64 q,.int .i64 a,.int .i64 p2,.int .i64 p3,pv]] w fun e w'=>e=.returned (.bool true)∧∃ cs',cs'.size=cs.size∧gq cs'∧DL w b lb cs' w':=by
 have stay:∀ {e:Ending} {w':World},(e=.returned (.bool true)∧DL w b lb cs w')→(e=.returned (.bool true)∧∃ cs',cs'.size=cs.size∧gq cs'∧DL w b lb cs' w'):=fun h=>⟨h.1,cs,rfl,hI,h.2⟩
 rcases (by omega:a < 0∨(n:Int)≤a∨(0≤a∧a < n)) with ha | ha | ⟨ha,ha2⟩
 ·rcases (by omega:q=1∨q=2∨q=3∨q=4∨q=5∨q=6∨q=7∨(q < 1∨7 < q)) with rfl | rfl | rfl | rfl | rfl | rfl | rfl | hq
  ·exact (U9 hA ha).mono fun _ _ h=>stay h
  ·exact (Vb hA ha).mono fun _ _ h=>stay h
  ·exact (Ve hA ha).mono fun _ _ h=>stay h
  ·exact (Vg hA ha).mono fun _ _ h=>stay h
  ·by_cases he:p2=0
   ·exact (Vi hA ha he).mono fun _ _ h=>stay h
   ·exact (Vj hA ha he).mono fun _ _ h=>stay h
  ·by_cases he:0 < p2
   ·exact (Vm hA ha he).mono fun _ _ h=>stay h
   ·exact (Vn hA ha he).mono fun _ _ h=>stay h
  ·by_cases he:p2 < 0
   ·exact (Vq hA ha he).mono fun _ _ h=>stay h
   ·exact (Vr hA ha he).mono fun _ _ h=>stay h
  ·exact (Vu hA ha hq).mono fun _ _ h=>stay h
 ·rcases (by omega:q=1∨q=2∨q=3∨q=4∨q=5∨q=6∨q=7∨(q < 1∨7 < q)) with rfl | rfl | rfl | rfl | rfl | rfl | rfl | hq
  ·exact (Va hA ha).mono fun _ _ h=>stay h
  ·exact (Vd hA ha).mono fun _ _ h=>stay h
  ·exact (Vf hA ha).mono fun _ _ h=>stay h
  ·exact (Vh hA ha).mono fun _ _ h=>stay h
  ·by_cases he:p2=0
   ·exact (Vk hA ha he).mono fun _ _ h=>stay h
   ·exact (Vl hA ha he).mono fun _ _ h=>stay h
  ·by_cases he:0 < p2
   ·exact (Vo hA ha he).mono fun _ _ h=>stay h
   ·exact (Vp hA ha he).mono fun _ _ h=>stay h
  ·by_cases he:p2 < 0
   ·exact (Vs hA ha he).mono fun _ _ h=>stay h
   ·exact (Vt hA ha he).mono fun _ _ h=>stay h
  ·exact (Vv hA ha hq).mono fun _ _ h=>stay h
 ·obtain ⟨k,rfl⟩:∃ k:Nat,a=k:=⟨a.toNat,ag⟩
  have hk:k < n:=by omega
  obtain ⟨x,hx⟩:=hI k (by rw [hA.c.size];exact hk)
  have turn:∀ {e:Ending} {w':World} (y:Int),(e=.returned (.bool true)∧DL w b lb (cs.setIfInBounds k (.int .i64 y)) w')→(e=.returned (.bool true)∧∃ cs',cs'.size=cs.size∧gq cs'∧DL w b lb cs' w'):=fun y h=>⟨h.1,_,ah,hI.set k y,h.2⟩
  rcases (by omega:q=1∨q=2∨q=3∨q=4∨q=5∨q=6∨q=7∨(q < 1∨7 < q)) with rfl | rfl | rfl | rfl | rfl | rfl | rfl | hq
  ·exact (UZ hA hk hx).mono fun _ _ h=>turn _ h
  ·exact (U0 hA hk hx).mono fun _ _ h=>turn _ h
  ·exact (U1 hA hk hx).mono fun _ _ h=>turn _ h
  ·exact (U2 hA hk hx).mono fun _ _ h=>turn _ h
  ·by_cases he:x=p2
   ·exact (U3 hA hk hx he).mono fun _ _ h=>turn _ h
   ·exact (U4 hA hk hx he).mono fun _ _ h=>turn _ h
  ·by_cases he:x < p2
   ·exact (U6 hA hk hx he).mono fun _ _ h=>turn _ h
   ·exact (U5 hA hk hx he).mono fun _ _ h=>turn _ h
  ·by_cases he:p2 < x
   ·exact (U8 hA hk hx he).mono fun _ _ h=>turn _ h
   ·exact (U7 hA hk hx he).mono fun _ _ h=>turn _ h
  ·exact (Vw hA hk hx hq).mono fun _ _ h=>stay h
end Go.Proofs.Ytanploaffndpjaa

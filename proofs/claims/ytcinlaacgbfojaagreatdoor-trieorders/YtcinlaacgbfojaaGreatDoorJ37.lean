/- Package trie's Walk, the iterator: its rounds. -/
import Derived.Test.YtcinlaacgbfojaaGreatDoorJ36
import Derived.Test.YtcinlaacgbfojaaGreatDoorJ24
import Derived.Test.YtcinlaacgbfojaaGreatDoorJ03
import Derived.Test.YtcinlaacgbfojaaGreatDoorJ29
import Derived.Test.YtcinlaacgbfojaaGreatDoorJ27
import Derived.Test.YtcinlaacgbfojaaGreatDoorJ34
namespace Go.Proofs.YtcinlaacgbfojaaGreatDoor
open Go.RowKit Go.Shelf
attribute [local go_sem] Oper.semAt_some
abbrev yBox (fy:FuncId) (cy:Array Value):Obj:=.cells #[.func (.func fy) #[] cy] 158 (0,0)
theorem load_leaf {w:World} {b:Nat} {kk vv:Int} (h:w.heap[b]?=some (.cells #[.int .i64 kk,.int .i64 vv] 89 (0,0))):(Instr.loadAt 89 (pa b 0)).run Tryz.prog w=.ok (.agg #[.int .i64 kk,.int .i64 vv]) w:=by
 obtain ⟨⟨c0,c1⟩,-⟩:=cells2 h
 unfold pa
 go_simp
theorem cLeaves (tb:Nat) (h a b lo hi:Int) (w:World):Calls Tryz.prog 75 #[pt tb,.pointer none,.agg #[.int .i64 h,.int .i64 a,.int .i64 b,.nilIface],.agg #[.int .i64 lo,.int .i64 hi]] w fun e w'=>e=.returned (.func (.func 98) #[] #[.pointer (some ⟨w.heap.size,0,none⟩),.pointer (some ⟨w.heap.size+1,0,none⟩),.pointer (some ⟨w.heap.size+1+1,0,none⟩),.pointer (some ⟨w.heap.size+1+1+1,0,none⟩)])∧w'=(((w.alloc (.cells #[pt tb] 35 (0,0))).alloc (.cells #[.pointer none] 82 (0,0))).alloc (.cells #[.int .i64 h,.int .i64 a,.int .i64 b,.nilIface] 97 (0,0))).alloc (.cells #[.int .i64 lo,.int .i64 hi] 93 (0,0)):=by
 go_enter Tryz.func75,Tryz.ntmps75
 go_wp2
 go_ret
 exact ⟨rfl,rfl⟩
section
variable {x:World} {a:Act} {l yb lf:Nat} {kk vv:Int} {fy:FuncId} {cy:Array Value} {E:Exit→Act→World→Prop}
set_option maxRecDepth 100000 in
set_option maxHeartbeats 1600000 in
theorem walk_Y (hs:a.tmps.size=40) (hd:a.defers=[]) (x6:a.eval (.tmp 6)=.pointer (some ⟨yb,0,none⟩)) (x7:a.eval (.tmp 7)=.pointer (some ⟨lf,0,none⟩)) (x8:a.eval (.tmp 8)=.int .i64 0) (hyb:x.heap[yb]?=some (yBox fy cy)) (hlf:x.heap[lf]?=some (.cells #[.int .i64 kk,.int .i64 vv] 89 (0,0))) (hEnt:Enterable Tryz.prog fy)
  {Rz:World→World→Prop} (hC:∀ y,Turned [] x y→Calls Tryz.prog fy (#[.agg #[.int .i64 kk,.int .i64 vv],.int .i64 0] ++ cy) y fun e z=>e=.returned (.bool true)∧Rz y z) (hZ:∀ y z,Turned [] x y→Rz y z→z.heap[yb]?=some (yBox fy cy)∧z.heap[lf]?=some (.cells #[.int .i64 kk,.int .i64 vv] 89 (0,0)))
  (hE:∀ a' y z,Turned [] x y→Rz y z→E .normal a' z):((match atc Tryz.f74.body [1,1,1,1,0] with | .rangeFunc _ _ _ c=>c | _=>.skip)).wpIn (Fence.wide.inRound l) 0 Tryz.prog E a x:=by
 conv=>arg 4; whnf
 refine wpIn_block ?_
 refine wpIn_seq ?_
 refine walk_r7 (yb:=yb) (lb:=lf) (kk:=kk) (vv:=vv) (fy:=fy) (cy:=cy) (Ph:=fun g _ y=>(y.heap[yb]?=some (yBox fy cy)∧y.heap[lf]?=some (.cells #[.int .i64 kk,.int .i64 vv] 89 (0,0)))∧(g≤1→Turned [] x y)∧(g=2→∃ y0,Turned [] x y0∧Rz y0 y)) hs x6 x7 x8 (fun g u y h=>⟨(cells1 h.1.1).1,load_leaf h.1.2⟩) ⟨⟨hyb,hlf⟩,fun _=>(Turned.refl _ _).drew,fun h=>by cases h⟩ ?_ hEnt ?_ ?_
 ·rintro u y ⟨hb,ht,-⟩
  have ht0:=ht (by omega)
  refine (cLeafPair _ _ _).mono ?_
  rintro e w2 ⟨rfl,ht2⟩
  exact ⟨rfl,⟨ht2.heap hb.1 (by simp),ht2.heap hb.2 (by simp)⟩,fun _=>ht0.trans ht2,fun h=>by cases h⟩
 ·rintro u y ⟨hb,ht,-⟩
  have ht0:=ht (by omega)
  refine (hC y ht0).mono ?_
  rintro e z ⟨rfl,hz⟩
  exact ⟨rfl,hZ y z ht0 hz,fun h=>by omega,fun _=>⟨y,ht0,hz⟩⟩
 ·rintro a' z u hs' hd' hoff x39 ⟨-,-,h2⟩
  obtain ⟨y,hy,hz⟩:=h2 rfl
  obtain ⟨cc,hcc,hce⟩:=expand40 (hs'.trans hs) (hd'.trans hd)
  have g39:=(hce 39).trans x39
  have HE:Hid _:=hE
  clear hce hs' hd' hoff x39 hE h2 hC hZ
  subst hcc
  simp only [lit40,g39]
  clear g39
  gi_wp2
  exact HE.out _ y _ hy hz
end
structure WJ (yb:Nat) (fy:FuncId) (cy:Array Value) (J:Nat→List Nat→World→Prop) (j:Nat) (G:List Nat) (w:World):Prop where
 ex:∃ G0,G=yb :: G0∧J j G0 w∧yb∉G0
 hy:w.heap[yb]?=some (yBox fy cy)
theorem WJ.keep {P:Program} {M:List (Int × Int)} {yb:Nat} {fy:FuncId} {cy:Array Value} {J:Nat→List Nat→World→Prop} {j:Nat} {G L:List Nat} {w w':World} (hT:Taker P M J fy cy) (h:WJ yb fy cy J j G w) (ht:Turned L w w') (hL:∀ x,x∈L→x∉G):WJ yb fy cy J j G w':=by
 obtain ⟨G0,rfl,h1,n1⟩:=h.ex
 exact ⟨⟨G0,rfl,hT.keep h1 ht (fun x hx hm=>hL x hx (by simp [hm])),n1⟩,ht.heap h.hy (fun hm=>hL _ hm (by simp))⟩
theorem WJ.lt {P:Program} {M:List (Int × Int)} {yb:Nat} {fy:FuncId} {cy:Array Value} {J:Nat→List Nat→World→Prop} {j:Nat} {G:List Nat} {w:World} (hT:Taker P M J fy cy) (h:WJ yb fy cy J j G w):∀ x,x∈G→x < w.heap.size:=by
 obtain ⟨G0,rfl,h1,n1⟩:=h.ex
 intro x hx
 rcases List.mem_cons.1 hx with rfl | hx
 ·exact lt_of_heap h.hy
 ·exact hT.lt h1 x hx
section
variable {x:World} {bt b0 b1 b3 tb p yb:Nat} {F:List Nat} {s:PSt} {y0:Spot} {lo hi:Int} {a:Act} {Q:Exit→Act→World→Prop} {J:Nat→List Nat→World→Prop} {G:List Nat} {fy:FuncId} {cy:Array Value}
set_option maxRecDepth 100000 in
set_option maxHeartbeats 1600000 in
theorem walk_loop (hs:a.tmps.size=40) (hd:a.defers=[]) (x6:a.eval (.tmp 6)=.pointer (some ⟨yb,0,none⟩)) (x31:a.eval (.tmp 31)=.func (.func 98) #[] #[.pointer (some ⟨b0,0,none⟩),.pointer (some ⟨b1,0,none⟩),.pointer (some ⟨bt,0,none⟩),.pointer (some ⟨b3,0,none⟩)])
  (hO:s.Ok) (hy:SpotOk s y0) (hT:Taker Tryz.prog (midL y0.t.pairs lo hi) J fy cy) (hP:PreV bt b0 b1 b3 tb p F s y0 lo hi x) (hG:∀ z,z∈yb :: G→z∉RV bt b0 b1 b3 tb F) (hJ:WJ yb fy cy J 0 (yb :: G) x)
  (hK:∀ a' y D G',a'.tmps.size=40→a'.defers=[markD D]→WJ yb fy cy J (midL y0.t.pairs lo hi).length G' y→Wider (yb :: G) G' x→D∉G'→Turned (yb :: G) x y→y.heap[D]?=some (.deferred (some []))→x.heap.size≤D→Q .normal a' y):(atc Tryz.f74.body [1,1,1,1,0]).wp Tryz.prog Q a x:=by
 obtain ⟨cc,hcc,hce⟩:=expand40 hs hd
 have g6:=(hce 6).trans x6
 have g31:=(hce 31).trans x31
 clear hce hs hd x6 x31
 subst hcc
 conv=>arg 2; whnf
 simp only [lit40,g6,g31]
 clear g6 g31
 have HK:Hid _:=hK
 have HP:Hid (PreV bt b0 b1 b3 tb p F s y0 lo hi x):=hP
 have HG:Hid (∀ z,z∈yb :: G→z∉RV bt b0 b1 b3 tb F):=hG
 have HJ:Hid (WJ yb fy cy J 0 (yb :: G) x):=hJ
 have HT:Hid _:=hT
 clear hK hP hG hJ hT
 refine wp_rangeT (N:=(midL y0.t.pairs lo hi).length) (xs:=xsL (midL y0.t.pairs lo hi)) (F:=[]) (R:=RV bt b0 b1 b3 tb F) (Pre:=PreV bt b0 b1 b3 tb p F s y0 lo hi) (G:=yb :: G)
  (I:=WJ yb fy cy J) rfl (enters_of Tryz.func98 (by kernel_rfl) rfl) (iterL hO hy) (fun j=>rfl) (fun h1 h2 h3=>h1.keep HT.out h2 h3) (fun h=>h.lt HT.out) ?keepP HJ.out HP.out (fun z hz=>⟨by simp,HG.out z hz⟩) (by simp) HP.out.lt ?round ?done
 case keepP =>
  intro w2 w3 L h ht hL
  exact h.keep ht (fun z hz hm=>by have:=hL z hz; have:=HP.out.lt z hm; omega)
 case round =>
  rintro j hj G1 W hU hlW hlG
  have hTk:=HT.out.takes j hj
  obtain ⟨kk,hkk⟩:∃ kk,kk=(midL y0.t.pairs lo hi)[j].1:=⟨_,rfl⟩
  obtain ⟨vv,hvv⟩:∃ vv,vv=(midL y0.t.pairs lo hi)[j].2:=⟨_,rfl⟩
  have hxs:xsL (midL y0.t.pairs lo hi) j=#[.agg #[.int .i64 kk,.int .i64 vv],.int .i64 0]:=by unfold xsL; rw [hkk,hvv,List.getD_eq_getElem?_getD,List.getElem?_eq_getElem hj]; rfl
  rw [hxs]
  rw [← hkk,← hvv] at hTk
  have HU:Hid _:=hU
  have HTK:Hid _:=hTk
  have HLG:Hid (x.heap.size+1∉G1∧x.heap.size+1 < W.heap.size):=⟨hlG,hlW⟩
  clear hxs hU hlG hlW hkk hvv hTk
  gi_wp2
  have h4:=blk_new W (.cells #[.int .i64 kk,.int .i64 vv] 89 (0,0))
  have tA:Turned [] W (W.alloc (.cells #[.int .i64 kk,.int .i64 vv] 89 (0,0))):=(Turned.refl _ _).alloc _
  refine ⟨tA,fun W2 h2=>?_⟩
  have hS:=h2.heap h4 (by simp; have:=HLG.out.2; omega)
  have hU2:=(HU.out.keep HT.out tA (by simp)).keep HT.out h2 (fun z hz hm=>by simp at hz; subst hz; exact HLG.out.1 hm)
  have hlfG:W.heap.size∉G1:=fun hm=>absurd (HU.out.lt HT.out _ hm) (Nat.lt_irrefl _)
  clear h2 h4 tA HU
  obtain ⟨G0,rfl,hJ0,n1⟩:=hU2.ex
  have nlf:W.heap.size∉G0:=fun hm=>hlfG (by simp [hm])
  refine walk_Y (yb:=yb) (lf:=W.heap.size) (kk:=kk) (vv:=vv) (fy:=fy) (cy:=cy) (Rz:=fun y' z=>Turned G0 y' z∧∃ G',J (j+1) G' z∧Wider G0 G' y') rfl rfl rfl rfl rfl hU2.hy hS HT.out.ent (fun y' hy'=>?_) (fun y' z hy' hr=>⟨hr.1.heap (hy'.heap hU2.hy (by simp)) n1,hr.1.heap (hy'.heap hS (by simp)) nlf⟩) (fun a' y' z hy' hr=>?_)
  ·exact HTK.out G0 y' (HT.out.keep hJ0 hy' (by simp))
  ·obtain ⟨ht,G2,hJ2,hW2⟩:=hr
   have l1:=lt_of_heap (hy'.heap hU2.hy (by simp))
   refine ⟨(hy'.mono (by simp)).trans (ht.mono (fun z hz=>by simp [hz])),yb :: G2,⟨⟨G2,rfl,hJ2,fun hm=>?_⟩,ht.heap (hy'.heap hU2.hy (by simp)) n1⟩,fun z hz=>?_⟩
   ·rcases hW2 _ hm with h | h
    ·exact n1 h
    ·omega
   ·rcases List.mem_cons.1 hz with rfl | h
    ·exact .inl (by simp)
    ·rcases hW2 z h with h | h
     ·exact .inl (by simp [h])
     ·exact .inr (by have:=hy'.size; omega)
 case done =>
  intro W G' hU hW hD hPW hTu hK
  exact HK.out _ _ _ G' rfl rfl hU hW hD (by simpa using hTu) hK (Nat.le_refl _)
end
end Go.Proofs.YtcinlaacgbfojaaGreatDoor
/- Package trie's Walk, alone, by contract. -/
namespace Go.Proofs.YtcinlaacgbfojaaGreatDoor
open Go.RowKit
structure WBox (b1 b2 b3 b4 b5 tb:Nat) (root lo hi:Int) (W:World):Prop where
 h1:W.heap[b1]?=some (.cells #[.int .i64 lo] 3 (0,0))
 h2:W.heap[b2]?=some (.cells #[.int .i64 hi] 3 (0,0))
 h3:W.heap[b3]?=some (.cells #[.pointer none] 82 (0,0))
 h4:W.heap[b4]?=some (.cells #[.int .i64 root] 3 (0,0))
 h5:W.heap[b5]?=some (.cells #[.pointer (some ⟨tb,0,none⟩)] 35 (0,0))
theorem WBox.still {b1 b2 b3 b4 b5 tb:Nat} {root lo hi:Int} {W W':World} (h:WBox b1 b2 b3 b4 b5 tb root lo hi W) (ht:Turned [] W W'):WBox b1 b2 b3 b4 b5 tb root lo hi W' :=
 ⟨ht.heap h.h1 (by simp),ht.heap h.h2 (by simp),ht.heap h.h3 (by simp),ht.heap h.h4 (by simp),ht.heap h.h5 (by simp)⟩
section
variable {b1 b2 b3 b4 b5 tb p:Nat} {F:List Nat} {s:PSt} {o:Option Tr} {lo hi:Int} {W:World} {J:Nat→List Nat→World→Prop} {fy:FuncId} {cy:Array Value} {G:List Nat}
def WalkR (W:World) (J:Nat→List Nat→World→Prop) (G:List Nat) (N:Nat) (e:Ending) (w2:World):Prop:=e=.returned (.tuple #[])∧Turned G W w2∧∃ G',J N G' w2∧Wider G G' W
set_option maxRecDepth 100000 in
set_option maxHeartbeats 1600000 in
theorem cWalk1 (hT:TrieB W tb p) (hA:PoolAt W p F s) (hO:s.Ok) (hH:Holds s o) (hB:WBox b1 b2 b3 b4 b5 tb (rootO o) lo hi W) (hlo:isKey lo) (hhi:isKey hi) (hTk:Taker Tryz.prog (midL (prs o) lo hi) J fy cy) (hJ:J 0 G W) (hG:∀ x,x∈G→x∉F∧x≠tb∧x≠0) :
  Calls Tryz.prog 74 #[.func (.func fy) #[] cy,.pointer (some ⟨b1,0,none⟩),.pointer (some ⟨b2,0,none⟩),.pointer (some ⟨b3,0,none⟩),.pointer (some ⟨b4,0,none⟩),.pointer (some ⟨b5,0,none⟩)] W (WalkR W J G (midL (prs o) lo hi).length):=by
 have HK1:Hid (∀ x,Calls Tryz.prog 26 #[.int .i64 lo] x fun e w'=>e=.returned (.bool true)∧Turned [] x w'):=fun x=>cIsKey lo (decide_eq_true hlo) x
 have HK2:Hid (∀ x,Calls Tryz.prog 26 #[.int .i64 hi] x fun e w'=>e=.returned (.bool true)∧Turned [] x w'):=fun x=>cIsKey hi (decide_eq_true hhi) x
 have c1:=(cells1 hB.h1).1
 have l2:=lt_of_heap hB.h2
 have l1:=lt_of_heap hB.h1
 have l4:=lt_of_heap hB.h4
 have HB:Hid _:=hB
 have HT:Hid (TrieB W tb p∧PoolAt W p F s):=⟨hT,hA⟩
 have HO:Hid s.Ok:=hO
 have HTk:Hid _:=hTk
 have HJ:Hid (J 0 G W):=hJ
 have HG:Hid (∀ x,x∈G→x∉F∧x≠tb∧x≠0):=hG
 have tA:Turned [] W (W.alloc (yBox fy cy)):=(Turned.refl _ _).alloc _
 cases o with
 | none =>
  have hR:∀ w2,Turned [] W w2→WalkR W J G (midL (prs none) lo hi).length (.returned (.tuple #[])) w2:=fun w2 h2=>⟨rfl,h2.mono (by simp),G,HTk.out.keep HJ.out h2 (by simp),fun x hx=>.inl hx⟩
  have HR:Hid _:=hR
  clear hT hA hO hH hB hTk hJ hG hR
  refine calls_marks Tryz.func74 rfl ?_
  simp only [Tryz.ntmps74,List.size_toArray,List.length_cons,List.length_nil,Nat.reduceAdd,Nat.reduceSub,Array.replicate_succ,Array.replicate_zero,List.push_toArray,List.append_toArray,List.nil_append,List.cons_append]
  go_wp2_with (first
   | (go_at_call 26; refine (HK1.out _).mono ?_; rintro e w1 ⟨rfl,ht1⟩; have tB:=tA.trans ht1; have c2:=(cells1 (tB.heap HB.out.h2 (by simp))).1; have HT1:Hid (Turned [] W w1):=tB; clear ht1 tB)
   | (go_at_call 26; refine (HK2.out _).mono ?_; rintro e w2 ⟨rfl,ht2⟩; have tC:=HT1.out.trans ht2; have c4:=(cells1 (tC.heap HB.out.h4 (by simp))).1; have c4':w2.cell? ⟨b4,0,none⟩=some (.int .i64 0):=c4; have HT2:Hid (Turned [] W w2):=tC; clear ht2 tC c4))
  exact marks_plain (v:=.tuple #[]) (by simp [results,Tryz.results74]) rfl (HR.out _ HT2.out)
 | some t =>
  have hw:=hH.wf t rfl
  have hr:=hH.rep t rfl
  have hsp:=hw.span
  have hpos:=hr.top.pos
  have hz:(t.hd == 0)=false:=by simp; omega
  have HY:Hid (SpotOk s ⟨t,0,4294967295⟩):=⟨hw,hr,hsp.1,hsp.2.2⟩
  obtain ⟨th,hth⟩:∃ th,th=t.hd:=⟨_,rfl⟩
  have HTH:Hid (th=t.hd):=hth
  rw [← hth] at hz
  clear hT hA hO hH hB hTk hJ hG hw hr hsp hpos hth
  refine calls_marks Tryz.func74 rfl ?_
  simp only [Tryz.ntmps74,List.size_toArray,List.length_cons,List.length_nil,Nat.reduceAdd,Nat.reduceSub,Array.replicate_succ,Array.replicate_zero,List.push_toArray,List.append_toArray,List.nil_append,List.cons_append]
  go_wp2_with (first
   | (go_at_call 26; refine (HK1.out _).mono ?_; rintro e w1 ⟨rfl,ht1⟩; have tB:=tA.trans ht1; have c2:=(cells1 (tB.heap HB.out.h2 (by simp))).1; have HT1:Hid (Turned [] (W.alloc (yBox fy cy)) w1):=ht1; clear ht1 tB)
   | (go_at_call 26; refine (HK2.out _).mono ?_; rintro e w2 ⟨rfl,ht2⟩; have tC:=HT1.out.trans ht2; have c4:=(cells1 ((tA.trans tC).heap HB.out.h4 (by simp))).1; have c4':w2.cell? ⟨b4,0,none⟩=some (.int .i64 th):=(by rw [HTH.out]; exact c4); have HT2:Hid (Turned [] (W.alloc (yBox fy cy)) w2):=tC; clear ht2 tC c4))
  rename_i Kr hKr
  have hyb:=HT2.out.heap (blk_new W (yBox fy cy)) (by simp)
  have tW2:=tA.trans HT2.out
  have hB2:=HB.out.still tW2
  refine walk_r4 (b1:=b1) (b2:=b2) (b3:=b3) (b4:=b4) (b5:=b5) (tb:=tb) (root:=th) (kl:=lo) (kh:=hi)
   (Ph:=fun g u y=>(g≤1→Turned [] w2 y)∧(g=2→∃ y0,Turned [] w2 y0∧u 7=.func (.func 98) #[] #[.pointer (some ⟨y0.heap.size,0,none⟩),.pointer (some ⟨y0.heap.size+1,0,none⟩),.pointer (some ⟨y0.heap.size+1+1,0,none⟩),.pointer (some ⟨y0.heap.size+1+1+1,0,none⟩)]∧y=(((y0.alloc (.cells #[pt tb] 35 (0,0))).alloc (.cells #[.pointer none] 82 (0,0))).alloc (.cells #[.int .i64 th,.int .i64 0,.int .i64 4294967295,.nilIface] 97 (0,0))).alloc (.cells #[.int .i64 lo,.int .i64 hi] 93 (0,0)))∧Turned [] w2 y) rfl rfl rfl rfl rfl rfl (fun g u y h=>?_) ⟨fun _=>(Turned.refl _ _).drew,(fun h=>by cases h),(Turned.refl _ _).drew⟩ ?_ ?_ ?_
  ·have hb:=hB2.still h.2.2
   exact ⟨(cells1 hb.h5).1,(cells1 hb.h3).1,by rw [HTH.out]; exact (cells1 hb.h4).1,(cells1 hb.h1).1,(cells1 hb.h2).1⟩
  ·rintro u y ⟨-,-,ht⟩
   refine (cRootSpot _ _).mono ?_
   rintro e z ⟨rfl,hz2⟩
   exact ⟨rfl,fun _=>ht.trans hz2,(fun h=>by cases h),ht.trans hz2⟩
  ·rintro u y ⟨-,-,ht⟩
   refine (cLeaves tb th 0 4294967295 lo hi y).mono ?_
   rintro e z ⟨rfl,hz2⟩
   refine ⟨_,rfl,fun h=>by omega,fun _=>⟨y,ht,by rw [upd_same],hz2⟩,?_⟩
   rw [hz2]
   exact (((ht.alloc _).alloc _).alloc _).alloc _
  ·rintro a1 w3 u hs hd hoff x31 ⟨-,h2,t3⟩
   obtain ⟨y0,hy0,hu7,hw3⟩:=h2 rfl
   rw [hu7] at x31
   have x6:a1.eval (.tmp 6)=.pointer (some ⟨W.heap.size,0,none⟩):=hoff 6 (by decide)
   have hs2:a1.tmps.size=40:=hs
   have hd2:a1.defers=[]:=hd
   refine hKr _ _ ?_
   refine wp_block ?_
   clear hKr hoff hs hd h2 hu7
   have q0:w3.heap[y0.heap.size]?=some (.cells #[pt tb] 35 (0,0)):=by rw [hw3]; exact blk_old (blk_old (blk_old (blk_new _ _) _) _) _
   have q1:w3.heap[y0.heap.size+1]?=some (.cells #[.pointer none] 82 (0,0)):=by rw [hw3]; exact blk_old (blk_old (blk_new1' _ _ _) _) _
   have q2:w3.heap[y0.heap.size+1+1]?=some (.cells #[.int .i64 th,.int .i64 0,.int .i64 4294967295,.nilIface] 97 (0,0)):=by
    rw [hw3]; refine blk_old ?_ _; have:=blk_new ((y0.alloc (.cells #[pt tb] 35 (0,0))).alloc (.cells #[.pointer none] 82 (0,0))) (.cells #[.int .i64 th,.int .i64 0,.int .i64 4294967295,.nilIface] 97 (0,0)); simpa using this
   have q3:w3.heap[y0.heap.size+1+1+1]?=some (.cells #[.int .i64 lo,.int .i64 hi] 93 (0,0)):=by
    rw [hw3]; have:=blk_new (((y0.alloc (.cells #[pt tb] 35 (0,0))).alloc (.cells #[.pointer none] 82 (0,0))).alloc (.cells #[.int .i64 th,.int .i64 0,.int .i64 4294967295,.nilIface] 97 (0,0))) (.cells #[.int .i64 lo,.int .i64 hi] 93 (0,0)); simpa using this
   rw [HTH.out] at q2
   have tW3:=tW2.trans t3
   have hPv:PreV (y0.heap.size+1+1) y0.heap.size (y0.heap.size+1) (y0.heap.size+1+1+1) tb p F s ⟨t,0,4294967295⟩ lo hi w3:=⟨q2,q0,q1,q3,HT.out.1.still tW3,HT.out.2.still tW3⟩
   have hGlt:=HTk.out.lt HJ.out
   have hFlt:=poolLaws.lt HT.out.2
   have hTlt:=lt_of_heap HT.out.1.blk
   have hs1:W.heap.size+1≤y0.heap.size:=by
    have e1:=HT2.out.size
    have e2:=hy0.size
    simp at e1
    omega
   have nyG:W.heap.size∉G:=fun hm=>absurd (hGlt _ hm) (Nat.lt_irrefl _)
   have hrv:∀ z,z∈W.heap.size :: G→z∉RV (y0.heap.size+1+1) y0.heap.size (y0.heap.size+1) (y0.heap.size+1+1+1) tb F:=fun z hz hm=>by
    simp only [RV,List.mem_cons] at hm hz
    have old:z≤W.heap.size:=by
     rcases hz with h | h
     ·omega
     ·have:=hGlt z h; omega
    rcases hm with h | h | h | h | h | h | h
    ·omega
    ·omega
    ·omega
    ·omega
    ·rcases hz with hz | hz
     ·omega
     ·exact (HG.out z hz).2.1 h
    ·rcases hz with hz | hz
     ·omega
     ·exact (HG.out z hz).2.2 h
    ·rcases hz with hz | hz
     ·have:=hFlt z h; omega
     ·exact (HG.out z hz).1 h
   refine walk_loop (yb:=W.heap.size) (G:=G) (J:=J) (fy:=fy) (cy:=cy) hs2 hd2 x6 x31 HO.out HY.out HTk.out hPv hrv ⟨⟨G,rfl,HTk.out.keep HJ.out tW3 (by simp),nyG⟩,t3.heap hyb (by simp)⟩ ?_
   intro a' y D G' hs hd hWJ hWd hDG hTy hKD hDle
   obtain ⟨G0,rfl,hJN,m1⟩:=hWJ.ex
   have tWy:Turned G W y:=by
    have h1:Turned (W.heap.size :: G) W y:=(tW3.mono (by simp)).trans hTy
    exact ⟨h1.os,h1.tape,h1.output,h1.size,fun k hk hn=>h1.block k hk (by simp only [List.mem_cons,not_or]; exact ⟨by omega,hn⟩)⟩
   have tD:Turned [D] y (y.putObj D (.deferred none)):=turned_put _
   have e3:=t3.size
   have e2:=HT2.out.size
   simp at e2
   refine marks_end hKD (v:=.tuple #[]) (by simp [results,Tryz.results74]) hd ⟨rfl,tWy.inner tD (fun z hz=>by simp at hz; subst hz; exact .inr (by omega)),G0,HTk.out.keep hJN tD (fun z hz hm=>by simp at hz; subst hz; exact hDG (by simp [hm])),fun z hz=>?_⟩
   rcases hWd z (by simp [hz]) with h | h
   ·rcases List.mem_cons.1 h with rfl | h
    ·exact absurd hz m1
    ·exact .inl h
   ·exact .inr (by omega)
theorem cWalkMk (tb:Nat) (root lo hi:Int) (w:World):Calls Tryz.prog 37 #[pt tb,.pointer none,.int .i64 root,.int .i64 lo,.int .i64 hi] w fun e w'=>e=.returned (.func (.func 74) #[] #[.pointer (some ⟨w.heap.size+1+1+1,0,none⟩),.pointer (some ⟨w.heap.size+1+1+1+1,0,none⟩),.pointer (some ⟨w.heap.size+1,0,none⟩),.pointer (some ⟨w.heap.size+1+1,0,none⟩),.pointer (some ⟨w.heap.size,0,none⟩)])∧Turned [] w w'∧WBox (w.heap.size+1+1+1) (w.heap.size+1+1+1+1) (w.heap.size+1) (w.heap.size+1+1) w.heap.size tb root lo hi w'∧w'.heap.size=w.heap.size+5:=by
 go_enter Tryz.func37,Tryz.ntmps37
 go_wp2
 go_ret
 refine ⟨rfl,((((((Turned.refl _ _).alloc _).alloc _).alloc _).alloc _).alloc _),?_,by simp⟩
 have z:∀ (w:World) (o:Obj) {n:Nat},w.heap.size=n→(w.alloc o).heap[n]?=some o:=fun w o n h=>by rw [← h]; exact blk_new w o
 exact ⟨blk_old (z _ _ (by simp)) _,z _ _ (by simp),blk_old (blk_old (blk_old (z _ _ (by simp)) _) _) _,blk_old (blk_old (z _ _ (by simp)) _) _,blk_old (blk_old (blk_old (blk_old (blk_new _ _) _) _) _) _⟩
end
end Go.Proofs.YtcinlaacgbfojaaGreatDoor
/- A frame, spelled out. -/
namespace Go.Proofs.YtcinlaacgbfojaaGreatDoor
open Go.RowKit
def lit32 (c:Nat→Value):Array Value:=#[c 0,c 1,c 2,c 3,c 4,c 5,c 6,c 7,c 8,c 9,c 10,c 11,c 12,c 13,c 14,c 15,c 16,c 17,c 18,c 19,c 20,c 21,c 22,c 23,c 24,c 25,c 26,c 27,c 28,c 29,c 30,c 31]
set_option maxRecDepth 100000 in
theorem lit32_eq (c:Nat→Value):lit32 c=((List.range 32).map c).toArray:=by rfl
theorem expand32 {a:Act} (hs:a.tmps.size=32) (hd:a.defers=[]):∃ c:Nat→Value,a=⟨lit32 c,[]⟩∧∀ s,c s=a.eval (.tmp s):=by
 refine ⟨fun s=>a.tmps.getD s undef,?_,fun s=>rfl⟩
 obtain ⟨t,d⟩:=a
 simp only at hs hd
 subst hd
 congr 1
 rw [lit32_eq]
 refine Array.ext (by simp [hs]) fun i h1 h2=>?_
 simp [Array.getD,h1]
theorem expand32d {a:Act} {ds:List Deferred} (hs:a.tmps.size=32) (hd:a.defers=ds):∃ c:Nat→Value,a=⟨lit32 c,ds⟩∧∀ s,c s=a.eval (.tmp s):=by
 refine ⟨fun s=>a.tmps.getD s undef,?_,fun s=>rfl⟩
 obtain ⟨t,d⟩:=a
 simp only at hs hd
 subst hd
 congr 1
 rw [lit32_eq]
 refine Array.ext (by simp [hs]) fun i h1 h2=>?_
 simp [Array.getD,h1]
end Go.Proofs.YtcinlaacgbfojaaGreatDoor
/- Package trie's Nodes, alone, by contract. -/
namespace Go.Proofs.YtcinlaacgbfojaaGreatDoor
open Go.RowKit Go.Shelf
attribute [local go_sem] Oper.semAt_some
section
structure NJ (lb B:Nat) (V:List Spot) (j:Nat) (G:List Nat) (w:World):Prop where
 ex:∃ v,G=lb :: v.ownBlock.toList∧w.heap[lb]?=some (.cells #[v] 23 (0,0))∧IR B w v ((V.take j).map (fun x=>x.t.hd))
variable {lb B:Nat} {V:List Spot}
theorem NJ.keep {j:Nat} {G L:List Nat} {w w':World} (h:NJ lb B V j G w) (ht:Turned L w w') (hL:∀ x,x∈L→x∉G):NJ lb B V j G w':=by
 obtain ⟨v,rfl,h1,h2⟩:=h.ex
 exact ⟨v,rfl,ht.heap h1 (fun hm=>hL _ hm (by simp)),h2.keep ht (fun g hg hm=>hL g hm (by rw [hg]; simp))⟩
theorem NJ.lt {j:Nat} {G:List Nat} {w:World} (h:NJ lb B V j G w):∀ x,x∈G→x < w.heap.size:=by
 obtain ⟨v,rfl,h1,h2⟩:=h.ex
 intro x hx
 rcases List.mem_cons.1 hx with rfl | hx
 ·exact lt_of_heap h1
 ·exact (h2.fresh (Option.mem_toList.1 hx)).2
end
section
variable {x:World} {a:Act} {l lb sp B vc:Nat} {uh sa sb:Int} {nn:Value} {va:Option Addr} {L:List Int} {E:Exit→Act→World→Prop}
theorem IR.notBox {B:Nat} {w:World} {v u:Value} {L:List Int} {lb:Nat} (h:IR B w v L) (hb:w.heap[lb]?=some (.cells #[u] 23 (0,0))):lb∉v.ownBlock.toList:=fun hm=>by
 obtain ⟨cs,hc⟩:=h.type (Option.mem_toList.1 hm)
 exact other_type hb hc (by decide) rfl
set_option maxRecDepth 100000 in
set_option maxHeartbeats 1600000 in
theorem nodes_Y (hs:a.tmps.size=32) (hd:a.defers=[]) (x8:a.eval (.tmp 8)=.pointer (some ⟨lb,0,none⟩)) (x9:a.eval (.tmp 9)=.pointer (some ⟨sp,0,none⟩)) (x10:a.eval (.tmp 10)=.int .i64 0) (hS:x.heap[sp]?=some (.cells #[.int .i64 uh,.int .i64 sa,.int .i64 sb,nn] 97 (0,0))) (hb:x.heap[lb]?=some (.cells #[.slice va L.length vc] 23 (0,0))) (hir:IR B x (.slice va L.length vc) L) (hL:L.length≤100000) (hB:B≤x.heap.size)
  (hE:∀ a' y v',y.heap[lb]?=some (.cells #[v'] 23 (0,0))→IR B y v' (L ++ [uh])→Turned (lb :: (Value.slice va L.length vc).ownBlock.toList) x y→(v'.ownBlock=(Value.slice va L.length vc).ownBlock∨v'.ownBlock=some (x.heap.size+1))→E .normal a' y):((match atc Tryz.f39.body [1,1,1,0,1,0] with | .rangeFunc _ _ _ c=>c | _=>.skip)).wpIn (Fence.wide.inRound l) 0 Tryz.prog E a x:=by
 obtain ⟨cc,hcc,hce⟩:=expand32 hs hd
 have g8:=(hce 8).trans x8
 have g9:=(hce 9).trans x9
 have g10:=(hce 10).trans x10
 clear hce hs hd x8 x9 x10
 subst hcc
 conv=>arg 4; whnf
 simp only [lit32,g8,g9,g10]
 clear g8 g9 g10
 obtain ⟨⟨c0,c1,c2,c3⟩,-⟩:=cells4 hS
 obtain ⟨d0,dz⟩:=cells1 hb
 have HE:Hid _:=hE
 have HI:Hid _:=And.intro hir (And.intro hb (And.intro hL hB))
 have lbl:=lt_of_heap hb
 have spl:=lt_of_heap hS
 clear hE hS hb hir hL hB
 refine wpIn_block ?_
 refine wpIn_seq_k fun K hK=>?_
 have HKK:Hid _:=hK
 clear hK
 gi_wp2
 refine HKK.out _ _ ?_
 clear HKK K
 refine wpIn_then_self ?_
 refine region_list_in (by kernel_rfl) ?_
 go_wp2_with (at_builtin; go_loud (refine wpList_apInt (v:=.slice va L.length vc) (x:=uh) (g:=x.heap.size) (l:=L) (B:=B) rfl _ _ rfl rfl rfl (HI.out.1.keep ((Turned.refl [] _).alloc _) (by simp)) rfl (by go_simp) HI.out.2.2.1 (by have:=HI.out.2.2.2; simp; omega) ?_; intro v' w11 hsr ht11 hor; obtain ⟨va2,vc2,hv2⟩:=hsr.form; have hb2:=ht11.heap (blk_old HI.out.2.1 _) (HI.out.1.notBox HI.out.2.1); obtain ⟨f0,fz⟩:=cells1 hb2; have HSR:Hid _:=hsr; have HT11:Hid _:=ht11; have HOR:Hid _:=hor; have HB2:Hid _:=hb2; have hv3:v'=.slice va2 (L.length+1) vc2:=(by rw [hv2]; simp); clear hv2; subst hv3; clear hsr ht11 hor hb2))
 have hn:lb∉(Value.slice va2 (L.length+1) vc2).ownBlock.toList:=HSR.out.notBox HB2.out
 refine HE.out _ _ (.slice va2 (L.length+1) vc2) (blk_set HB2.out 0 _) (HSR.out.keep (F:=[lb]) ((Turned.refl _ _).set (.inl (by simp)) _ _) (fun g hg hm=>by simp at hm; subst hm; exact hn (Option.mem_toList.2 hg))) ?_ ?_
 ·exact ((((Turned.refl (lb :: (Value.slice va L.length vc).ownBlock.toList) x).alloc _).trans (HT11.out.mono (fun z hz=>by simp [hz])))).set (.inl (by simp)) _ _
 ·rcases HOR.out with e | e
  ·exact .inl e
  ·exact .inr (by rw [e]; simp)
end
section
variable {x:World} {bt b0 b1 b3 tb p rb eb lb B:Nat} {F:List Nat} {s:PSt} {y0:Spot} {lo hi:Int} {a:Act} {Q:Exit→Act→World→Prop}
set_option maxRecDepth 100000 in
set_option maxHeartbeats 1600000 in
theorem nodes_loop (hs:a.tmps.size=32) (hd:a.defers=[]) (x6:a.eval (.tmp 6)=.pointer (some ⟨rb,0,none⟩)) (x7:a.eval (.tmp 7)=.pointer (some ⟨eb,0,none⟩)) (x8:a.eval (.tmp 8)=.pointer (some ⟨lb,0,none⟩)) (x20:a.eval (.tmp 20)=.func (.func 99) #[] #[.pointer (some ⟨bt,0,none⟩),.pointer (some ⟨b0,0,none⟩),.pointer (some ⟨b1,0,none⟩),.pointer (some ⟨b3,0,none⟩)])
  (hO:s.Ok) (hy:SpotOk s y0) (hn:(y0.vis lo hi).length≤10000) (hP:PreV bt b0 b1 b3 tb p F s y0 lo hi x) (hl:lb∉RV bt b0 b1 b3 tb F) (hb:x.heap[lb]?=some (.cells #[.slice none 0 0] 23 (0,0))) (hB:B≤x.heap.size)
  (hK:∀ a' y D v,a'.tmps.size=32→a'.defers=[markD D]→a'.eval (.tmp 6)=.pointer (some ⟨rb,0,none⟩)→a'.eval (.tmp 7)=.pointer (some ⟨eb,0,none⟩)→a'.eval (.tmp 8)=.pointer (some ⟨lb,0,none⟩)→y.heap[lb]?=some (.cells #[v] 23 (0,0))→IR B y v ((y0.vis lo hi).map (fun x=>x.t.hd))→Turned [lb] x y→y.heap[D]?=some (.deferred (some []))→x.heap.size≤D→Q .normal a' y):(atc Tryz.f39.body [1,1,1,0,1,0]).wp Tryz.prog Q a x:=by
 obtain ⟨cc,hcc,hce⟩:=expand32 hs hd
 have g6:=(hce 6).trans x6
 have g7:=(hce 7).trans x7
 have g8:=(hce 8).trans x8
 have g20:=(hce 20).trans x20
 clear hce hs hd x6 x7 x8 x20
 subst hcc
 conv=>arg 2; whnf
 simp only [lit32,g6,g7,g8,g20]
 clear g6 g7 g8 g20
 have HK:Hid _:=hK
 have HP:Hid (PreV bt b0 b1 b3 tb p F s y0 lo hi x):=hP
 have HL:Hid (lb∉RV bt b0 b1 b3 tb F∧B≤x.heap.size∧(y0.vis lo hi).length≤10000):=⟨hl,hB,hn⟩
 have HB:Hid (x.heap[lb]?=some (.cells #[.slice none 0 0] 23 (0,0))):=hb
 have hlb:=lt_of_heap hb
 clear hK hP hl hb hB hn
 refine wp_range (N:=(y0.vis lo hi).length) (xs:=xsV (y0.vis lo hi)) (F:=[]) (R:=RV bt b0 b1 b3 tb F) (Pre:=PreV bt b0 b1 b3 tb p F s y0 lo hi) (G:=[lb])
  (I:=NJ lb B (y0.vis lo hi)) (Ix:=fun _ _ _=>False) rfl (enters_of Tryz.func99 (by kernel_rfl) rfl) (iterV hO hy) (fun j=>rfl) (fun h1 h2 h3=>h1.keep h2 h3) (fun h=>h.lt) (fun h _=>h.elim) ?keepP ⟨_,rfl,HB.out,IR.nil _ _⟩ HP.out ?hG (by simp) HP.out.lt ?round ?done (fun c j W _ h=>h.elim)
 case keepP =>
  intro w2 w3 L h ht hL
  exact h.keep ht (fun z hz hm=>by have:=hL z hz; have:=HP.out.lt z hm; omega)
 case hG =>
  intro z hz
  simp at hz
  subst hz
  exact ⟨by simp,HL.out.1⟩
 case round =>
  rintro j hj G W hU hlW hlG
  obtain ⟨y,hyj⟩:∃ y,y=(y0.vis lo hi).getD j ⟨.leaf 0 0 0,0,0⟩:=⟨_,rfl⟩
  have htk:((y0.vis lo hi).take (j+1)).map (fun x=>x.t.hd)=((y0.vis lo hi).take j).map (fun x=>x.t.hd) ++ [y.t.hd]:=by
   rw [List.take_add_one,List.getElem?_eq_getElem hj,List.map_append,hyj,List.getD_eq_getElem?_getD,List.getElem?_eq_getElem hj]
   rfl
  have hxs:xsV (y0.vis lo hi) j=#[spotA y,.int .i64 0]:=by unfold xsV; rw [hyj]
  rw [hxs]
  obtain ⟨T,nn,hN⟩:=nv_form y.t
  obtain ⟨uh,hu⟩:∃ uh,uh=y.t.hd:=⟨_,rfl⟩
  obtain ⟨ya,hya⟩:∃ uh,uh=y.a:=⟨_,rfl⟩
  obtain ⟨yb,hyb⟩:∃ uh,uh=y.b:=⟨_,rfl⟩
  rw [show spotA y=.agg #[.int .i64 uh,.int .i64 ya,.int .i64 yb,.iface T nn] by unfold spotA; rw [hN,hu,hya,hyb]]
  rw [← hu] at htk
  have hlen:(((y0.vis lo hi).take j).map (fun x=>x.t.hd)).length≤100000:=by
   have:=HL.out.2.2
   simp; omega
  have HU:Hid _:=hU
  have HLG:Hid (x.heap.size+1∉G):=hlG
  have HLW:Hid (x.heap.size+1 < W.heap.size):=hlW
  have HTK:Hid _:=htk
  have HLEN:Hid _:=hlen
  clear hxs hU hlG hlW htk hlen hN hu hya hyb hyj
  gi_wp2
  refine ⟨?_,fun W2 h2=>?_⟩
  ·exact (Turned.refl _ _).alloc _
  ·have hU2:=(HU.out.keep ((Turned.refl [] _).alloc (.cells #[.int .i64 uh,.int .i64 ya,.int .i64 yb,.iface T nn] 97 (0,0))) (by simp)).keep h2 (fun z hz hm=>by simp at hz; subst hz; exact HLG.out hm)
   have hS:=h2.heap (blk_new W (.cells #[.int .i64 uh,.int .i64 ya,.int .i64 yb,.iface T nn] 97 (0,0))) (by have:=HLW.out; simp; omega)
   have q4:(W.alloc (.cells #[.int .i64 uh,.int .i64 ya,.int .i64 yb,.iface T nn] 97 (0,0))).heap.size=W.heap.size+1:=by simp
   have hsz:=h2.size
   have hB2:B≤W2.heap.size:=Nat.le_trans HL.out.2.1 (by have:=HLW.out; omega)
   obtain ⟨v,rfl,hlb2,hir⟩:=hU2.ex
   have htk:=HTK.out
   have hlen:=HLEN.out
   generalize ((y0.vis lo hi).take j).map (fun x=>x.t.hd)=L at *
   obtain ⟨va,vc,rfl⟩:=hir.form
   refine nodes_Y (uh:=uh) (lb:=lb) (L:=L) (B:=B) rfl rfl rfl rfl rfl hS hlb2 hir hlen hB2 ?_
   intro a' y' v' e1 e2 e3 e4
   refine ⟨e3,lb :: v'.ownBlock.toList,⟨v',rfl,e1,by rw [htk]; exact e2⟩,fun z hz=>?_⟩
   rcases List.mem_cons.1 hz with rfl | hz
   ·exact .inl (by simp)
   ·rcases e4 with e | e
    ·rw [e] at hz; exact .inl (by simp [hz])
    ·rw [e] at hz; simp at hz; subst hz; exact .inr (by omega)
 case done =>
  intro W G' hU hW hPW hTu hK
  obtain ⟨v,rfl,h1,h2⟩:=hU.ex
  rw [List.take_length] at h2
  exact HK.out _ _ _ v rfl rfl rfl rfl rfl h1 h2 (by simpa using hTu) hK (Nat.le_refl _)
end
end Go.Proofs.YtcinlaacgbfojaaGreatDoor
/- Package trie's Nodes, alone: whole. -/
namespace Go.Proofs.YtcinlaacgbfojaaGreatDoor
open Go.RowKit
theorem nodup_few:∀ (n:Nat) (l:List Nat),l.Nodup→(∀ x∈l,x < n)→l.length≤n:=by
 intro n
 induction n with
 | zero=>intro l _ h; cases l with
  | nil=>simp
  | cons x l=>have:=h x (by simp); omega
 | succ n ih =>
  intro l hd h
  have h1:=ih (l.erase n) (hd.erase n) (fun x hx=>by
   have hx2:=hd.mem_erase_iff.1 hx
   have:=h x hx2.2
   omega)
  have h2:=List.length_erase (a:=n) (l:=l)
  split at h2 <;> omega
theorem Holds.few {s:PSt} {o:Option Tr} (h:Holds s o):(hsx o).length≤s.n+1:=by
 have h1:=nodup_few (s.n+1) ((hsx o).map plcH) (by
  refine List.pairwise_map.2 (h.nodup.imp_of_mem ?_)
  intro a b ha hb hne he
  obtain ⟨n,hn⟩:=h.alive a ha
  obtain ⟨m,hm⟩:=h.alive b hb
  refine hne ?_
  rw [hn.plc.2.2.1,hm.plc.2.2.1,he]) (fun x hx=>by
  obtain ⟨y,hy,rfl⟩:=List.mem_map.1 hx
  obtain ⟨n,hn⟩:=h.alive y hy
  have:=hn.plc.2.1
  omega)
 simpa using h1
theorem nodes_ret {w:World} {D rb eb:Nat} {a:Act} {v:Value} {R:Ending→World→Prop} (hs:a.tmps.size=32) (hd:a.defers=[markD D]) (x6:a.eval (.tmp 6)=.pointer (some ⟨rb,0,none⟩)) (x7:a.eval (.tmp 7)=.pointer (some ⟨eb,0,none⟩)) (hK:w.heap[D]?=some (.deferred (some [])))
  (hr:w.heap[rb]?=some (.cells #[v] 23 (0,0))) (he:w.heap[eb]?=some (.cells #[.int .i64 0] 31 (0,0))) (hv:∃ a n c,v=.slice a n c) (hR:R (.returned (.tuple #[v,.int .i64 0])) (w.putObj D (.deferred none))):bodyPostM Fence.wide 0 Tryz.prog Tryz.f39 R .ret a w:=by
 have n1:rb≠D:=fun e=>by rw [e,hK] at hr; cases hr
 have n2:eb≠D:=fun e=>by rw [e,hK] at he; cases he
 obtain ⟨c0,-⟩:=cells1 ((World.putObj_heap_other (o:=.deferred none) n1).trans hr)
 obtain ⟨d0,-⟩:=cells1 ((World.putObj_heap_other (o:=.deferred none) n2).trans he)
 obtain ⟨va,vn,vc,rfl⟩:=hv
 refine marks_ret hK ?_ hd hR
 obtain ⟨cc,hcc,hce⟩:=expand32d hs hd
 have g6:=(hce 6).trans x6
 have g7:=(hce 7).trans x7
 subst hcc
 simp only [lit32,g6,g7]
 simp [results,Tryz.results39,go_sem,c0,d0]
set_option maxRecDepth 100000 in
set_option maxHeartbeats 1600000 in
theorem cNodes {w:World} {tb p:Nat} {F:List Nat} {s:PSt} {o:Option Tr} (hT:TrieB w tb p) (hA:PoolAt w p F s) (hO:s.Ok) (hH:Holds s o) :
  Calls Tryz.prog 39 #[pt tb,.pointer none,.int .i64 (rootO o)] w fun e w'=>∃ v,e=.returned (.tuple #[v,.int .i64 0])∧Turned [] w w'∧IR w.heap.size w' v (hsx o):=by
 cases o with
 | none =>
  show Calls _ _ #[_,_,.int .i64 0] _ _
  clear hT hA hO hH
  refine calls_marks Tryz.func39 rfl ?_
  simp only [Tryz.ntmps39,List.size_toArray,List.length_cons,List.length_nil,Nat.reduceAdd,Nat.reduceSub,Array.replicate_succ,Array.replicate_zero,List.push_toArray,List.append_toArray,List.nil_append,List.cons_append]
  go_wp2_with (go_at_call 27; refine (cIdle _ _).mono ?_; rintro e w2 ⟨rfl,rfl⟩)
  refine marks_plain (v:=.tuple #[.slice none 0 0,.int .i64 0]) (by simp [results,Tryz.results39,go_sem]) rfl ?_
  exact ⟨.slice none 0 0,rfl,(((Turned.refl [] w).alloc _).alloc _),IR.nil _ _⟩
 | some t =>
  have hw:=hH.wf t rfl
  have hr:=hH.rep t rfl
  have hsp:=hw.span
  have hpos:=hr.top.pos
  have hz:(t.hd == 0)=false:=by simp; omega
  have hy:SpotOk s ⟨t,0,4294967295⟩:=⟨hw,hr,hsp.1,hsp.2.2⟩
  have hvis:((⟨t,0,4294967295⟩:Spot).vis 0 4294967295).map (fun x=>x.t.hd)=t.hs:=Tr.vis_all hw 0 4294967295
  have hlen:((⟨t,0,4294967295⟩:Spot).vis 0 4294967295).length≤10000:=by
   have h1:=congrArg List.length hvis
   have h2:=hH.few
   have h3:=hO.n2
   simp only [hsx,Tr.hsO] at h2
   rw [List.length_map] at h1
   omega
  have HT:Hid (TrieB w tb p∧PoolAt w p F s):=⟨hT,hA⟩
  have HO:Hid s.Ok:=hO
  have HY:Hid (SpotOk s ⟨t,0,4294967295⟩):=hy
  have HV:Hid _:=hvis
  have HL:Hid _:=hlen
  show Calls _ _ #[_,_,.int .i64 t.hd] _ (fun e w'=>∃ v,e=.returned (.tuple #[v,.int .i64 0])∧Turned [] w w'∧IR w.heap.size w' v t.hs)
  obtain ⟨th,hth⟩:∃ th,th=t.hd:=⟨_,rfl⟩
  have HTH:Hid (th=t.hd):=hth
  rw [← hth] at hz ⊢
  clear hT hA hO hH hw hr hsp hpos hy hvis hlen hth
  refine calls_marks Tryz.func39 rfl ?_
  simp only [Tryz.ntmps39,List.size_toArray,List.length_cons,List.length_nil,Nat.reduceAdd,Nat.reduceSub,Array.replicate_succ,Array.replicate_zero,List.push_toArray,List.append_toArray,List.nil_append,List.cons_append]
  go_wp2_with (first
   | (go_at_call 49; refine (cRootSpot _ _).mono ?_; rintro e w1 ⟨rfl,ht1⟩; have HT1:Hid _:=ht1; clear ht1)
   | (go_at_call 55; refine (cAllKeys _).mono ?_; rintro e w2 ⟨rfl,ht2⟩; have HT2:Hid _:=HT1.out.trans ht2; clear ht2)
   | (go_at_call 77; refine (cVisit _ _ _ _ _ _ _).mono ?_; rintro e w3 ⟨rfl,hw3⟩; have HW3:Hid _:=hw3; clear hw3))
  have hw3:=HW3.out
  obtain ⟨k6,k7,k8,tw⟩:=three_cells HT2.out
  have hs2:=HT2.out.size
  simp only [World.size_alloc] at hs2
  have t3:Turned [] w2 w3:=by rw [hw3]; exact ((((Turned.refl _ _).alloc _).alloc _).alloc _).alloc _
  have b0:w3.heap[w2.heap.size]?=some (.cells #[pt tb] 35 (0,0)):=by rw [hw3]; exact blk_old (blk_old (blk_old (blk_new _ _) _) _) _
  have b1:w3.heap[w2.heap.size+1]?=some (.cells #[.pointer none] 82 (0,0)):=by rw [hw3]; exact blk_old (blk_old (blk_new1' _ _ _) _) _
  have b2:w3.heap[w2.heap.size+1+1]?=some (.cells #[.int .i64 th,.int .i64 0,.int .i64 4294967295,.nilIface] 97 (0,0)):=by
   rw [hw3]; refine blk_old ?_ _; have:=blk_new ((w2.alloc (.cells #[pt tb] 35 (0,0))).alloc (.cells #[.pointer none] 82 (0,0))) (.cells #[.int .i64 th,.int .i64 0,.int .i64 4294967295,.nilIface] 97 (0,0)); simpa using this
  have b3:w3.heap[w2.heap.size+1+1+1]?=some (.cells #[.int .i64 0,.int .i64 4294967295] 93 (0,0)):=by
   rw [hw3]; have:=blk_new (((w2.alloc (.cells #[pt tb] 35 (0,0))).alloc (.cells #[.pointer none] 82 (0,0))).alloc (.cells #[.int .i64 th,.int .i64 0,.int .i64 4294967295,.nilIface] 97 (0,0))) (.cells #[.int .i64 0,.int .i64 4294967295] 93 (0,0)); simpa using this
  rw [HTH.out] at b2
  have tw3:=tw.trans t3
  have hPv:PreV (w2.heap.size+1+1) w2.heap.size (w2.heap.size+1) (w2.heap.size+1+1+1) tb p F s ⟨t,0,4294967295⟩ 0 4294967295 w3:=⟨b2,b0,b1,b3,HT.out.1.still tw3,HT.out.2.still tw3⟩
  have hFlt:=poolLaws.lt HT.out.2
  have hTlt:=lt_of_heap HT.out.1.blk
  have hl:w.heap.size+1+1∉RV (w2.heap.size+1+1) w2.heap.size (w2.heap.size+1) (w2.heap.size+1+1+1) tb F:=fun hm=>by
   simp only [RV,List.mem_cons] at hm
   rcases hm with h | h | h | h | h | h | h
   ·omega
   ·omega
   ·omega
   ·omega
   ·omega
   ·omega
   ·have:=hFlt _ h; omega
  refine nodes_loop (rb:=w.heap.size) (eb:=w.heap.size+1) (lb:=w.heap.size+1+1) (B:=w.heap.size) rfl rfl rfl rfl rfl rfl HO.out HY.out HL.out hPv hl (t3.heap k8 (by simp)) tw3.size ?_
  intro a' y D v hs hd x6 x7 x8 hb hir hTy hKD hDle
  have k6y:=hTy.heap (t3.heap k6 (by simp)) (by simp; omega)
  have k7y:=hTy.heap (t3.heap k7 (by simp)) (by simp)
  have hDw:w.heap.size+1+1 < D:=by have:=t3.size; omega
  rw [HV.out] at hir
  obtain ⟨va,vc,rfl⟩:=hir.form
  obtain ⟨c0,-⟩:=cells1 hb
  obtain ⟨d0,dz⟩:=cells1 k6y
  obtain ⟨e0,ez⟩:=cells1 k7y
  have HF:Hid _:=And.intro hir (And.intro hTy (And.intro hKD (And.intro hDw (And.intro k6y (And.intro k7y hb)))))
  have HT3:Hid _:=tw3
  obtain ⟨cc,hcc,hce⟩:=expand32d hs hd
  have g6:=(hce 6).trans x6
  have g7:=(hce 7).trans x7
  have g8:=(hce 8).trans x8
  clear hce hs hd x6 x7 x8 hir hTy hKD hDw k6y k7y hb b0 b1 b2 b3 hPv hl hw3 tw tw3 t3 k6 k7 k8 hDle
  subst hcc
  simp only [lit32,g6,g7,g8]
  clear g6 g7 g8
  go_wp2
  obtain ⟨hir,hTy,hKD,hDw,k6y,k7y,hb⟩:=HF.out
  have n1:w.heap.size≠D:=by omega
  have n2:w.heap.size+1≠D:=by omega
  refine nodes_ret (rb:=w.heap.size) (eb:=w.heap.size+1) (v:=.slice va t.hs.length vc) rfl rfl rfl rfl ((blk_other (fun e=>n2 e.symm) _ _).trans ((blk_other (fun e=>n1 e.symm) _ _).trans hKD)) ((blk_other (by omega) _ _).trans (blk_set k6y 0 _)) (blk_set ((blk_other (by omega) _ _).trans k7y) 0 _) ⟨_,_,_,rfl⟩ ?_
  have tf:Turned [w.heap.size,w.heap.size+1,D] y (((y.setCell ⟨w.heap.size,0,none⟩ (.slice va t.hs.length vc)).setCell ⟨w.heap.size+1,0,none⟩ (.int .i64 0)).putObj D (.deferred none)):=(((Turned.refl _ _).set (.inl (by simp)) _ _).set (.inl (by simp)) _ _).trans ((turned_put _).mono (by simp))
  refine ⟨_,rfl,(HT3.out.inner hTy (fun z hz=>by simp at hz; omega)).inner tf (fun z hz=>by simp at hz; omega),hir.keep tf (fun g hg hm=>?_)⟩
  obtain ⟨cs,hc⟩:=hir.type hg
  simp only [List.mem_cons,List.not_mem_nil,or_false] at hm
  rcases hm with rfl | rfl | rfl
  ·exact other_type k6y hc (by decide) rfl
  ·exact other_type k7y hc (by decide) rfl
  ·rw [hKD] at hc; cases hc
end Go.Proofs.YtcinlaacgbfojaaGreatDoor
/- The small tree of TrieLong's known. -/
namespace Go.Proofs.YtcinlaacgbfojaaGreatDoor
open Go.RowKit
abbrev kt1:Tr:=.leaf 1099511627777 5 50
abbrev kt2:Tr:=.node 3298534883329 1 4 kt1 (.leaf 2199023255553 7 70)
abbrev kt3:Tr:=.node 6597069766657 1 4 kt1 (.node 5497558138881 0 6 (.leaf 4398046511105 6 60) (.leaf 2199023255553 7 70))
theorem kp1 (g:Nat→Int):putO g 5 50 none=(some (.leaf (g 0) 5 50),1,[]):=rfl
theorem plc75:plc 7 5=1:=by decide
theorem plc67:plc 6 7=0:=by decide
theorem kp2 (g:Nat→Int):putO g 7 70 (some kt1)=(some (.node (g 1) 1 4 kt1 (.leaf (g 0) 7 70)),2,[]):=by
 simp [putO,Tr.stop,Tr.val,Tr.put,Tr.gone,Tr.lo,plc75,fstK]
theorem kp3 (g:Nat→Int):putO g 6 60 (some kt2)=(some (.node (g 2) 1 4 kt1 (.node (g 1) 0 6 (.leaf (g 0) 6 60) (.leaf 2199023255553 7 70))),3,[3298534883329]):=by
 simp [putO,Tr.stop,Tr.val,Tr.put,Tr.gone,Tr.lo,plc67,fstK]
theorem kd (g:Nat→Int):(Tr.del g 6 kt3).2=1:=by
 simp [Tr.del]
theorem kv:Tr.val 6 (kt3.stop 6)=some 60:=by simp [Tr.stop,Tr.val]
theorem kg:Tr.gone 6 kt3=[4398046511105,5497558138881,6597069766657]:=by simp [Tr.gone]
theorem g0_0:gOf (PSt.new 9) (List.range' 1 9) 0=1099511627777:=by decide
theorem g0_1:gOf (PSt.new 9) (List.range' 1 9) 1=2199023255553:=by decide
theorem g0_2:gOf (PSt.new 9) (List.range' 1 9) 2=3298534883329:=by decide
theorem g0_3:gOf (PSt.new 9) (List.range' 1 9) 3=4398046511105:=by decide
theorem g0_4:gOf (PSt.new 9) (List.range' 1 9) 4=5497558138881:=by decide
theorem g0_5:gOf (PSt.new 9) (List.range' 1 9) 5=6597069766657:=by decide
theorem pk1:packV 1 1=1099511627777∧packE 1 1=0:=by decide
theorem pk2:packV 2 1=2199023255553∧packE 2 1=0:=by decide
theorem pk3:packV 3 1=3298534883329∧packE 3 1=0:=by decide
section
variable {s1 s2:PSt}
theorem ke1:putO (gOf (PSt.new 9) (List.range' 1 9)) 5 50 none=(some kt1,1,[]):=by rw [kp1,g0_0]
theorem ke2 (h:MK (PSt.new 9) (List.range' 1 9) 0 1 s1):putO (gOf s1 ((List.range' 1 9).drop 1)) 7 70 (some kt1)=(some kt2,2,[]):=by
 rw [kp2,gOf_next h (by decide),gOf_next h (by decide),show 1+1=2 from rfl,show 1+0=1 from rfl,g0_2,g0_1]
theorem ke3 (h:MK (PSt.new 9) (List.range' 1 9) 0 1 s1) (h':MK s1 ((List.range' 1 9).drop 1) (0+1) 2 s2):putO (gOf s2 (((List.range' 1 9).drop 1).drop 2)) 6 60 (some kt2)=(some kt3,3,[3298534883329]):=by
 rw [kp3,gOf_next h' (by decide),gOf_next h' (by decide),gOf_next h' (by decide),gOf_next h (by decide),gOf_next h (by decide),gOf_next h (by decide)]
 rw [show 1+(2+2)=5 from rfl,show 1+(2+1)=4 from rfl,show 1+(2+0)=3 from rfl,g0_5,g0_4,g0_3]
end
abbrev kbox (r old:Int) (had:Bool) (ga:Option Addr) (gl gc:Nat) (ma:Option Addr) (ml mc:Nat):Obj:=.cells #[.int .i64 r,.int .i64 old,.bool had,.slice ga gl gc,.slice ma ml mc] 39 (0,0)
theorem box_keep {x y:World} {p b:Nat} {F:List Nat} {s:PSt} {cs:Array Value} {T:TypeId} (hb:x.heap[b]?=some (.cells cs T (0,0))) (hA:PoolAt x p F s) (hT:T∉([71,78,139,69,74]:List TypeId)) (ht:Turned F x y):y.heap[b]?=some (.cells cs T (0,0)):=ht.heap hb (poolAt_other hA hb hT)
section
variable {w:World} {tb p:Nat} {F:List Nat} {s:PSt}
theorem kRank (hT:TrieB w tb p) (hA:PoolAt w p F s) (hO:s.Ok) (hH:Holds s (some kt3)):Calls Tryz.prog 20 #[pt tb,.pointer none,.int .i64 6597069766657,.int .i64 7] w fun e w'=>e=.returned (.tuple #[.int .i64 2,.int .i64 0])∧Turned [] w w':=by
 have h:=cRank (k:=7) hT hA hO hH (by decide) (by decide)
 rw [show (rankL (prs (some kt3)) 7:Nat)=2 from by decide] at h
 exact h
theorem kSelect (hT:TrieB w tb p) (hA:PoolAt w p F s) (hO:s.Ok) (hH:Holds s (some kt3)):Calls Tryz.prog 21 #[pt tb,.pointer none,.int .i64 6597069766657,.int .i64 1] w fun e w'=>e=.returned (.tuple #[.agg #[.int .i64 6,.int .i64 60],.int .i64 0])∧Turned [] w w':=by
 refine (cSelect hT hA hO (hH.rep kt3 rfl) (hH.wf kt3 rfl) 1 (by decide)).mono ?_
 rintro e w' ⟨q,hq,rfl,ht⟩
 have e1:kt3.pairs[1]?=some (6,60):=by decide
 rw [e1] at hq
 cases hq
 exact ⟨rfl,ht⟩
theorem kNext5 (hT:TrieB w tb p) (hA:PoolAt w p F s) (hO:s.Ok) (hH:Holds s (some kt3)):Calls Tryz.prog 22 #[pt tb,.pointer none,.int .i64 6597069766657,.int .i64 5] w fun e w'=>e=.returned (.tuple #[.agg #[.int .i64 6,.int .i64 60],.int .i64 0])∧Turned [] w w':=by
 refine (cTNext (k:=5) hT hA hO hH (by decide) (by decide)).mono ?_
 rintro e w' ⟨ht,he⟩
 rw [show ((prs (some kt3)).find? fun x=>decide ((5:Int)+1≤x.1))=some (6,60) from by decide] at he
 exact ⟨he,ht⟩
theorem kNext7 (hT:TrieB w tb p) (hA:PoolAt w p F s) (hO:s.Ok) (hH:Holds s (some kt3)):Calls Tryz.prog 22 #[pt tb,.pointer none,.int .i64 6597069766657,.int .i64 7] w fun e w'=>e=.returned (.tuple #[.agg #[.int .i64 0,.int .i64 0],.int .i64 122])∧Turned [] w w':=by
 refine (cTNext (k:=7) hT hA hO hH (by decide) (by decide)).mono ?_
 rintro e w' ⟨ht,he⟩
 rw [show ((prs (some kt3)).find? fun x=>decide ((7:Int)+1≤x.1))=none from by decide] at he
 exact ⟨he,ht⟩
theorem kDrop {St:List Nat} {it:Nat} (hT:TrieB w tb p) (hA:PoolAt w p F s) (hV:PV s St it) (hit:it≤900000000) (hH:Holds s (some kt3)) (hn:1≤St.length):Calls Tryz.prog 12 #[pt tb,.pointer none,.int .i64 6597069766657,.int .i64 6] w fun e w'=>∃ root ga gc ma mc,e=.returned (.tuple #[edit root 60 true (.slice ga 3 gc) (.slice ma 1 mc),.int .i64 0])∧Turned F w w' :=
 kdrop (t:=kt3) (k:=6) hT hA hV hit hH (by decide) (by decide) kv (kd _) hn kg
end
end Go.Proofs.YtcinlaacgbfojaaGreatDoor

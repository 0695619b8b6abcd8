/- Package trie's Drop, walked. (Written by tools/gen/gendrop.py.) -/
import Derived.Test.YtloljphbdfjgdaaGreatDoorK31
namespace Go.Proofs.YtloljphbdfjgdaaGreatDoor
open Go.RowKit
theorem drop_ret {a:Act} {z:World} {b:Nat} {r o er:Int} {h:Bool} {ga ma:Option Addr} {gl gc ml mc:Nat} {R:Ending→World→Prop} (hs:a.tmps.size=95) (hd:a.defers=[]) (x8:a.eval (.tmp 8)=.pointer (some ⟨b,0,none⟩)) (x9:a.eval (.tmp 9)=.int .i64 er) (hb:z.heap[b]?=some (.cells #[.int .i64 r,.int .i64 o,.bool h,.slice ga gl gc,.slice ma ml mc] 40 (0,0)))
  (hR:R (.returned (.tuple #[edit r o h (.slice ga gl gc) (.slice ma ml mc),.int .i64 er])) z):bodyPost Tryz.prog Tryz.f26 R .ret a z:=by
 obtain ⟨⟨e0,e1,e2,e3,e4⟩,-⟩:=cells5 hb
 refine bodyPost_ret ?_ hd hR
 obtain ⟨cc,hcc,hce⟩:=expand95 hs hd
 have g8:=(hce 8).trans x8
 have g9:=(hce 9).trans x9
 subst hcc
 simp only [lit95,g8,g9]
 simp [results,Tryz.results26,go_sem,e0,e1,e2,e3,e4]
set_option maxRecDepth 100000 in
set_option maxHeartbeats 800000 in
theorem cDropA {w:World} {tb:Nat} {k:Int} (hk:¬ isKey k) (r:Int):Calls Tryz.prog 26 #[pt tb,.pointer none,.int .i64 r,.int .i64 k] w fun e w'=>e=.returned (.tuple #[edit 0 0 false (.slice none 0 0) (.slice none 0 0),.int .i64 120])∧Turned [] w w':=by
 have HK:Hid (∀ x,Calls Tryz.prog 41 #[.int .i64 k] x fun e w'=>e=.returned (.bool false)∧Turned [] x w'):=cIsKey k (decide_eq_false hk)
 clear hk
 go_enter Tryz.func26,Tryz.ntmps26
 go_wp2_with (first
  | (go_at_call 41; refine (HK.out _).mono ?_; rintro e w1 ⟨rfl,ht1⟩; obtain ⟨hb,htt⟩:=one_cells ht1; obtain ⟨⟨c0,c1,c2,c3,c4⟩,z0,z1,z2,z3,z4⟩:=cells5 hb; have HT1:Hid (Turned [] w w1):=htt; have HB:Hid _:=hb; clear ht1 htt hb)
  | (go_at_call 42; refine (cIdle _ _).mono ?_; rintro e w2 ⟨rfl,rfl⟩))
 exact drop_ret (b:=w.heap.size) (r:=0) (o:=0) (h:=false) (ga:=none) (gl:=0) (gc:=0) (ma:=none) (ml:=0) (mc:=0) rfl rfl rfl rfl (wr5_b HB.out) ⟨rfl,HT1.out.inner wr5_t (by simp)⟩
set_option maxRecDepth 100000 in
set_option maxHeartbeats 800000 in
theorem cDropN {w:World} {tb:Nat} {k:Int} (k0:0≤k) (k1:k≤4294967295):Calls Tryz.prog 26 #[pt tb,.pointer none,.int .i64 0,.int .i64 k] w fun e w'=>e=.returned (.tuple #[edit 0 0 false (.slice none 0 0) (.slice none 0 0),.int .i64 122])∧Turned [] w w':=by
 have HK:Hid (∀ x,Calls Tryz.prog 41 #[.int .i64 k] x fun e w'=>e=.returned (.bool true)∧Turned [] x w'):=cIsKey k (decide_eq_true ⟨k0,k1⟩)
 clear k0 k1
 go_enter Tryz.func26,Tryz.ntmps26
 go_wp2_with (first
  | (go_at_call 41; refine (HK.out _).mono ?_; rintro e w1 ⟨rfl,ht1⟩; obtain ⟨hb,htt⟩:=one_cells ht1; obtain ⟨⟨c0,c1,c2,c3,c4⟩,z0,z1,z2,z3,z4⟩:=cells5 hb; have HT1:Hid (Turned [] w w1):=htt; have HB:Hid _:=hb; clear ht1 htt hb)
  | (go_at_call 42; refine (cIdle _ _).mono ?_; rintro e w2 ⟨rfl,rfl⟩))
 exact drop_ret (b:=w.heap.size) (r:=0) (o:=0) (h:=false) (ga:=none) (gl:=0) (gc:=0) (ma:=none) (ml:=0) (mc:=0) rfl rfl rfl rfl (wr5_b HB.out) ⟨rfl,HT1.out.inner wr5_t (by simp)⟩
theorem blk_new1' (w:World) (o1 o2:Obj):((w.alloc o1).alloc o2).heap[w.heap.size+1]?=some o2:=by
 have:=blk_new (w.alloc o1) o2
 rwa [World.size_alloc] at this
set_option maxRecDepth 100000 in
set_option maxHeartbeats 800000 in
theorem cDropM {w:World} {tb p it:Nat} {F:List Nat} {s:PSt} {St:List Nat} {k:Int} {t:Tr} (hT:TrieB w tb p) (hA:PoolAt w p F s) (hV:PV s St it) (hit:it≤900000000) (hR:Rep s t) (hw:t.WF) (k0:0≤k) (k1:k≤4294967295) (hval:Tr.val k (t.stop k)=none):Calls Tryz.prog 26 #[pt tb,.pointer none,.int .i64 t.hd,.int .i64 k] w (fun e w'=>e=.returned (.tuple #[edit 0 0 false (.slice none 0 0) (.slice none 0 0),.int .i64 122])∧Turned [] w w'):=by
 have HK:Hid (∀ x,Calls Tryz.prog 41 #[.int .i64 k] x fun e w'=>e=.returned (.bool true)∧Turned [] x w'):=cIsKey k (decide_eq_true ⟨k0,k1⟩)
 have HH:Hid (TrieB w tb p∧PoolAt w p F s∧PV s St it∧it≤900000000):=⟨hT,hA,hV,hit⟩
 have hpos:=hR.top.pos
 have hz:(t.hd == 0)=false:=by simp; omega
 have HD:Hid (∀ x,Turned [] w x→Calls Tryz.prog 45 #[pt tb,.pointer none,.int .i64 t.hd,.int .i64 k] x (DownR x k t)):=fun x hx=>cDown (hT.still hx) (hA.still hx) hV.ok hR hw k0 k1
 obtain ⟨T,nvv,hN⟩:=nv_form (t.stop k)
 have HN:Hid _:=hN
 have HF:Hid (∀ (va:Option Addr) (vn vc:Nat) (a b:Int) (x:World),Calls Tryz.prog 46 #[.agg #[.slice va vn vc,.int .i64 (t.stop k).hd,.int .i64 a,.int .i64 b,.iface T nvv],.int .i64 k] x fun e w'=>e=.returned (.tuple #[.int .i64 0,.bool false])∧Turned [] x w'):=fun va vn vc a b x=>by
  have:=cDFind (va:=va) (vn:=vn) (vc:=vc) (t.stop k) (t.stop k).hd a b k x
  rw [hN,hval] at this
  exact this

 obtain ⟨R,hRR⟩:∃ R:Ending→World→Prop,R=(fun e w'=>e=.returned (.tuple #[edit 0 0 false (.slice none 0 0) (.slice none 0 0),.int .i64 122])∧Turned [] w w'):=⟨_,rfl⟩
 rw [← hRR]
 have HRR:Hid _:=hRR
 clear hRR
 clear hT hA hV hit hR hw k0 k1 hpos hN hval
 generalize t.hd=th at *
 go_enter Tryz.func26,Tryz.ntmps26
 go_wp2_with (first
  | (go_at_call 41; refine (HK.out _).mono ?_; rintro e w1 ⟨rfl,ht1⟩; obtain ⟨hb,htt⟩:=one_cells ht1; have HT1:Hid (Turned [] w w1):=htt; have HB:Hid _:=hb; have l1:w.heap.size < w1.heap.size:=lt_of_heap hb; clear ht1 htt hb)
  | (go_at_call 45; refine (HD.out _ HT1.out).mono ?_; rintro e w2 ⟨v',a,b,rfl,ht2,hsr,-,-⟩; obtain ⟨va,vc,rfl⟩:=hsr.form; rw [HN.out]; have HT2:Hid (Turned [] w w2):=HT1.out.trans ht2; have HB2:Hid _:=ht2.heap HB.out (by simp); have HSR:Hid _:=hsr.lower (Nat.zero_le _); have l2:w1.heap.size≤w2.heap.size:=ht2.size; clear ht2 hsr)
  | (go_at_call 46; refine (HF.out _ _ _ _ _ _).mono ?_; rintro e w3 ⟨rfl,ht3⟩; obtain ⟨hdb,htt⟩:=one_cells ht3; have HDB:Hid _:=hdb; have HT3:Hid (Turned [] w w3):=HT2.out.trans htt; have hb3:=htt.heap HB2.out (by simp); have HB3:Hid _:=hb3; have HSR3:Hid _:=HSR.out.still htt; have l3:w2.heap.size < w3.heap.size:=lt_of_heap hdb; obtain ⟨d0,d1,d2,d3,d4⟩:=(cells5 hdb).1; obtain ⟨⟨c0,c1,c2,c3,c4⟩,z0,z1,z2,z3,z4⟩:=cells5 hb3; clear ht3 htt hdb hb3))
 refine drop_ret (b:=w.heap.size) (r:=0) (o:=0) (h:=false) (ga:=none) (gl:=0) (gc:=0) (ma:=none) (ml:=0) (mc:=0) rfl rfl rfl rfl (wr5_b HB3.out) ?_
 rw [HRR.out]
 exact ⟨rfl,HT3.out.inner wr5_t (by simp)⟩
set_option maxRecDepth 100000 in
set_option maxHeartbeats 800000 in
theorem cDrop0 {w:World} {tb p it:Nat} {F:List Nat} {s:PSt} {St:List Nat} {k:Int} {t:Tr} (hT:TrieB w tb p) (hA:PoolAt w p F s) (hV:PV s St it) (hit:it≤900000000) (hR:Rep s t) (hw:t.WF) (k0:0≤k) (k1:k≤4294967295) {ov:Int} (hval:Tr.val k (t.stop k)=some ov) (hway:t.way k=[]):Calls Tryz.prog 26 #[pt tb,.pointer none,.int .i64 t.hd,.int .i64 k] w (PutX w p tb F s St it none 0 ov true [(t.stop k).hd]):=by
 have HK:Hid (∀ x,Calls Tryz.prog 41 #[.int .i64 k] x fun e w'=>e=.returned (.bool true)∧Turned [] x w'):=cIsKey k (decide_eq_true ⟨k0,k1⟩)
 have HH:Hid (TrieB w tb p∧PoolAt w p F s∧PV s St it∧it≤900000000):=⟨hT,hA,hV,hit⟩
 have hpos:=hR.top.pos
 have hz:(t.hd == 0)=false:=by simp; omega
 have HD:Hid (∀ x,Turned [] w x→Calls Tryz.prog 45 #[pt tb,.pointer none,.int .i64 t.hd,.int .i64 k] x (DownR x k t)):=fun x hx=>cDown (hT.still hx) (hA.still hx) hV.ok hR hw k0 k1
 obtain ⟨T,nvv,hN⟩:=nv_form (t.stop k)
 have HN:Hid _:=hN
 have HF:Hid (∀ (va:Option Addr) (vn vc:Nat) (a b:Int) (x:World),Calls Tryz.prog 46 #[.agg #[.slice va vn vc,.int .i64 (t.stop k).hd,.int .i64 a,.int .i64 b,.iface T nvv],.int .i64 k] x fun e w'=>e=.returned (.tuple #[.int .i64 ov,.bool true])∧Turned [] x w'):=fun va vn vc a b x=>by
  have:=cDFind (va:=va) (vn:=vn) (vc:=vc) (t.stop k) (t.stop k).hd a b k x
  rw [hN,hval] at this
  exact this
 have hwl:(t.way k).length=0:=by rw [hway]; rfl
 have HWL:Hid _:=hwl
 obtain ⟨R,hRR⟩:∃ R:Ending→World→Prop,R=(PutX w p tb F s St it none 0 ov true [(t.stop k).hd]):=⟨_,rfl⟩
 rw [← hRR]
 have HRR:Hid _:=hRR
 clear hRR
 clear hT hA hV hit hR hw k0 k1 hpos hN hval hway hwl
 generalize t.hd=th at *
 go_enter Tryz.func26,Tryz.ntmps26
 go_wp2_with (first
  | (go_at_call 41; refine (HK.out _).mono ?_; rintro e w1 ⟨rfl,ht1⟩; obtain ⟨hb,htt⟩:=one_cells ht1; have HT1:Hid (Turned [] w w1):=htt; have HB:Hid _:=hb; have l1:w.heap.size < w1.heap.size:=lt_of_heap hb; clear ht1 htt hb)
  | (go_at_call 45; refine (HD.out _ HT1.out).mono ?_; rintro e w2 ⟨v',a,b,rfl,ht2,hsr,-,-⟩; obtain ⟨va,vc,hv'⟩:=hsr.form; rw [HWL.out] at hv'; subst hv'; rw [HN.out]; have HT2:Hid (Turned [] w w2):=HT1.out.trans ht2; have HB2:Hid _:=ht2.heap HB.out (by simp); have HSR:Hid _:=hsr.lower (Nat.zero_le _); have l2:w1.heap.size≤w2.heap.size:=ht2.size; clear ht2 hsr)
  | (go_at_call 46; refine (HF.out _ _ _ _ _ _).mono ?_; rintro e w3 ⟨rfl,ht3⟩; obtain ⟨hdb,htt⟩:=one_cells ht3; have HDB:Hid _:=hdb; have HT3:Hid (Turned [] w w3):=HT2.out.trans htt; have hb3:=htt.heap HB2.out (by simp); have HB3:Hid _:=hb3; have HSR3:Hid _:=HSR.out.still htt; have l3:w2.heap.size < w3.heap.size:=lt_of_heap hdb; obtain ⟨d0,d1,d2,d3,d4⟩:=(cells5 hdb).1; obtain ⟨⟨c0,c1,c2,c3,c4⟩,z0,z1,z2,z3,z4⟩:=cells5 hb3; clear ht3 htt hdb hb3)
  | (go_at_call 44; refine (mEnd0 (o':=none) (Ini.mk1 (b10:=w.heap.size) (lb:=w3.heap.size) (eh:=(t.stop k).hd) (D:=fun _=>True) HH.out.1 HH.out.2.1 ((HT3.out.alloc _).alloc _) (blk_new1' _ _ _) (blk_old (blk_new _ _) _) (by have:=HT3.out.size; omega) (blk_old (blk_old HB3.out _) _) trivial) HH.out.2.2.1 HH.out.2.2.2 (fun _ h=>nomatch h)).mono ?_; rintro e y ⟨hpx,hb3⟩; have HPX:Hid (PutX w p tb F s St it none 0 ov true [(t.stop k).hd] e y):=hpx; have HB4:Hid _:=hb3; obtain ⟨q0,q1,q2,q3,q4⟩:=(cells5 hb3).1; obtain ⟨y0,y1,y2,y3,y4⟩:=(cells5 hb3).2; obtain ⟨er,root2,old2,had2,ga,gl,gc,ma,ml,mc,_,_,_,_,_,_,he,-⟩:=hpx; subst he; clear hb3))
 refine drop_ret (b:=w.heap.size) (r:=root2) (o:=old2) (h:=had2) (ga:=ga) (gl:=gl) (gc:=gc) (ma:=ma) (ml:=ml) (mc:=mc) rfl rfl rfl rfl (wr5_b HB4.out) ?_
 rw [HRR.out]
 exact HPX.out.keep HB4.out (by decide) (by decide) (Nat.le_refl _) wr5_t
end Go.Proofs.YtloljphbdfjgdaaGreatDoor
/- Package trie's Drop of a key above which a node stands, walked. (Written by tools/gen/gendrop.py.) -/
namespace Go.Proofs.YtloljphbdfjgdaaGreatDoor
open Go.RowKit
theorem Tr.up_len {s:PSt} {g:Nat→Int} {u0:Tr × Nat}:∀ {l:List (Tr × Int)},(∀ y∈l,StpL s y)→(l.foldr (Tr.up g) u0).2=u0.2+l.length
 | [],_=>rfl
 | z :: l,hk=>by
  obtain ⟨h1,q1,c1,l1,r1,hz,-⟩:=hk z (by simp)
  rw [List.foldr_cons,Tr.up_two ⟨h1,q1,c1,l1,r1,hz⟩,Tr.up_len (fun y hy=>hk y (by simp [hy])),List.length_cons]
  omega
theorem blk_new2' (w:World) (o1 o2 o3:Obj):(((w.alloc o1).alloc o2).alloc o3).heap[w.heap.size+1+1]?=some o3:=by
 have:=blk_new ((w.alloc o1).alloc o2) o3
 rwa [World.size_alloc,World.size_alloc] at this
theorem stop_leaf {k ov:Int} {t:Tr} (hw:t.WF) (hval:Tr.val k (t.stop k)=some ov):∃ h',t.stop k=Tr.leaf h' k ov:=by
 rcases Tr.stop_span (k:=k) hw with ⟨h,v',e⟩ | h
 ·rw [e] at hval; simp [Tr.val] at hval; exact ⟨h,by rw [e,hval]⟩
 ·exfalso
  cases e:t.stop k with
  | leaf h2 k2 v2=>rw [e] at h hval; simp only [Tr.lo,Tr.hi] at h; simp only [Tr.val] at hval; rw [if_neg (by omega)] at hval; cases hval
  | node h2 q c l r=>rw [e] at hval; simp [Tr.val] at hval
set_option maxRecDepth 100000 in
set_option maxHeartbeats 800000 in
theorem cDrop10 {w:World} {tb p it:Nat} {F:List Nat} {s:PSt} {St:List Nat} {k:Int} {t:Tr} (hT:TrieB w tb p) (hA:PoolAt w p F s) (hV:PV s St it) (hit:it≤900000000) (hR:Rep s t) (hw:t.WF) (k0:0≤k) (k1:k≤4294967295) {ov:Int} {l:List (Tr × Int)} {x:Tr × Int} {h1 cf:Int} {q1:Nat} {lt rt:Tr} (hval:Tr.val k (t.stop k)=some ov) (hway:t.way k=l ++ [x]) (hxe:x=(Tr.node h1 q1 cf lt rt,0)):Calls Tryz.prog 26 #[pt tb,.pointer none,.int .i64 t.hd,.int .i64 k] w (PutX w p tb F s St it (some (l.foldr (Tr.up (gOf s St)) (rt,0)).1) (l.foldr (Tr.up (gOf s St)) (rt,0)).2 ov true (Tr.gone k t)):=by
 have HK:Hid (∀ x,Calls Tryz.prog 41 #[.int .i64 k] x fun e w'=>e=.returned (.bool true)∧Turned [] x w'):=cIsKey k (decide_eq_true ⟨k0,k1⟩)
 have HH:Hid (TrieB w tb p∧PoolAt w p F s∧PV s St it∧it≤900000000):=⟨hT,hA,hV,hit⟩
 have hpos:=hR.top.pos
 have hz:(t.hd == 0)=false:=by simp; omega
 have HD:Hid (∀ x,Turned [] w x→Calls Tryz.prog 45 #[pt tb,.pointer none,.int .i64 t.hd,.int .i64 k] x (DownR x k t)):=fun x hx=>cDown (hT.still hx) (hA.still hx) hV.ok hR hw k0 k1
 obtain ⟨T,nvv,hN⟩:=nv_form (t.stop k)
 have HN:Hid _:=hN
 have HF:Hid (∀ (va:Option Addr) (vn vc:Nat) (a b:Int) (x:World),Calls Tryz.prog 46 #[.agg #[.slice va vn vc,.int .i64 (t.stop k).hd,.int .i64 a,.int .i64 b,.iface T nvv],.int .i64 k] x fun e w'=>e=.returned (.tuple #[.int .i64 ov,.bool true])∧Turned [] x w'):=fun va vn vc a b x=>by
  have:=cDFind (va:=va) (vn:=vn) (vc:=vc) (t.stop k) (t.stop k).hd a b k x
  rw [hN,hval] at this
  exact this
 have hx:x=(Tr.node h1 q1 cf lt rt,0):=hxe
 have hst:=way_stp hV.ok k hR hw
 rw [hway] at hst
 have hch:=Tr.chn_way k t
 rw [hway] at hch
 have hchi:=hch.init.1
 have hle:(l ++ [x]).length≤40:=by rw [← hway]; have:=Tr.way_len k hw; have:=hw.deep32; omega
 have hl40:l.length≤39:=by simp at hle; omega
 have hS1:Stp s h1 cf q1 lt rt:=by
  obtain ⟨h',q',c',l',r',e,hS⟩:=hst x (by simp)
  rw [hx] at e
  injection e with e1 e2 e3 e4 e5
  subst e1 e2 e3 e4 e5
  exact hS
 have hRo:Rep s rt:=hS1.rep.2.2
 have hleaf:∃ h',t.stop k=Tr.leaf h' k ov:=stop_leaf hw hval
 obtain ⟨lh,hlf⟩:=hleaf
 have hce:(lt).cnt=1:=by
  have h3:=hch.drop l.length
  rw [List.drop_left'] at h3
  ·obtain ⟨⟨h',q',c',l',r',e,e2⟩,-⟩:=h3
   rw [hx] at e e2
   injection e with e3 e4 e5 e6 e7
   subst e3 e4 e5 e6 e7
   rcases e2 with ⟨hz,e2⟩ | ⟨hz,e2⟩
   ·rw [e2]; show (t.stop k).cnt=1; rw [hlf]; rfl
   ·exact absurd (show (0:Int)=1 from hz) (by decide)
  ·rfl
 have hgn:[(t.stop k).hd,h1] ++ l.reverse.map Tr.hdS=Tr.gone k t:=by
  rw [Tr.gone_way,hway,hx,hlf]; simp [Tr.gone,Tr.hd,Tr.hdS]
 have HL:Hid (∀ {cb b10:Nat} {D:World→Prop} {X:World} {g vc:Nat},Mid w cb tb p it b10 F s St ov true D X (rt,0) [(t.stop k).hd,h1]→Calm D→w.heap.size≤cb→SR 0 X (.slice (some ⟨g,0,none⟩) (l.length+1) vc) (l ++ [x])→Calls Tryz.prog 47 #[.pointer (some ⟨cb,0,none⟩),.slice (some ⟨g,0,none⟩) l.length vc,.int .i64 (-1)] X fun e' y=>e'=.returned (.tuple #[])∧Mid w cb tb p it b10 F s St ov true D y (l.foldr (Tr.up (gOf s St)) (rt,0)) (Tr.gone k t)):=fun hm hD hge hsr=>by
  have:=mClimb (e:=x.1) (more:=-1) hm hD hge hsr.init (by omega) (show 0≤10 by decide) (by simp) hit (by decide) (fun y hy=>hst y (by simp [hy])) hchi (by rw [hx]; show ((rt).cnt:Int)=((Tr.node h1 q1 cf lt rt).cnt:Int) + -1; rw [Tr.cnt_node]; omega)
  rw [hgn] at this
  exact this
 have HU:Hid ((l.foldr (Tr.up (gOf s St)) (rt,0)).2≤100):=by
  show _≤100
  rw [Tr.up_len (fun y hy=>hst y (by simp [hy]))]
  show 0+l.length≤100
  omega
 have HRo:Hid (Rep s rt):=hRo
 have HCL:Hid (∀ {X:World} {g vc:Nat},SR 0 X (.slice (some ⟨g,0,none⟩) (l.length+1) vc) (l ++ [x])→X.cell? ⟨g,l.length * 7,none⟩=some (.int .i64 h1)∧X.cell? ⟨g,l.length * 7+1,none⟩=some (.int .i64 cf)∧X.cell? ⟨g,l.length * 7+2,none⟩=some (.int .i64 q1)∧X.cell? ⟨g,l.length * 7+3,none⟩=some (.int .i64 lt.hd)∧X.cell? ⟨g,l.length * 7+4,none⟩=some (.int .i64 rt.hd)∧X.cell? ⟨g,l.length * 7+5,none⟩=some (.int .i64 ((lt.cnt+rt.cnt:Nat):Int))∧X.cell? ⟨g,l.length * 7+6,none⟩=some (.int .i64 0)):=fun hsr =>
  SR.cells (l:=l ++ [x]) (i:=l.length) (by simpa using hsr) (by simp) (by simp [hx,stepC])
 have HWY:Hid _:=hway
 have HL40:Hid (l.length≤39):=hl40
 have hlo:l.length+1≤40:=by omega
 obtain ⟨cn,hcn⟩:∃ cn:Int,((lt.cnt+rt.cnt:Nat):Int)=cn:=⟨_,rfl⟩
 have HCN:Hid _:=hcn
 clear hcn
 obtain ⟨R,hRR⟩:∃ R:Ending→World→Prop,R=(PutX w p tb F s St it (some (l.foldr (Tr.up (gOf s St)) (rt,0)).1) (l.foldr (Tr.up (gOf s St)) (rt,0)).2 ov true (Tr.gone k t)):=⟨_,rfl⟩
 rw [← hRR]
 have HRR:Hid _:=hRR
 clear hRR
 clear hT hA hV hit hR hw k0 k1 hpos hN hval hway hxe hx hst hch hchi hle hS1 hRo hlf hce hgn hl40
 generalize t.hd=th at *
 go_enter Tryz.func26,Tryz.ntmps26
 go_wp2_with (first
  | (go_at_call 41; refine (HK.out _).mono ?_; rintro e w1 ⟨rfl,ht1⟩; obtain ⟨hb,htt⟩:=one_cells ht1; have HT1:Hid (Turned [] w w1):=htt; have HB:Hid _:=hb; have l1:w.heap.size < w1.heap.size:=lt_of_heap hb; clear ht1 htt hb)
  | (go_at_call 45; refine (HD.out _ HT1.out).mono ?_; rintro e w2 ⟨v',a,b,rfl,ht2,hsr,-,-⟩; rw [HWY.out] at hsr; obtain ⟨g,vc,hv',hcap,hmx⟩:=hsr.some; subst hv'; rw [HN.out]; have HT2:Hid (Turned [] w w2):=HT1.out.trans ht2; have HB2:Hid _:=ht2.heap HB.out (by simp); have HSR:Hid _:=hsr.lower (Nat.zero_le _); have l2:w1.heap.size≤w2.heap.size:=ht2.size; clear ht2 hsr)
  | (go_at_call 46; refine (HF.out _ _ _ _ _ _).mono ?_; rintro e w3 ⟨rfl,ht3⟩; obtain ⟨hdb,htt⟩:=one_cells ht3; have HDB:Hid _:=hdb; have HT3:Hid (Turned [] w w3):=HT2.out.trans htt; have hb3:=htt.heap HB2.out (by simp); have HB3:Hid _:=hb3; have HSR3:Hid _:=HSR.out.still htt; have l3:w2.heap.size < w3.heap.size:=lt_of_heap hdb; obtain ⟨d0,d1,d2,d3,d4⟩:=(cells5 hdb).1; obtain ⟨⟨c0,c1,c2,c3,c4⟩,z0,z1,z2,z3,z4⟩:=cells5 hb3; obtain ⟨k0,k1,k2,k3,k4,k5,k6⟩:=HCL.out HSR3.out; rw [HCN.out] at k5; have lg:g < w3.heap.size:=(HSR3.out.fresh rfl).2; clear ht3 htt hdb hb3)
  | (at_builtin; have hini:=(Ini.mk1 (b10:=w.heap.size) (cb:=w3.heap.size+1) (lb:=w3.heap.size) (eh:=(t.stop k).hd) (old:=ov) (D:=(fun X=>X.heap[w2.heap.size]?=some (.cells #[.slice (some ⟨g,0,none⟩) (l.length+1) vc,.int .i64 (t.stop k).hd,.int .i64 a,.int .i64 b,.iface T nvv] 132 (0,0))∧SR 0 X (.slice (some ⟨g,0,none⟩) (l.length+1) vc) (l ++ [x])∧X.heap[w3.heap.size+1+1]?=some (.cells #[.int .i64 h1,.int .i64 cf,.int .i64 q1,.int .i64 lt.hd,.int .i64 rt.hd,.int .i64 cn,.int .i64 0] 153 (0,0)))) HH.out.1 HH.out.2.1 (((HT3.out.alloc _).alloc _).alloc _) (blk_old (blk_new1' _ _ _) _) (blk_old (blk_old (blk_new _ _) _) _) (by have:=HT3.out.size; omega) (blk_old (blk_old (blk_old HB3.out _) _) _) ⟨blk_old (blk_old (blk_old HDB.out _) _) _,HSR3.out.still (((((Turned.refl [] _).alloc _).alloc _).alloc _)),blk_new2' _ _ _ _⟩); refine wpList_apInt (v:=.slice (some ⟨w3.heap.size,0,none⟩) 1 1) (x:=h1) (g:=w3.heap.size+1+1+1) (l:=[(t.stop k).hd]) (B:=w.heap.size) rfl _ _ rfl rfl rfl (hini.cg.still ((Turned.refl [] _).alloc _)).gr rfl (by go_simp) (by simp) (by have:=HT3.out.size; simp; omega) ?_; intro v2 w11 hsr ht11 hor; obtain ⟨hi2,hcb2⟩:=hini.went ((calm_cells (by decide)).and (calm_sr.and (calm_cells (by decide)))) (by have:=HT3.out.size; omega) ((Turned.refl [] _).alloc _) ht11 hsr hor; obtain ⟨va2,vc2,hv2⟩:=hsr.form; have HI2:Hid _:=hi2; have hdb2:w11.heap[w2.heap.size]?=_:=(blk_other (by omega) _ _).symm.trans hi2.d.1; have hsb2:w11.heap[w3.heap.size+1+1]?=_:=(blk_other (by omega) _ _).symm.trans hi2.d.2.2; have c5b:w11.cell? ⟨w3.heap.size+1,5,none⟩=some (.slice (some ⟨w3.heap.size,0,none⟩) 1 1):=(by rw [cell_at hcb2]; rfl); have z5b:=froz_at hcb2 5; have c2b:w11.cell? ⟨w3.heap.size+1,2,none⟩=some (.int .i64 0):=(by rw [cell_at hcb2]; rfl); have z2b:=froz_at hcb2 2; obtain ⟨⟨s0,s1,s2,s3,s4,s5,s6⟩,-⟩:=cells7 hsb2; obtain ⟨e0,e1,e2,e3,e4⟩:=(cells5 hdb2).1; have hv3:v2=.slice va2 2 vc2:=(by rw [hv2]; simp); clear hv2; subst hv3; clear hi2 hcb2 hini hsr ht11 hor hdb2 hsb2)
  | (go_at_call 47; refine (HL.out ((HI2.out.cell ((calm_cells (by decide)).and (calm_sr.and (calm_cells (by decide)))) (by have:=HT3.out.size; omega) _).mid HH.out.2.2.1 HRo.out) ((calm_cells (by decide)).and (calm_sr.and (calm_cells (by decide)))) (by have:=HT3.out.size; omega) (HI2.out.cell ((calm_cells (by decide)).and (calm_sr.and (calm_cells (by decide)))) (by have:=HT3.out.size; omega) _).d.2.1).mono ?_; rintro e w6 ⟨rfl,hm⟩; have HM6:Hid _:=hm; clear hm)
  | (go_at_call 44; refine (mEnd HM6.out HH.out.2.2.1 HU.out HH.out.2.2.2).mono ?_; rintro e y ⟨hpx,hb3⟩; have HPX:Hid (PutX w p tb F s St it (some (l.foldr (Tr.up (gOf s St)) (rt,0)).1) (l.foldr (Tr.up (gOf s St)) (rt,0)).2 ov true (Tr.gone k t) e y):=hpx; have HB4:Hid _:=hb3; obtain ⟨q0,q1,q2,q3,q4⟩:=(cells5 hb3).1; obtain ⟨y0,y1,y2,y3,y4⟩:=(cells5 hb3).2; obtain ⟨er,root2,old2,had2,ga,gl,gc,ma,ml,mc,_,_,_,_,_,_,he,-⟩:=hpx; subst he; clear hb3))
 refine drop_ret (b:=w.heap.size) (r:=root2) (o:=old2) (h:=had2) (ga:=ga) (gl:=gl) (gc:=gc) (ma:=ma) (ml:=ml) (mc:=mc) rfl rfl rfl rfl (wr5_b HB4.out) ?_
 rw [HRR.out]
 exact HPX.out.keep HB4.out (by decide) (by decide) (Nat.le_refl _) wr5_t
set_option maxRecDepth 100000 in
set_option maxHeartbeats 800000 in
theorem cDrop11 {w:World} {tb p it:Nat} {F:List Nat} {s:PSt} {St:List Nat} {k:Int} {t:Tr} (hT:TrieB w tb p) (hA:PoolAt w p F s) (hV:PV s St it) (hit:it≤900000000) (hR:Rep s t) (hw:t.WF) (k0:0≤k) (k1:k≤4294967295) {ov:Int} {l:List (Tr × Int)} {x:Tr × Int} {h1 cf:Int} {q1:Nat} {lt rt:Tr} (hval:Tr.val k (t.stop k)=some ov) (hway:t.way k=l ++ [x]) (hxe:x=(Tr.node h1 q1 cf lt rt,1)):Calls Tryz.prog 26 #[pt tb,.pointer none,.int .i64 t.hd,.int .i64 k] w (PutX w p tb F s St it (some (l.foldr (Tr.up (gOf s St)) (lt,0)).1) (l.foldr (Tr.up (gOf s St)) (lt,0)).2 ov true (Tr.gone k t)):=by
 have HK:Hid (∀ x,Calls Tryz.prog 41 #[.int .i64 k] x fun e w'=>e=.returned (.bool true)∧Turned [] x w'):=cIsKey k (decide_eq_true ⟨k0,k1⟩)
 have HH:Hid (TrieB w tb p∧PoolAt w p F s∧PV s St it∧it≤900000000):=⟨hT,hA,hV,hit⟩
 have hpos:=hR.top.pos
 have hz:(t.hd == 0)=false:=by simp; omega
 have HD:Hid (∀ x,Turned [] w x→Calls Tryz.prog 45 #[pt tb,.pointer none,.int .i64 t.hd,.int .i64 k] x (DownR x k t)):=fun x hx=>cDown (hT.still hx) (hA.still hx) hV.ok hR hw k0 k1
 obtain ⟨T,nvv,hN⟩:=nv_form (t.stop k)
 have HN:Hid _:=hN
 have HF:Hid (∀ (va:Option Addr) (vn vc:Nat) (a b:Int) (x:World),Calls Tryz.prog 46 #[.agg #[.slice va vn vc,.int .i64 (t.stop k).hd,.int .i64 a,.int .i64 b,.iface T nvv],.int .i64 k] x fun e w'=>e=.returned (.tuple #[.int .i64 ov,.bool true])∧Turned [] x w'):=fun va vn vc a b x=>by
  have:=cDFind (va:=va) (vn:=vn) (vc:=vc) (t.stop k) (t.stop k).hd a b k x
  rw [hN,hval] at this
  exact this
 have hx:x=(Tr.node h1 q1 cf lt rt,1):=hxe
 have hst:=way_stp hV.ok k hR hw
 rw [hway] at hst
 have hch:=Tr.chn_way k t
 rw [hway] at hch
 have hchi:=hch.init.1
 have hle:(l ++ [x]).length≤40:=by rw [← hway]; have:=Tr.way_len k hw; have:=hw.deep32; omega
 have hl40:l.length≤39:=by simp at hle; omega
 have hS1:Stp s h1 cf q1 lt rt:=by
  obtain ⟨h',q',c',l',r',e,hS⟩:=hst x (by simp)
  rw [hx] at e
  injection e with e1 e2 e3 e4 e5
  subst e1 e2 e3 e4 e5
  exact hS
 have hRo:Rep s lt:=hS1.rep.2.1
 have hleaf:∃ h',t.stop k=Tr.leaf h' k ov:=stop_leaf hw hval
 obtain ⟨lh,hlf⟩:=hleaf
 have hce:(rt).cnt=1:=by
  have h3:=hch.drop l.length
  rw [List.drop_left'] at h3
  ·obtain ⟨⟨h',q',c',l',r',e,e2⟩,-⟩:=h3
   rw [hx] at e e2
   injection e with e3 e4 e5 e6 e7
   subst e3 e4 e5 e6 e7
   rcases e2 with ⟨hz,e2⟩ | ⟨hz,e2⟩
   ·exact absurd (show (1:Int)=0 from hz) (by decide)
   ·rw [e2]; show (t.stop k).cnt=1; rw [hlf]; rfl
  ·rfl
 have hgn:[(t.stop k).hd,h1] ++ l.reverse.map Tr.hdS=Tr.gone k t:=by
  rw [Tr.gone_way,hway,hx,hlf]; simp [Tr.gone,Tr.hd,Tr.hdS]
 have HL:Hid (∀ {cb b10:Nat} {D:World→Prop} {X:World} {g vc:Nat},Mid w cb tb p it b10 F s St ov true D X (lt,0) [(t.stop k).hd,h1]→Calm D→w.heap.size≤cb→SR 0 X (.slice (some ⟨g,0,none⟩) (l.length+1) vc) (l ++ [x])→Calls Tryz.prog 47 #[.pointer (some ⟨cb,0,none⟩),.slice (some ⟨g,0,none⟩) l.length vc,.int .i64 (-1)] X fun e' y=>e'=.returned (.tuple #[])∧Mid w cb tb p it b10 F s St ov true D y (l.foldr (Tr.up (gOf s St)) (lt,0)) (Tr.gone k t)):=fun hm hD hge hsr=>by
  have:=mClimb (e:=x.1) (more:=-1) hm hD hge hsr.init (by omega) (show 0≤10 by decide) (by simp) hit (by decide) (fun y hy=>hst y (by simp [hy])) hchi (by rw [hx]; show ((lt).cnt:Int)=((Tr.node h1 q1 cf lt rt).cnt:Int) + -1; rw [Tr.cnt_node]; omega)
  rw [hgn] at this
  exact this
 have HU:Hid ((l.foldr (Tr.up (gOf s St)) (lt,0)).2≤100):=by
  show _≤100
  rw [Tr.up_len (fun y hy=>hst y (by simp [hy]))]
  show 0+l.length≤100
  omega
 have HRo:Hid (Rep s lt):=hRo
 have HCL:Hid (∀ {X:World} {g vc:Nat},SR 0 X (.slice (some ⟨g,0,none⟩) (l.length+1) vc) (l ++ [x])→X.cell? ⟨g,l.length * 7,none⟩=some (.int .i64 h1)∧X.cell? ⟨g,l.length * 7+1,none⟩=some (.int .i64 cf)∧X.cell? ⟨g,l.length * 7+2,none⟩=some (.int .i64 q1)∧X.cell? ⟨g,l.length * 7+3,none⟩=some (.int .i64 lt.hd)∧X.cell? ⟨g,l.length * 7+4,none⟩=some (.int .i64 rt.hd)∧X.cell? ⟨g,l.length * 7+5,none⟩=some (.int .i64 ((lt.cnt+rt.cnt:Nat):Int))∧X.cell? ⟨g,l.length * 7+6,none⟩=some (.int .i64 1)):=fun hsr =>
  SR.cells (l:=l ++ [x]) (i:=l.length) (by simpa using hsr) (by simp) (by simp [hx,stepC])
 have HWY:Hid _:=hway
 have HL40:Hid (l.length≤39):=hl40
 have hlo:l.length+1≤40:=by omega
 obtain ⟨cn,hcn⟩:∃ cn:Int,((lt.cnt+rt.cnt:Nat):Int)=cn:=⟨_,rfl⟩
 have HCN:Hid _:=hcn
 clear hcn
 obtain ⟨R,hRR⟩:∃ R:Ending→World→Prop,R=(PutX w p tb F s St it (some (l.foldr (Tr.up (gOf s St)) (lt,0)).1) (l.foldr (Tr.up (gOf s St)) (lt,0)).2 ov true (Tr.gone k t)):=⟨_,rfl⟩
 rw [← hRR]
 have HRR:Hid _:=hRR
 clear hRR
 clear hT hA hV hit hR hw k0 k1 hpos hN hval hway hxe hx hst hch hchi hle hS1 hRo hlf hce hgn hl40
 generalize t.hd=th at *
 go_enter Tryz.func26,Tryz.ntmps26
 go_wp2_with (first
  | (go_at_call 41; refine (HK.out _).mono ?_; rintro e w1 ⟨rfl,ht1⟩; obtain ⟨hb,htt⟩:=one_cells ht1; have HT1:Hid (Turned [] w w1):=htt; have HB:Hid _:=hb; have l1:w.heap.size < w1.heap.size:=lt_of_heap hb; clear ht1 htt hb)
  | (go_at_call 45; refine (HD.out _ HT1.out).mono ?_; rintro e w2 ⟨v',a,b,rfl,ht2,hsr,-,-⟩; rw [HWY.out] at hsr; obtain ⟨g,vc,hv',hcap,hmx⟩:=hsr.some; subst hv'; rw [HN.out]; have HT2:Hid (Turned [] w w2):=HT1.out.trans ht2; have HB2:Hid _:=ht2.heap HB.out (by simp); have HSR:Hid _:=hsr.lower (Nat.zero_le _); have l2:w1.heap.size≤w2.heap.size:=ht2.size; clear ht2 hsr)
  | (go_at_call 46; refine (HF.out _ _ _ _ _ _).mono ?_; rintro e w3 ⟨rfl,ht3⟩; obtain ⟨hdb,htt⟩:=one_cells ht3; have HDB:Hid _:=hdb; have HT3:Hid (Turned [] w w3):=HT2.out.trans htt; have hb3:=htt.heap HB2.out (by simp); have HB3:Hid _:=hb3; have HSR3:Hid _:=HSR.out.still htt; have l3:w2.heap.size < w3.heap.size:=lt_of_heap hdb; obtain ⟨d0,d1,d2,d3,d4⟩:=(cells5 hdb).1; obtain ⟨⟨c0,c1,c2,c3,c4⟩,z0,z1,z2,z3,z4⟩:=cells5 hb3; obtain ⟨k0,k1,k2,k3,k4,k5,k6⟩:=HCL.out HSR3.out; rw [HCN.out] at k5; have lg:g < w3.heap.size:=(HSR3.out.fresh rfl).2; clear ht3 htt hdb hb3)
  | (at_builtin; have hini:=(Ini.mk1 (b10:=w.heap.size) (cb:=w3.heap.size+1) (lb:=w3.heap.size) (eh:=(t.stop k).hd) (old:=ov) (D:=(fun X=>X.heap[w2.heap.size]?=some (.cells #[.slice (some ⟨g,0,none⟩) (l.length+1) vc,.int .i64 (t.stop k).hd,.int .i64 a,.int .i64 b,.iface T nvv] 132 (0,0))∧SR 0 X (.slice (some ⟨g,0,none⟩) (l.length+1) vc) (l ++ [x])∧X.heap[w3.heap.size+1+1]?=some (.cells #[.int .i64 h1,.int .i64 cf,.int .i64 q1,.int .i64 lt.hd,.int .i64 rt.hd,.int .i64 cn,.int .i64 1] 153 (0,0)))) HH.out.1 HH.out.2.1 (((HT3.out.alloc _).alloc _).alloc _) (blk_old (blk_new1' _ _ _) _) (blk_old (blk_old (blk_new _ _) _) _) (by have:=HT3.out.size; omega) (blk_old (blk_old (blk_old HB3.out _) _) _) ⟨blk_old (blk_old (blk_old HDB.out _) _) _,HSR3.out.still (((((Turned.refl [] _).alloc _).alloc _).alloc _)),blk_new2' _ _ _ _⟩); refine wpList_apInt (v:=.slice (some ⟨w3.heap.size,0,none⟩) 1 1) (x:=h1) (g:=w3.heap.size+1+1+1) (l:=[(t.stop k).hd]) (B:=w.heap.size) rfl _ _ rfl rfl rfl (hini.cg.still ((Turned.refl [] _).alloc _)).gr rfl (by go_simp) (by simp) (by have:=HT3.out.size; simp; omega) ?_; intro v2 w11 hsr ht11 hor; obtain ⟨hi2,hcb2⟩:=hini.went ((calm_cells (by decide)).and (calm_sr.and (calm_cells (by decide)))) (by have:=HT3.out.size; omega) ((Turned.refl [] _).alloc _) ht11 hsr hor; obtain ⟨va2,vc2,hv2⟩:=hsr.form; have HI2:Hid _:=hi2; have hdb2:w11.heap[w2.heap.size]?=_:=(blk_other (by omega) _ _).symm.trans hi2.d.1; have hsb2:w11.heap[w3.heap.size+1+1]?=_:=(blk_other (by omega) _ _).symm.trans hi2.d.2.2; have c5b:w11.cell? ⟨w3.heap.size+1,5,none⟩=some (.slice (some ⟨w3.heap.size,0,none⟩) 1 1):=(by rw [cell_at hcb2]; rfl); have z5b:=froz_at hcb2 5; have c2b:w11.cell? ⟨w3.heap.size+1,2,none⟩=some (.int .i64 0):=(by rw [cell_at hcb2]; rfl); have z2b:=froz_at hcb2 2; obtain ⟨⟨s0,s1,s2,s3,s4,s5,s6⟩,-⟩:=cells7 hsb2; obtain ⟨e0,e1,e2,e3,e4⟩:=(cells5 hdb2).1; have hv3:v2=.slice va2 2 vc2:=(by rw [hv2]; simp); clear hv2; subst hv3; clear hi2 hcb2 hini hsr ht11 hor hdb2 hsb2)
  | (go_at_call 47; refine (HL.out ((HI2.out.cell ((calm_cells (by decide)).and (calm_sr.and (calm_cells (by decide)))) (by have:=HT3.out.size; omega) _).mid HH.out.2.2.1 HRo.out) ((calm_cells (by decide)).and (calm_sr.and (calm_cells (by decide)))) (by have:=HT3.out.size; omega) (HI2.out.cell ((calm_cells (by decide)).and (calm_sr.and (calm_cells (by decide)))) (by have:=HT3.out.size; omega) _).d.2.1).mono ?_; rintro e w6 ⟨rfl,hm⟩; have HM6:Hid _:=hm; clear hm)
  | (go_at_call 44; refine (mEnd HM6.out HH.out.2.2.1 HU.out HH.out.2.2.2).mono ?_; rintro e y ⟨hpx,hb3⟩; have HPX:Hid (PutX w p tb F s St it (some (l.foldr (Tr.up (gOf s St)) (lt,0)).1) (l.foldr (Tr.up (gOf s St)) (lt,0)).2 ov true (Tr.gone k t) e y):=hpx; have HB4:Hid _:=hb3; obtain ⟨q0,q1,q2,q3,q4⟩:=(cells5 hb3).1; obtain ⟨y0,y1,y2,y3,y4⟩:=(cells5 hb3).2; obtain ⟨er,root2,old2,had2,ga,gl,gc,ma,ml,mc,_,_,_,_,_,_,he,-⟩:=hpx; subst he; clear hb3))
 refine drop_ret (b:=w.heap.size) (r:=root2) (o:=old2) (h:=had2) (ga:=ga) (gl:=gl) (gc:=gc) (ma:=ma) (ml:=ml) (mc:=mc) rfl rfl rfl rfl (wr5_b HB4.out) ?_
 rw [HRR.out]
 exact HPX.out.keep HB4.out (by decide) (by decide) (Nat.le_refl _) wr5_t
end Go.Proofs.YtloljphbdfjgdaaGreatDoor
/- Package trie's Put and Drop, alone: whole, and by the laws. -/
namespace Go.Proofs.YtloljphbdfjgdaaGreatDoor
open Go.RowKit
def putO (g:Nat→Int) (k v:Int):Option Tr→Option Tr × Nat × List Int
 | none=>(some (Tr.leaf (g 0) k v),1,[])
 | some t=>match Tr.val k (t.stop k) with
  | none=>(some (Tr.put g k v (plc k (t.stop k).lo).toNat (fstK k (plc k (t.stop k).lo).toNat) t).1,(Tr.put g k v (plc k (t.stop k).lo).toNat (fstK k (plc k (t.stop k).lo).toNat) t).2,Tr.gone k t)
  | some x=>if x=v then (some t,0,[]) else (some (Tr.put g k v 0 0 t).1,(Tr.put g k v 0 0 t).2,Tr.gone k t)
theorem insL_same {k x:Int}:∀ {l:List (Int × Int)},getL l k=some x→insL l k x=l
 | [],h=>by simp [getL] at h
 | (a,b) :: l,h=>by
  simp only [getL] at h
  simp only [insL]
  split at h
  ·rename_i e
   rw [if_pos e,insL_same h]
  ·split at h
   ·rename_i e1 e2
    injection h with h
    rw [if_neg e1,if_pos e2,← e2,← h]
   ·cases h
theorem Tr.gone_sub (k:Int):∀ {t:Tr},∀ h∈Tr.gone k t,h∈t.hs
 | .leaf h' k' v',h,hm=>by
  simp only [Tr.gone] at hm
  split at hm
  ·simpa [Tr.hs] using hm
  ·cases hm
 | .node h' q c l r,h,hm=>by
  simp only [Tr.gone] at hm
  simp only [Tr.hs,List.mem_cons,List.mem_append]
  split at hm
  ·rcases List.mem_append.1 hm with hm | hm
   ·exact .inr (.inl (Tr.gone_sub k h hm))
   ·exact .inl (by simpa using hm)
  ·split at hm
   ·rcases List.mem_append.1 hm with hm | hm
    ·exact .inr (.inr (Tr.gone_sub k h hm))
    ·exact .inl (by simpa using hm)
   ·cases hm
section
variable {w:World} {tb p it n:Nat} {F:List Nat} {s s2:PSt} {St:List Nat} {o o':Option Tr} {k v:Int} {gone:List Int}
theorem done_of (hH:Holds s o) (hV:PV s St it) (hM:MK s St it n s2) (hwf:∀ t,o'=some t→t.WF) (hrep:∀ t,o'=some t→Rep s2 t) (hperm:(hsx o' ++ gone).Perm (hsx o ++ Tr.mades (gOf s St) n)) (hsub:∀ h∈gone,h∈hsx o) (hmost:n≤34∧n≤gone.length+2):Done s s2 St (St.drop n) o o' (rootO o') gone (Tr.mades (gOf s St) n):=by
 have hl:(Tr.mades (gOf s St) n).length=n:=by simp [Tr.mades]
 have hle:=hM.le
 have hfr:∀ h∈Tr.mades (gOf s St) n,∀ x,¬ Ct s h x:=fun h hm x=>by
  simp only [Tr.mades,List.mem_map,List.mem_range] at hm
  obtain ⟨j,hj,rfl⟩:=hm
  exact gOf_fresh hV (by omega) x
 refine ⟨⟨hwf,hrep⟩,rfl,hperm,by rw [hl,List.length_drop]; omega,hfr,by rw [hl]; exact hmost,hsub,?_⟩
 have hnd:(hsx o ++ Tr.mades (gOf s St) n).Nodup:=List.nodup_append.2 ⟨hH.nodup,mades_nodup hV hle,fun a ha b hb e=>by
  subst e
  obtain ⟨x,hx⟩:=hH.alive a ha
  exact hfr a hb x hx⟩
 exact (List.nodup_append.1 (hperm.nodup_iff.2 hnd)).2.1
theorem cPutE (hT:TrieB w tb p) (hA:PoolAt w p F s) (hV:PV s St it) (hit:it≤900000000) (h0:0∉F) (hH:Holds s o) (k0:0≤k) (k1:k≤4294967295) :
  Calls Tryz.prog 19 #[pt tb,.pointer none,.int .i64 (rootO o),.int .i64 k,.int .i64 v] w (PutX w p tb F s St it (putO (gOf s St) k v o).1 (putO (gOf s St) k v o).2.1 ((getL (prs o) k).getD 0) (getL (prs o) k).isSome (putO (gOf s St) k v o).2.2):=by
 cases o with
 | none=>exact cPutB hT hA hV hit k0 k1
 | some t =>
  have hw:=hH.wf t rfl
  have hR:=hH.rep t rfl
  have hg:getL (prs (some t)) k=Tr.val k (t.stop k):=Tr.getL_stop hw
  rw [hg]
  cases hv:Tr.val k (t.stop k) with
  | none =>
   simp only [putO,hv]
   exact cPutC3 hT hA hV hit h0 hR hw k0 k1 hv
  | some x =>
   by_cases e:x=v
   ·subst e
    simp only [putO,hv,if_true]
    exact cPutC1 hT hA hV hit h0 hR hw k0 k1 hv
   ·simp only [putO,hv,if_neg e]
    exact cPutC2 hT hA hV hit h0 hR hw k0 k1 hv e
theorem putO_ok (hH:Holds s o) (hV:PV s St it) (hM:MK s St it (putO (gOf s St) k v o).2.1 s2) (hrep:∀ t,(putO (gOf s St) k v o).1=some t→Rep s2 t) (k0:0≤k) (k1:k≤4294967295) :
  Done s s2 St (St.drop (putO (gOf s St) k v o).2.1) o (putO (gOf s St) k v o).1 (rootO (putO (gOf s St) k v o).1) (putO (gOf s St) k v o).2.2 (Tr.mades (gOf s St) (putO (gOf s St) k v o).2.1)∧prs (putO (gOf s St) k v o).1=insL (prs o) k v:=by
 cases o with
 | none =>
  refine ⟨done_of hH hV hM (fun t ht=>?_) hrep ?_ (fun h hm=>by cases hm) ⟨by show 1≤34; decide,by show 1≤0+2; decide⟩,rfl⟩
  ·injection ht with ht; subst ht; exact ⟨k0,k1⟩
  ·exact List.Perm.refl _
 | some t =>
  have hw:=hH.wf t rfl
  have key:∀ {P:Nat} {b:Int},Tr.Fits k P b t→MK s St it (Tr.put (gOf s St) k v P b t).2 s2→(∀ u,some (Tr.put (gOf s St) k v P b t).1=some u→Rep s2 u)→Done s s2 St (St.drop (Tr.put (gOf s St) k v P b t).2) (some t) (some (Tr.put (gOf s St) k v P b t).1) (rootO (some (Tr.put (gOf s St) k v P b t).1)) (Tr.gone k t) (Tr.mades (gOf s St) (Tr.put (gOf s St) k v P b t).2)∧prs (some (Tr.put (gOf s St) k v P b t).1)=insL (prs (some t)) k v:=by
   intro P b hf hM hrep
   have hok:=Tr.put_ok (g:=gOf s St) (v:=v) k0 k1 hw hf
   exact ⟨done_of hH hV hM (fun u hu=>by injection hu with hu; subst hu; exact hok.1) hrep (Tr.put_hs hw) (Tr.gone_sub k) (Tr.put_most hw),hok.2.1⟩
  cases hv:Tr.val k (t.stop k) with
  | none =>
   simp only [putO,hv] at hM hrep ⊢
   refine key (fun hout=>?_) hM hrep
   obtain ⟨hew,-⟩:=stop_rep (k:=k) (hH.rep t rfl) hw
   have hsp:=hew.span
   obtain ⟨P,hplc,hp31,hP⟩:=parts_of k0 k1 (show 0≤(t.stop k).lo by omega) (show (t.stop k).lo≤4294967295 by omega) (by omega)
   rw [hplc]
   exact hP
  | some x =>
   obtain ⟨lh,hlf⟩:=stop_leaf hw hv
   have hf:Tr.Fits k 0 0 t:=fun hout=>by
    exfalso
    rw [hlf] at hout
    simp only [Tr.lo,Tr.hi] at hout
    omega
   by_cases e:x=v
   ·subst e
    simp only [putO,hv,if_true] at hM hrep ⊢
    have hok:=Tr.put_ok (g:=gOf s St) (v:=x) k0 k1 hw hf
    refine ⟨done_of hH hV hM (fun u hu=>by injection hu with hu; subst hu; exact hw) hrep (by simp [Tr.mades]) (fun h hm=>by cases hm) ⟨by decide,by decide⟩,?_⟩
    have hg:getL (prs (some t)) k=some x:=(Tr.getL_stop hw).trans hv
    exact (insL_same hg).symm
   ·simp only [putO,hv,if_neg e] at hM hrep ⊢
    exact key hf hM hrep
theorem cDropE {t:Tr} {ov:Int} (hT:TrieB w tb p) (hA:PoolAt w p F s) (hV:PV s St it) (hit:it≤900000000) (hR:Rep s t) (hw:t.WF) (k0:0≤k) (k1:k≤4294967295) (hval:Tr.val k (t.stop k)=some ov) :
  Calls Tryz.prog 26 #[pt tb,.pointer none,.int .i64 t.hd,.int .i64 k] w (PutX w p tb F s St it (Tr.del (gOf s St) k t).1 (Tr.del (gOf s St) k t).2 ov true (Tr.gone k t)):=by
 have hs:(Tr.val k (t.stop k)).isSome:=by rw [hval]; rfl
 rcases List.eq_nil_or_concat (t.way k) with hway | ⟨l,x,hway⟩
 ·obtain ⟨hd,h,v,rfl⟩:=Tr.del_nil (g:=gOf s St) hw hs hway
  rw [hd]
  have:=cDrop0 hT hA hV hit hR hw k0 k1 hval hway
  simpa [Tr.gone,Tr.stop,Tr.hd] using this
 ·have hway':t.way k=l ++ [x]:=by rw [hway]; simp
  have hch:=Tr.chn_way k t
  rw [hway'] at hch
  have h3:=hch.drop l.length
  rw [List.drop_left' rfl] at h3
  obtain ⟨⟨h1,q1,c1,lt,rt,e,e2⟩,-⟩:=h3
  rw [Tr.del_way hw hs hway']
  obtain ⟨x1,x2⟩:=x
  simp only at e e2
  subst e
  rcases e2 with ⟨rfl,-⟩ | ⟨rfl,-⟩
  ·exact cDrop10 hT hA hV hit hR hw k0 k1 hval hway' rfl
  ·exact cDrop11 hT hA hV hit hR hw k0 k1 hval hway' rfl
theorem delO_ok {t:Tr} {ov:Int} (hH:Holds s (some t)) (hV:PV s St it) (hM:MK s St it (Tr.del (gOf s St) k t).2 s2) (hrep:∀ u,(Tr.del (gOf s St) k t).1=some u→Rep s2 u) (hval:Tr.val k (t.stop k)=some ov) :
  Done s s2 St (St.drop (Tr.del (gOf s St) k t).2) (some t) (Tr.del (gOf s St) k t).1 (rootO (Tr.del (gOf s St) k t).1) (Tr.gone k t) (Tr.mades (gOf s St) (Tr.del (gOf s St) k t).2)∧prs (Tr.del (gOf s St) k t).1=delL (prs (some t)) k:=by
 have hw:=hH.wf t rfl
 have hs:(Tr.val k (t.stop k)).isSome:=by rw [hval]; rfl
 obtain ⟨h1,h2,h3,h4,h5⟩:=Tr.del_ok (g:=gOf s St) hw hs _ _ rfl
 have hgl:=Tr.gone_len k hw
 have hd:=hw.deep32
 rw [if_pos hs] at hgl
 exact ⟨done_of hH hV hM (fun u hu=>(h2 u hu).1) hrep h3 (Tr.gone_sub k) ⟨by omega,by omega⟩,h1⟩
def AtZ (w:World) (p:Nat) (F:List Nat) (s:PSt):Prop:=PoolAt w p F s∧0∉F
theorem TrieB.pos (hT:TrieB w tb p):0 < w.heap.size:=by
 have h:=hT.tab 0 (by omega)
 apply Classical.byContradiction
 intro hn
 rw [World.cell?] at h
 have:w.heap[0]?=none:=Array.getElem?_eq_none (by omega)
 simp [this] at h
theorem wider_z {F2:List Nat} (hT:TrieB w tb p) (h0:0∉F) (hW:Wider F F2 w):0∉F2:=fun hm=>by
 have:=hT.pos
 rcases hW 0 hm with h | h
 ·exact h0 h
 ·omega
theorem lawPut (hAz:AtZ w p F s) (hT:TrieB w tb p) (ntb:tb∉F) (hV:PV s St it) (hit:it≤900000000) (hH:Holds s o) (k v:Int) :
  Calls Tryz.prog 19 #[pt tb,.pointer none,.int .i64 (rootO o),.int .i64 k,.int .i64 v] w fun e w'=>∃ er root old had gv mv gone made s' F' St' it' o',e=.returned (.tuple #[.agg #[.int .i64 root,.int .i64 old,.bool had,gv,mv],.int .i64 er])∧Turned F w w'∧AtZ w' p F' s'∧Wider F F' w∧tb∉F' ∧
   IR w.heap.size w' gv gone∧IR w.heap.size w' mv made∧(∀ g,gv.ownBlock=some g→g∉F')∧(∀ g,mv.ownBlock=some g→g∉F')∧Chg s s' St' it it'∧PutR s s' St St' o o' k v root old had gone made er:=by
 obtain ⟨hA,h0⟩:=hAz
 by_cases hk:isKey k
 ·refine (cPutE hT hA hV hit h0 hH hk.1 hk.2).mono ?_
  rintro e w' ⟨er,root2,old2,had2,ga,gl,gc,ma,ml,mc,gone2,made2,s2,F2,St2,it2,rfl,h1,h2,h3,h4,h5,h6,h7,h8,h9,h10⟩
  refine ⟨er,root2,old2,had2,_,_,gone2,made2,s2,F2,St2,it2,(putO (gOf s St) k v o).1,rfl,h1,⟨h2,wider_z hT h0 h3⟩,h3,h4,h5,h6,h7,h8,h9,?_⟩
  rcases h10 with ⟨rfl,hM,rfl,rfl,hrep,rfl,rfl,rfl,rfl⟩ | ⟨rfl,hlt,hn,-,-⟩
  ·obtain ⟨hd,hp⟩:=putO_ok hH hV hM hrep hk.1 hk.2
   exact .done hk hd hp rfl rfl
  ·exact .full hk hn
 ·refine (cPutA hk (rootO o)).mono ?_
  rintro e w' ⟨rfl,ht⟩
  exact ⟨120,0,0,false,_,_,[],[],s,F,St,it,o,rfl,ht.mono (by simp),⟨hA.still ht,h0⟩,fun z hz=>.inl hz,ntb,IR.nil _ _,IR.nil _ _,(fun g hg=>by cases hg),(fun g hg=>by cases hg),⟨hV,by omega,rfl,rfl,fun _ _ h=>h⟩,.bad hk ⟨rfl,rfl,rfl,rfl⟩⟩
theorem lawDrop (hAz:AtZ w p F s) (hT:TrieB w tb p) (ntb:tb∉F) (hV:PV s St it) (hit:it≤900000000) (hH:Holds s o) (k:Int) :
  Calls Tryz.prog 26 #[pt tb,.pointer none,.int .i64 (rootO o),.int .i64 k] w fun e w'=>∃ er root old had gv mv gone made s' F' St' it' o',e=.returned (.tuple #[.agg #[.int .i64 root,.int .i64 old,.bool had,gv,mv],.int .i64 er])∧Turned F w w'∧AtZ w' p F' s'∧Wider F F' w∧tb∉F' ∧
   IR w.heap.size w' gv gone∧IR w.heap.size w' mv made∧(∀ g,gv.ownBlock=some g→g∉F')∧(∀ g,mv.ownBlock=some g→g∉F')∧Chg s s' St' it it'∧DropR s s' St St' o o' k root old had gone made er:=by
 obtain ⟨hA,h0⟩:=hAz
 have nil:∀ {er:Int} {w':World},Turned [] w w'→(Not St St 0 [] []→DropR s s St St o o k 0 0 false [] [] er)→∃ er' root old had gv mv gone made s' F' St' it' o',Ending.returned (.tuple #[edit 0 0 false (.slice none 0 0) (.slice none 0 0),.int .i64 er])=.returned (.tuple #[.agg #[.int .i64 root,.int .i64 old,.bool had,gv,mv],.int .i64 er'])∧Turned F w w'∧AtZ w' p F' s'∧Wider F F' w∧tb∉F' ∧
   IR w.heap.size w' gv gone∧IR w.heap.size w' mv made∧(∀ g,gv.ownBlock=some g→g∉F')∧(∀ g,mv.ownBlock=some g→g∉F')∧Chg s s' St' it it'∧DropR s s' St St' o o' k root old had gone made er':=fun {er w'} ht h =>
  ⟨er,0,0,false,_,_,[],[],s,F,St,it,o,rfl,ht.mono (by simp),⟨hA.still ht,h0⟩,fun z hz=>.inl hz,ntb,IR.nil _ _,IR.nil _ _,(fun g hg=>by cases hg),(fun g hg=>by cases hg),⟨hV,by omega,rfl,rfl,fun _ _ h=>h⟩,h ⟨rfl,rfl,rfl,rfl⟩⟩
 by_cases hk:isKey k
 ·cases o with
  | none =>
   refine (cDropN hk.1 hk.2).mono ?_
   rintro e w' ⟨rfl,ht⟩
   exact nil ht (fun hn=>.none hk rfl hn)
  | some t =>
   have hw:=hH.wf t rfl
   have hR:=hH.rep t rfl
   have hg:getL (prs (some t)) k=Tr.val k (t.stop k):=Tr.getL_stop hw
   cases hv:Tr.val k (t.stop k) with
   | none =>
    refine (cDropM hT hA hV hit hR hw hk.1 hk.2 hv).mono ?_
    rintro e w' ⟨rfl,ht⟩
    exact nil ht (fun hn=>.none hk (hg.trans hv) hn)
   | some ov =>
    refine (cDropE hT hA hV hit hR hw hk.1 hk.2 hv).mono ?_
    rintro e w' ⟨er,root2,old2,had2,ga,gl,gc,ma,ml,mc,gone2,made2,s2,F2,St2,it2,rfl,h1,h2,h3,h4,h5,h6,h7,h8,h9,h10⟩
    refine ⟨er,root2,old2,had2,_,_,gone2,made2,s2,F2,St2,it2,(Tr.del (gOf s St) k t).1,rfl,h1,⟨h2,wider_z hT h0 h3⟩,h3,h4,h5,h6,h7,h8,h9,?_⟩
    have hsm:(getL (prs (some t)) k).isSome:=by rw [hg,hv]; rfl
    rcases h10 with ⟨rfl,hM,rfl,rfl,hrep,rfl,rfl,rfl,rfl⟩ | ⟨rfl,hlt,hn,-,-⟩
    ·obtain ⟨hd,hp⟩:=delO_ok hH hV hM hrep hv
     exact .done hk hsm hd hp rfl (by rw [hg,hv]; rfl)
    ·exact .full hk hsm hn
 ·refine (cDropA hk (rootO o)).mono ?_
  rintro e w' ⟨rfl,ht⟩
  exact nil ht (fun hn=>.bad hk hn)
end
end Go.Proofs.YtloljphbdfjgdaaGreatDoor

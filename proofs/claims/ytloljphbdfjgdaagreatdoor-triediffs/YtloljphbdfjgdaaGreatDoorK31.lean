/- A change's first node, its end; what Put and Drop answer. -/
import Derived.Test.YtloljphbdfjgdaaGreatDoorK30
import Derived.Test.YtloljphbdfjgdaaGreatDoorK03
namespace Go.Proofs.YtloljphbdfjgdaaGreatDoor
open Go.RowKit
theorem cTakeL {B:Nat} {w:World} {cb tb p it:Nat} {F:List Nat} {s:PSt} {St:List Nat} {root old k v:Int} {had:Bool} {gv mv:Value} {gone:List Int} (h:CG B w cb tb p F s root old had gv mv gone [] 0) (hV:PV s St it) (hB:B≤w.heap.size) (hit:it≤900000000) :
  Calls Tryz.prog 43 #[.pointer (some ⟨cb,0,none⟩),.iface 128 (.agg #[.int .i64 k,.int .i64 v])] w fun e w'=>e=.returned (.tuple #[])∧∃ F' mv' s2 m2 root2 err2,CG B w' cb tb p F' s2 root2 old had gv mv' gone (Tr.mades (gOf s St) m2) err2∧OkU s St it s2 m2 root2 err2 (Tr.leaf (gOf s St 0) k v,1)∧Turned (cb :: (mv.ownBlock.toList ++ F)) w w'∧Wider F F' w∧(∀ g,mv'.ownBlock=some g→mv.ownBlock=some g∨w.heap.size≤g):=by
 have hM:=MK.zero hV
 cases hst:St with
 | nil =>
  subst hst
  refine (cTakeFull h hV (cNumLeaf k v)).mono ?_
  rintro e w' ⟨rfl,hc,ht⟩
  exact ⟨rfl,F,mv,s,0,root,102,hc,⟨hM,.inr ⟨rfl,rfl,Nat.one_pos⟩⟩,ht.mono (fun z hz=>by simp only [List.mem_cons,List.mem_append] at hz ⊢; rcases hz with h | h; exact .inl h; exact .inr (.inr h)),fun z hz=>.inl hz,fun g hg=>.inl hg⟩
 | cons i St' =>
  subst hst
  refine (cTakeOk h (i:=i) (St:=St') hV hB (by simp) (cNumLeaf k v)).mono ?_
  rintro e w' ⟨rfl,F',mv',hc,ht,hW,hmv⟩
  obtain ⟨hmk,hct⟩:=hM.take (i:=i) (St':=St') rfl (by omega) 0 k v 1
  rw [hM.hnd (i:=i) (St':=St') rfl] at hc
  exact ⟨rfl,F',mv',_,1,gOf s (i :: St') 0,0,hc,⟨hmk,.inl ⟨rfl,rfl,rfl,hct⟩⟩,ht,hW,hmv⟩
def PutX (w:World) (p tb:Nat) (F:List Nat) (s:PSt) (St:List Nat) (it:Nat) (o':Option Tr) (n:Nat) (old:Int) (had:Bool) (gone:List Int) (e:Ending) (w':World):Prop :=
 ∃ er root2 old2 had2 ga gl gc ma ml mc gone2 made2 s2 F2 St2 it2,e=.returned (.tuple #[edit root2 old2 had2 (.slice ga gl gc) (.slice ma ml mc),.int .i64 er])∧Turned F w w'∧PoolAt w' p F2 s2∧Wider F F2 w∧tb∉F2∧IR w.heap.size w' (.slice ga gl gc) gone2∧IR w.heap.size w' (.slice ma ml mc) made2 ∧
  (∀ g,(Value.slice ga gl gc).ownBlock=some g→g∉F2)∧(∀ g,(Value.slice ma ml mc).ownBlock=some g→g∉F2)∧Chg s s2 St2 it it2 ∧
  ((er=0∧MK s St it n s2∧St2=St.drop n∧root2=rootO o'∧(∀ t,o'=some t→Rep s2 t)∧old2=old∧had2=had∧gone2=gone∧made2=Tr.mades (gOf s St) n)∨(er=102∧St.length < n∧Not St St2 root2 gone2 made2∧old2=0∧had2=false))
theorem PutX.keep {w:World} {p tb:Nat} {F:List Nat} {s:PSt} {St:List Nat} {it:Nat} {o':Option Tr} {n:Nat} {old:Int} {had:Bool} {gone:List Int} {e:Ending} {y z:World} (h:PutX w p tb F s St it o' n old had gone e y) {b:Nat} {cs:Array Value} {T:TypeId} (hb:y.heap[b]?=some (.cells cs T (0,0))) (hT:T∉([86,93,156,84,89]:List TypeId)) (hT2:T≠3) (hw:w.heap.size≤b) (ht:Turned [b] y z):PutX w p tb F s St it o' n old had gone e z:=by
 obtain ⟨er,root2,old2,had2,ga,gl,gc,ma,ml,mc,gone2,made2,s2,F2,St2,it2,he,h1,h2,h3,h4,h5,h6,h7,h8,h9,h10⟩:=h
 have nb:∀ {v:Value} {l:List Int},IR w.heap.size y v l→∀ g,v.ownBlock=some g→g∉[b]:=fun hr g hg hm=>by
  simp at hm; subst hm
  obtain ⟨cs',h'⟩:=hr.type hg
  exact other_type hb h' hT2 rfl
 exact ⟨er,root2,old2,had2,ga,gl,gc,ma,ml,mc,gone2,made2,s2,F2,St2,it2,he,h1.inner ht (fun x hx=>by simp at hx; subst hx; exact .inr hw),poolLaws.keep h2 ht (fun x hx=>by simp at hx; subst hx; exact poolAt_other h2 hb hT),h3,h4,h5.keep ht (nb h5),h6.keep ht (nb h6),h7,h8,h9,h10⟩
theorem cEndX {w x:World} {cb tb p it m:Nat} {F F':List Nat} {s s':PSt} {St:List Nat} {root old err:Int} {had:Bool} {gv mv:Value} {gone:List Int} {o':Option Tr} {n:Nat} (hC:CG w.heap.size x cb tb p F' s' root old had gv mv gone (Tr.mades (gOf s St) m) err) (hM:MK s St it m s') (hV:PV s St it) (hway:(err=0∧m=n∧root=rootO o'∧(∀ t,o'=some t→Rep s' t))∨(err=102∧m=St.length∧m < n)) (hn:n≤100) (hit:it≤900000000) (hT:Turned F w x) (hW:Wider F F' w) :
  Calls Tryz.prog 44 #[.pointer (some ⟨cb,0,none⟩)] x (fun e y=>PutX w p tb F s St it o' n old had gone e y∧Turned F' x y):=by
 rcases hway with ⟨rfl,rfl,hr,hR⟩ | ⟨rfl,hm,hlt⟩
 ·obtain ⟨ga,gc,hg⟩:=hC.gr.form
  obtain ⟨ma,mc,hm⟩:=hC.mr.form
  refine (cEndOk hC).mono ?_
  rintro e w' ⟨rfl,ht⟩
  have hC2:=hC.still ht
  rw [hg,hm] at hC2
  rw [hg,hm]
  refine ⟨⟨0,root,old,had,ga,_,gc,ma,_,mc,gone,_,s',F',St.drop m,it+m,rfl,hT.trans (ht.mono (by simp)),hC2.at_,hW,hC2.ntb,hC2.gr,hC2.mr,fun g hg=>hC2.ngF hg,fun g hg=>hC2.nmF hg,⟨hM.pv,by omega,hM.n,hM.faults,hM.ct⟩,.inl ⟨rfl,hM,rfl,hr,hR,rfl,rfl,rfl,rfl⟩⟩,ht.mono (by simp)⟩
 ·refine (cEndFail hC hV hM (by omega) hit).mono ?_
  rintro e w' ⟨rfl,ht,F2,s2,St2,hA2,hW2,htb2,hB2⟩
  refine ⟨⟨102,0,0,false,none,0,0,none,0,0,[],[],s2,F2,St2,it+m+m,rfl,hT.inner ht (fun z hz=>hW z hz),hA2,fun z hz=>?_,poolAt_other hA2 (htb2.trans hC.tr) (by decide),IR.nil _ _,IR.nil _ _,(fun g hg=>by cases hg),(fun g hg=>by cases hg),⟨hB2.pv,by omega,hB2.n,hB2.faults,hB2.ct⟩,.inr ⟨rfl,by omega,⟨rfl,rfl,rfl,hB2.room⟩,rfl,rfl⟩⟩,ht⟩
  rcases hW2 z hz with h | h
  ·exact hW z h
  ·exact .inr (Nat.le_trans hT.size h)
structure Mid (w:World) (cb tb p it b10:Nat) (F:List Nat) (s:PSt) (St:List Nat) (old:Int) (had:Bool) (D:World→Prop) (x:World) (u:Tr × Nat) (gone:List Int):Prop where
 ex:∃ F' gv mv s' m root err,CG w.heap.size x cb tb p F' s' root old had gv mv gone (Tr.mades (gOf s St) m) err∧OkU s St it s' m root err u∧Wider F F' w
 t:Turned F w x
 b:x.heap[b10]?=some (.cells #[.int .i64 0,.int .i64 0,.bool false,.slice none 0 0,.slice none 0 0] 40 (0,0))
 d:D x
def Calm (D:World→Prop):Prop:=∀ x y L,D x→Turned L x y→(∀ z∈L,∃ cs T,x.heap[z]?=some (.cells cs T (0,0))∧T∈([125,3,86,93,156,84,89]:List TypeId))→D y
section
variable {w x y:World} {cb tb p it b10:Nat} {F:List Nat} {s:PSt} {St:List Nat} {old:Int} {had:Bool} {D:World→Prop} {u:Tr × Nat} {gone:List Int}
theorem calm_cells {b:Nat} {cs:Array Value} {T:TypeId} (hT:T∉([125,3,86,93,156,84,89]:List TypeId)):Calm (fun x=>x.heap[b]?=some (.cells cs T (0,0))):=fun x y L hx ht hL=>ht.heap hx (fun hm=>by
 obtain ⟨cs',T',h',hT'⟩:=hL b hm
 rw [hx] at h'
 simp only [Option.some.injEq,Obj.cells.injEq] at h'
 rw [h'.2.1] at hT
 exact hT hT')
theorem calm_sr {B:Nat} {v:Value} {l:List (Tr × Int)}:Calm (fun x=>SR B x v l):=fun x y L hx ht hL=>hx.keep ht (fun g hg hm=>by
 obtain ⟨cs,hcs⟩:=hx.type hg
 obtain ⟨cs',T',h',hT'⟩:=hL g hm
 rw [hcs] at h'
 simp only [Option.some.injEq,Obj.cells.injEq] at h'
 rw [← h'.2.1] at hT'
 exact absurd hT' (by decide))
theorem Calm.and {D E:World→Prop} (h:Calm D) (k:Calm E):Calm (fun x=>D x∧E x):=fun x y L hx ht hL=>⟨h x y L hx.1 ht hL,k x y L hx.2 ht hL⟩
theorem CG.kinds {B:Nat} {F':List Nat} {s':PSt} {root err:Int} {gv mv:Value} {made:List Int} (h:CG B x cb tb p F' s' root old had gv mv gone made err):∀ z∈cb :: (lsts gv mv ++ F'),∃ cs T,x.heap[z]?=some (.cells cs T (0,0))∧T∈([125,3,86,93,156,84,89]:List TypeId):=by
 intro z hz
 simp only [List.mem_cons,List.mem_append,Option.mem_toList] at hz
 rcases hz with rfl | (hz | hz) | hz
 ·exact ⟨_,_,h.obj,by decide⟩
 ·obtain ⟨cs,hc⟩:=h.gr.type hz; exact ⟨cs,_,hc,by decide⟩
 ·obtain ⟨cs,hc⟩:=h.mr.type hz; exact ⟨cs,_,hc,by decide⟩
 ·obtain ⟨cs,T,hc,hT⟩:=poolAt_cells h.at_ hz; exact ⟨cs,T,hc,by simp at hT ⊢; exact .inr (.inr hT)⟩
theorem Mid.step {F' F2:List Nat} {s' s2:PSt} {root err root2 err2:Int} {gv mv gv2 mv2:Value} {gone2:List Int} {made:List Int} {m2:Nat} {u2:Tr × Nat} (hC:CG w.heap.size x cb tb p F' s' root old had gv mv gone made err) (hw:Wider F F' w) (ht0:Turned F w x) (hb:x.heap[b10]?=some (.cells #[.int .i64 0,.int .i64 0,.bool false,.slice none 0 0,.slice none 0 0] 40 (0,0))) (hd:D x) (hD:Calm D) (hcb:w.heap.size≤cb)
  (hC2:CG w.heap.size y cb tb p F2 s2 root2 old had gv2 mv2 gone2 (Tr.mades (gOf s St) m2) err2) (hO2:OkU s St it s2 m2 root2 err2 u2) (ht:Turned (cb :: (lsts gv mv ++ F')) x y) (hW2:Wider F' F2 x):Mid w cb tb p it b10 F s St old had D y u2 gone2:=by
 refine ⟨⟨F2,gv2,mv2,s2,m2,root2,err2,hC2,hO2,fun z hz=>?_⟩,ht0.inner ht (fun z hz=>?_),calm_cells (by decide) x y _ hb ht hC.kinds,hD x y _ hd ht hC.kinds⟩
 ·rcases hW2 z hz with h | h
  ·exact hw z h
  ·exact .inr (Nat.le_trans ht0.size h)
 ·simp only [List.mem_cons,List.mem_append,Option.mem_toList] at hz
  rcases hz with rfl | (h | h) | h
  ·exact .inr hcb
  ·exact .inr (hC.gr.fresh h).1
  ·exact .inr (hC.mr.fresh h).1
  ·exact hw z h
theorem tak_lsts {gv mv:Value} {F':List Nat} (ht:Turned (cb :: (mv.ownBlock.toList ++ F')) x y):Turned (cb :: (lsts gv mv ++ F')) x y:=ht.mono (fun z hz=>by simp only [List.mem_cons,List.mem_append,lsts] at hz ⊢; rcases hz with h | h | h; exact .inl h; exact .inr (.inl (.inr h)); exact .inr (.inr h))
theorem mTakeL {F':List Nat} {root k v:Int} {gv mv:Value} (hC:CG w.heap.size x cb tb p F' s root old had gv mv gone [] 0) (hw:Wider F F' w) (ht0:Turned F w x) (hb:x.heap[b10]?=some (.cells #[.int .i64 0,.int .i64 0,.bool false,.slice none 0 0,.slice none 0 0] 40 (0,0))) (hd:D x) (hD:Calm D) (hcb:w.heap.size≤cb) (hV:PV s St it) (hit:it≤900000000) :
  Calls Tryz.prog 43 #[.pointer (some ⟨cb,0,none⟩),.iface 128 (.agg #[.int .i64 k,.int .i64 v])] x fun e y=>e=.returned (.tuple #[])∧Mid w cb tb p it b10 F s St old had D y (Tr.leaf (gOf s St 0) k v,1) gone:=by
 refine (cTakeL hC hV ht0.size hit).mono ?_
 rintro e y ⟨rfl,F2,mv2,s2,m2,root2,err2,hc2,ho2,ht2,hW2,-⟩
 exact ⟨rfl,Mid.step hC hw ht0 hb hd hD hcb hc2 ho2 (tak_lsts ht2) hW2⟩
theorem mJoin {k v a b:Int} {P:Nat} {e:Tr} (h:Mid w cb tb p it b10 F s St old had D x (Tr.leaf (gOf s St 0) k v,1) gone) (hD:Calm D) (hcb:w.heap.size≤cb) (hT:Tab w) (h0:0∉F) (he:e.WF) (hR:Rep s e) (hcnt:e.cnt≤4096) (k0:0≤k) (k1:k≤4294967295) (hout:k < e.lo∨e.hi < k) (hplc:plc k e.lo=P) (hP:Tr.Parts k e.lo P (fstK k P)) (hit:it≤900000000) :
  Calls Tryz.prog 48 #[.pointer (some ⟨cb,0,none⟩),.int .i64 k,.agg #[.int .i64 e.hd,.int .i64 a,.int .i64 b,nv e]] x fun e' y=>e'=.returned (.tuple #[])∧Mid w cb tb p it b10 F s St old had D y (Tr.put (gOf s St) k v P (fstK k P) e) gone:=by
 obtain ⟨F',gv,mv,s',m,root,err,hC,hO,hw⟩:=h.ex
 refine (cJoin hC hO (Tab.keep hT h.t h0) he hR hcnt k0 k1 hout hplc hP h.t.size hit).mono ?_
 rintro e y ⟨rfl,F2,mv2,s2,m2,root2,err2,hc2,ho2,ht2,hW2,-⟩
 exact ⟨rfl,Mid.step hC hw h.t h.b h.d hD hcb hc2 ho2 (tak_lsts ht2) hW2⟩
theorem mClimb {B2:Nat} {v:Value} {l:List (Tr × Int)} {more:Int} {e:Tr} (h:Mid w cb tb p it b10 F s St old had D x u gone) (hD:Calm D) (hcb:w.heap.size≤cb) (hsr:SR B2 x v l) (hl:l.length≤40) (hu0:u.2≤10) (hg0:gone.length≤10) (hit:it≤900000000) (hmore:more≤1) (hst:∀ y∈l,StpL s y) (hch:Tr.Chn e l) (hcnt:(u.1.cnt:Int)=e.cnt+more) :
  Calls Tryz.prog 47 #[.pointer (some ⟨cb,0,none⟩),v,.int .i64 more] x fun e' y=>e'=.returned (.tuple #[])∧Mid w cb tb p it b10 F s St old had D y (l.foldr (Tr.up (gOf s St)) u) (gone ++ l.reverse.map Tr.hdS):=by
 obtain ⟨F',gv,mv,s',m,root,err,hC,hO,hw⟩:=h.ex
 refine (cClimb hC hO hsr hl hu0 hg0 hit hmore hst hch hcnt h.t.size).mono ?_
 rintro e y ⟨rfl,F2,gv2,mv2,s2,m2,root2,err2,hc2,ho2,ht2,hW2,-⟩
 exact ⟨rfl,Mid.step hC hw h.t h.b h.d hD hcb hc2 ho2 ht2 hW2⟩
theorem mEnd (h:Mid w cb tb p it b10 F s St old had D x u gone) (hV:PV s St it) (hn:u.2≤100) (hit:it≤900000000) :
  Calls Tryz.prog 44 #[.pointer (some ⟨cb,0,none⟩)] x fun e y=>PutX w p tb F s St it (some u.1) u.2 old had gone e y∧y.heap[b10]?=some (.cells #[.int .i64 0,.int .i64 0,.bool false,.slice none 0 0,.slice none 0 0] 40 (0,0)):=by
 obtain ⟨F',gv,mv,s',m,root,err,hC,hO,hw⟩:=h.ex
 refine (cEndX hC hO.mkd hV (o':=some u.1) (n:=u.2) ?_ hn hit h.t hw).mono ?_
 ·rcases hO.way with ⟨h1,h2,h3,h4⟩ | h
  ·exact .inl ⟨h1,h2,h3,fun t ht=>by cases ht; exact h4⟩
  ·exact .inr h
 ·rintro e y ⟨hp,ht⟩
  exact ⟨hp,ht.heap h.b (poolAt_other hC.at_ h.b (by decide))⟩
end
end Go.Proofs.YtloljphbdfjgdaaGreatDoor
/- A frame, spelled out. -/
namespace Go.Proofs.YtloljphbdfjgdaaGreatDoor
open Go.RowKit
def lit105 (c:Nat→Value):Array Value:=#[c 0,c 1,c 2,c 3,c 4,c 5,c 6,c 7,c 8,c 9,c 10,c 11,c 12,c 13,c 14,c 15,c 16,c 17,c 18,c 19,c 20,c 21,c 22,c 23,c 24,c 25,c 26,c 27,c 28,c 29,c 30,c 31,c 32,c 33,c 34,c 35,c 36,c 37,c 38,c 39,c 40,c 41,c 42,c 43,c 44,c 45,c 46,c 47,c 48,c 49,c 50,c 51,c 52,c 53,c 54,c 55,c 56,c 57,c 58,c 59,c 60,c 61,c 62,c 63,c 64,c 65,c 66,c 67,c 68,c 69,c 70,c 71,c 72,c 73,c 74,c 75,c 76,c 77,c 78,c 79,c 80,c 81,c 82,c 83,c 84,c 85,c 86,c 87,c 88,c 89,c 90,c 91,c 92,c 93,c 94,c 95,c 96,c 97,c 98,c 99,c 100,c 101,c 102,c 103,c 104]
set_option maxRecDepth 100000 in
theorem lit105_eq (c:Nat→Value):lit105 c=((List.range 105).map c).toArray:=by rfl
theorem expand105 {a:Act} (hs:a.tmps.size=105) (hd:a.defers=[]):∃ c:Nat→Value,a=⟨lit105 c,[]⟩∧∀ s,c s=a.eval (.tmp s):=by
 refine ⟨fun s=>a.tmps.getD s undef,?_,fun s=>rfl⟩
 obtain ⟨t,d⟩:=a
 simp only at hs hd
 subst hd
 congr 1
 rw [lit105_eq]
 refine Array.ext (by simp [hs]) fun i h1 h2=>?_
 simp [Array.getD,h1]
end Go.Proofs.YtloljphbdfjgdaaGreatDoor
/- Package trie's Put, alone, by contract. -/
namespace Go.Proofs.YtloljphbdfjgdaaGreatDoor
open Go.RowKit
section
variable {w:World} {tb p it:Nat} {F:List Nat} {s:PSt} {St:List Nat} {k v:Int}
theorem CG.begin {x:World} {B cb:Nat} (hA:PoolAt x p F s) (hT:x.heap[tb]?=some (.cells #[.pointer (some ⟨p,0,none⟩)] 96 (0,0))) (hc:x.heap[cb]?=some (chObj tb 0 0 false (.slice none 0 0) (.slice none 0 0) 0)):CG B x cb tb p F s 0 0 false (.slice none 0 0) (.slice none 0 0) [] [] 0 :=
 ⟨hc,hA,hT,IR.nil _ _,IR.nil _ _,fun g hg=>by cases hg⟩
abbrev wr5 (y:World) (b:Nat) (r o:Int) (h:Bool) (g m:Value):World:=((((y.setCell ⟨b,0,none⟩ (.int .i64 r)).setCell ⟨b,1,none⟩ (.int .i64 o)).setCell ⟨b,2,none⟩ (.bool h)).setCell ⟨b,3,none⟩ g).setCell ⟨b,4,none⟩ m
theorem wr5_t {y:World} {b:Nat} {r o:Int} {h:Bool} {g m:Value}:Turned [b] y (wr5 y b r o h g m):=(((((Turned.refl _ _).set (.inl (by simp)) _ _).set (.inl (by simp)) _ _).set (.inl (by simp)) _ _).set (.inl (by simp)) _ _).set (.inl (by simp)) _ _
theorem wr5_b {y:World} {b:Nat} {r o:Int} {h:Bool} {g m:Value} {v0 v1 v2 v3 v4:Value} (hb:y.heap[b]?=some (.cells #[v0,v1,v2,v3,v4] 40 (0,0))):(wr5 y b r o h g m).heap[b]?=some (.cells #[.int .i64 r,.int .i64 o,.bool h,g,m] 40 (0,0)):=by
 exact blk_set (blk_set (blk_set (blk_set (blk_set hb 0 _) 1 _) 2 _) 3 _) 4 _
theorem put_ret {a:Act} {z:World} {b:Nat} {r o er:Int} {h:Bool} {ga ma:Option Addr} {gl gc ml mc:Nat} {R:Ending→World→Prop} (hs:a.tmps.size=105) (hd:a.defers=[]) (x10:a.eval (.tmp 10)=.pointer (some ⟨b,0,none⟩)) (x11:a.eval (.tmp 11)=.int .i64 er) (hb:z.heap[b]?=some (.cells #[.int .i64 r,.int .i64 o,.bool h,.slice ga gl gc,.slice ma ml mc] 40 (0,0)))
  (hR:R (.returned (.tuple #[edit r o h (.slice ga gl gc) (.slice ma ml mc),.int .i64 er])) z):bodyPost Tryz.prog Tryz.f19 R .ret a z:=by
 obtain ⟨⟨e0,e1,e2,e3,e4⟩,-⟩:=cells5 hb
 refine bodyPost_ret ?_ hd hR
 obtain ⟨cc,hcc,hce⟩:=expand105 hs hd
 have g10:=(hce 10).trans x10
 have g11:=(hce 11).trans x11
 subst hcc
 simp only [lit105,g10,g11]
 simp [results,Tryz.results19,go_sem,e0,e1,e2,e3,e4]
set_option maxRecDepth 100000 in
set_option maxHeartbeats 1600000 in
theorem cPutA (hk:¬ isKey k) (r:Int):Calls Tryz.prog 19 #[pt tb,.pointer none,.int .i64 r,.int .i64 k,.int .i64 v] w fun e w'=>e=.returned (.tuple #[edit 0 0 false (.slice none 0 0) (.slice none 0 0),.int .i64 120])∧Turned [] w w':=by
 have HK:Hid (∀ x,Calls Tryz.prog 41 #[.int .i64 k] x fun e w'=>e=.returned (.bool false)∧Turned [] x w'):=cIsKey k (decide_eq_false hk)
 clear hk
 go_enter Tryz.func19,Tryz.ntmps19
 go_wp2_with (first
  | (go_at_call 41; refine (HK.out _).mono ?_; rintro e w1 ⟨rfl,ht1⟩; obtain ⟨hb,htt⟩:=one_cells ht1; obtain ⟨⟨c0,c1,c2,c3,c4⟩,z0,z1,z2,z3,z4⟩:=cells5 hb; have HT1:Hid (Turned [] w w1):=htt; have HB:Hid _:=hb; clear ht1 htt hb)
  | (go_at_call 42; refine (cIdle _ _).mono ?_; rintro e w2 ⟨rfl,rfl⟩))
 exact put_ret (b:=w.heap.size) (r:=0) (o:=0) (h:=false) (ga:=none) (gl:=0) (gc:=0) (ma:=none) (ml:=0) (mc:=0) rfl rfl rfl rfl (wr5_b HB.out) ⟨rfl,HT1.out.inner wr5_t (by simp)⟩
set_option maxRecDepth 100000 in
set_option maxHeartbeats 1600000 in
theorem cPutB (hT:TrieB w tb p) (hA:PoolAt w p F s) (hV:PV s St it) (hit:it≤900000000) (k0:0≤k) (k1:k≤4294967295):Calls Tryz.prog 19 #[pt tb,.pointer none,.int .i64 0,.int .i64 k,.int .i64 v] w (PutX w p tb F s St it (some (Tr.leaf (gOf s St 0) k v)) 1 0 false []):=by
 have HK:Hid (∀ x,Calls Tryz.prog 41 #[.int .i64 k] x fun e w'=>e=.returned (.bool true)∧Turned [] x w'):=cIsKey k (decide_eq_true ⟨k0,k1⟩)
 have HH:Hid (TrieB w tb p∧PoolAt w p F s∧PV s St it∧it≤900000000∧True):=⟨hT,hA,hV,hit,trivial⟩
 clear hT hA hV hit k0 k1
 go_enter Tryz.func19,Tryz.ntmps19
 go_wp2_with (first
  | (go_at_call 41; refine (HK.out _).mono ?_; rintro e w1 ⟨rfl,ht1⟩; obtain ⟨hb,htt⟩:=one_cells ht1; have HT1:Hid (Turned [] w w1):=htt; have HB:Hid _:=hb; clear ht1 htt hb)
  | (go_at_call 43; refine (mTakeL (b10:=w.heap.size) (D:=fun _=>True) (F:=F) (w:=w) (CG.begin (HH.out.2.1.still (HT1.out.alloc _)) ((HT1.out.alloc _).heap HH.out.1.blk (by simp)) (blk_new _ _)) (fun z hz=>.inl hz) ((HT1.out.alloc _).mono (by simp)) (blk_old HB.out _) trivial (fun _ _ _ h _ _=>h) (by have:=HT1.out.size; omega) HH.out.2.2.1 HH.out.2.2.2.1).mono ?_; rintro e w2 ⟨rfl,hm2⟩; have HM2:Hid _:=hm2; clear hm2)
  | (go_at_call 44; refine (mEnd HM2.out HH.out.2.2.1 (show 1≤100 by decide) HH.out.2.2.2.1).mono ?_; rintro e y ⟨hpx,hb3⟩; have HPX:Hid (PutX w p tb F s St it (some (Tr.leaf (gOf s St 0) k v)) 1 0 false [] e y):=hpx; have HB3:Hid _:=hb3; obtain ⟨c0,c1,c2,c3,c4⟩:=(cells5 hb3).1; obtain ⟨z0,z1,z2,z3,z4⟩:=(cells5 hb3).2; obtain ⟨er,root2,old2,had2,ga,gl,gc,ma,ml,mc,_,_,_,_,_,_,he,-⟩:=hpx; subst he; clear hb3))
 refine put_ret (b:=w.heap.size) (r:=root2) (o:=old2) (h:=had2) (ga:=ga) (gl:=gl) (gc:=gc) (ma:=ma) (ml:=ml) (mc:=mc) rfl rfl rfl rfl (wr5_b HB3.out) ?_
 exact HPX.out.keep HB3.out (by decide) (by decide) (Nat.le_refl _) wr5_t
end
end Go.Proofs.YtloljphbdfjgdaaGreatDoor
/- Package trie's Put of a map with nodes, walked. (Written by tools/gen/genput.py.) -/
namespace Go.Proofs.YtloljphbdfjgdaaGreatDoor
open Go.RowKit
theorem way_stp {s:PSt} (hO:s.Ok) (k:Int):∀ {t:Tr},Rep s t→t.WF→∀ y∈t.way k,StpL s y
 | .leaf _ _ _,_,_,y,hy=>by simp [Tr.way] at hy
 | .node h q c l r,hr,hw,y,hy=>by
  have h0:=hr.small hw hO
  rw [Tr.cnt_node] at h0
  obtain ⟨w1,w2,w3,w4,_,_,_,_,hl,hr'⟩:=id hw
  have hp:=Tr.pow_pos' q
  have hS:Stp s h c q l r:=⟨w1,w2,by omega,h0,hr⟩
  simp only [Tr.way] at hy
  split at hy
  ·rcases List.mem_cons.1 hy with rfl | hy
   ·exact ⟨h,q,c,l,r,rfl,hS⟩
   ·exact way_stp hO k hr.2.1 hl y hy
  ·split at hy
   ·rcases List.mem_cons.1 hy with rfl | hy
    ·exact ⟨h,q,c,l,r,rfl,hS⟩
    ·exact way_stp hO k hr.2.2 hr' y hy
   ·cases hy
abbrev edit0:Obj:=.cells #[.int .i64 0,.int .i64 0,.bool false,.slice none 0 0,.slice none 0 0] 40 (0,0)
section
variable {w x3:World} {tb p it cb b10:Nat} {F:List Nat} {s:PSt} {St:List Nat} {k v old:Int} {had:Bool} {D:World→Prop}
structure Ini (w:World) (tb p cb b10:Nat) (F:List Nat) (s:PSt) (root old:Int) (had:Bool) (D:World→Prop) (gv:Value) (gone:List Int) (x:World):Prop where
 cg:CG w.heap.size x cb tb p F s root old had gv (.slice none 0 0) gone [] 0
 t:Turned F w x
 b:x.heap[b10]?=some edit0
 d:D x
theorem Ini.mk' (hT:TrieB w tb p) (hA:PoolAt w p F s) (ht3:Turned [] w x3) (hcb:x3.heap[cb]?=some (chObj tb 0 0 false (.slice none 0 0) (.slice none 0 0) 0)) (hb:x3.heap[b10]?=some edit0) (hd:D x3) (hD:Calm D) (hge:w.heap.size≤cb):Ini w tb p cb b10 F s 0 old had D (.slice none 0 0) [] ((x3.setCell ⟨cb,3,none⟩ (.int .i64 old)).setCell ⟨cb,4,none⟩ (.bool had)):=by
 have hC:CG w.heap.size x3 cb tb p F s 0 0 false (.slice none 0 0) (.slice none 0 0) [] [] 0:=CG.begin (hA.still ht3) (ht3.heap hT.blk (by simp)) hcb
 have hC2:=(hC.cell (k:=3) (v:=.int .i64 old) (root':=0) (old':=old) (had':=false) (err':=0) rfl).cell (k:=4) (v:=.bool had) (root':=0) (old':=old) (had':=had) (err':=0) rfl
 have ht:Turned [cb] x3 ((x3.setCell ⟨cb,3,none⟩ (.int .i64 old)).setCell ⟨cb,4,none⟩ (.bool had)):=((Turned.refl _ _).set (.inl (by simp)) _ _).set (.inl (by simp)) _ _
 have hk:∀ z∈[cb],∃ cs T,x3.heap[z]?=some (.cells cs T (0,0))∧T∈([125,3,86,93,156,84,89]:List TypeId):=fun z hz=>by
  simp at hz; subst hz; exact ⟨_,_,hcb,by decide⟩
 exact ⟨hC2,(ht3.mono (by simp)).inner ht (fun z hz=>by simp at hz; subst hz; exact .inr hge),calm_cells (by decide) _ _ _ hb ht hk,hD _ _ _ hd ht hk⟩
theorem mTake0 {gv:Value} {gone:List Int} {root:Int} (hI:Ini w tb p cb b10 F s root old had D gv gone x3) (hD:Calm D) (hge:w.heap.size≤cb) (hV:PV s St it) (hit:it≤900000000) :
  Calls Tryz.prog 43 #[.pointer (some ⟨cb,0,none⟩),.iface 128 (.agg #[.int .i64 k,.int .i64 v])] x3 fun e y=>e=.returned (.tuple #[])∧Mid w cb tb p it b10 F s St old had D y (Tr.leaf (gOf s St 0) k v,1) gone :=
 mTakeL hI.cg (fun _ h=>.inl h) hI.t hI.b hI.d hD hge hV hit
theorem Ini.cell {gv:Value} {gone:List Int} {root:Int} (hI:Ini w tb p cb b10 F s root old had D gv gone x3) (hD:Calm D) (hge:w.heap.size≤cb) (r:Int):Ini w tb p cb b10 F s r old had D gv gone (x3.setCell ⟨cb,2,none⟩ (.int .i64 r)):=by
 have hC2:=hI.cg.cell (k:=2) (v:=.int .i64 r) (root':=r) (old':=old) (had':=had) (err':=0) rfl
 have ht:Turned [cb] x3 (x3.setCell ⟨cb,2,none⟩ (.int .i64 r)):=(Turned.refl _ _).set (.inl (by simp)) _ _
 have hk:∀ z∈[cb],∃ cs T,x3.heap[z]?=some (.cells cs T (0,0))∧T∈([125,3,86,93,156,84,89]:List TypeId):=fun z hz=>by
  simp at hz; subst hz; exact ⟨_,_,hI.cg.obj,by decide⟩
 exact ⟨hC2,hI.t.inner ht (fun z hz=>by simp at hz; subst hz; exact .inr hge),calm_cells (by decide) _ _ _ hI.b ht hk,hD _ _ _ hI.d ht hk⟩
theorem Ini.went {gv gv':Value} {gone gone':List Int} {root:Int} {x y:World} (hI:Ini w tb p cb b10 F s root old had D gv gone x3) (hD:Calm D) (hge:w.heap.size≤cb) (ht1:Turned [] x3 x) (ht:Turned gv.ownBlock.toList x y) (hr:IR w.heap.size y gv' gone') (ho:gv'.ownBlock=gv.ownBlock∨gv'.ownBlock=some x.heap.size):Ini w tb p cb b10 F s root old had D gv' gone' (y.setCell ⟨cb,5,none⟩ gv')∧y.heap[cb]?=some (chObj tb root old had gv (.slice none 0 0) 0):=by
 have hC:=hI.cg.still ht1
 obtain ⟨hC2,hcb⟩:=hC.went ht hr ho
 have ht2:Turned (cb :: gv.ownBlock.toList) x (y.setCell ⟨cb,5,none⟩ gv'):=(ht.mono (fun z hz=>by simp [hz])).set (.inl (by simp)) _ _
 have hk:∀ z∈cb :: gv.ownBlock.toList,∃ cs T,x.heap[z]?=some (.cells cs T (0,0))∧T∈([125,3,86,93,156,84,89]:List TypeId):=fun z hz=>hC.kinds z (by simp only [List.mem_cons,List.mem_append,lsts] at hz ⊢; rcases hz with h | h; exact .inl h; exact .inr (.inl (.inl h)))
 refine ⟨⟨hC2,(hI.t.trans (ht1.mono (by simp))).inner ht2 (fun z hz=>?_),calm_cells (by decide) _ _ _ (ht1.heap hI.b (by simp)) ht2 hk,hD _ _ _ (hD _ _ _ hI.d ht1 (by simp)) ht2 hk⟩,hcb⟩
 simp only [List.mem_cons,Option.mem_toList] at hz
 rcases hz with rfl | h
 ·exact .inr hge
 ·exact .inr (hC.gr.fresh h).1
theorem mEnd0 {gone:List Int} {gv:Value} {o':Option Tr} (hI:Ini w tb p cb b10 F s (rootO o') old had D gv gone x3) (hV:PV s St it) (hit:it≤900000000) (hR:∀ t,o'=some t→Rep s t):Calls Tryz.prog 44 #[.pointer (some ⟨cb,0,none⟩)] x3 fun e y=>PutX w p tb F s St it o' 0 old had gone e y∧y.heap[b10]?=some edit0:=by
 refine (cEndX (m:=0) (n:=0) (o':=o') (s:=s) (St:=St) (F:=F) (w:=w) (show CG w.heap.size x3 cb tb p F s (rootO o') old had gv (.slice none 0 0) gone (Tr.mades (gOf s St) 0) 0 from hI.cg) (MK.zero hV) hV (.inl ⟨rfl,rfl,rfl,hR⟩) (by decide) hit hI.t (fun _ h=>.inl h)).mono ?_
 rintro e y ⟨h1,h2⟩
 exact ⟨h1,h2.heap hI.b (poolAt_other hI.cg.at_ hI.b (by decide))⟩
end
theorem gone_none {k:Int} {t:Tr} (hw:t.WF) (h:Tr.val k (t.stop k)=none):Tr.gone k (t.stop k)=[]:=by
 rcases Tr.stop_span (k:=k) hw with ⟨h',v',e⟩ | h'
 ·rw [e] at h; simp [Tr.val] at h
 ·cases e:t.stop k with
  | leaf h2 k2 v2 =>
   rw [e] at h'
   simp only [Tr.lo,Tr.hi] at h'
   simp only [Tr.gone]
   rw [if_neg (by omega)]
  | node h2 q c l r =>
   rw [e] at h'
   simp only [Tr.lo,Tr.hi] at h'
   have hp:=Tr.pow_pos' q
   simp only [Tr.gone]
   rw [if_neg (by omega),if_neg (by omega)]
set_option maxRecDepth 100000 in
set_option maxHeartbeats 800000 in
theorem cPutC3 {w:World} {tb p it:Nat} {F:List Nat} {s:PSt} {St:List Nat} {k v:Int} {t:Tr} (hT:TrieB w tb p) (hA:PoolAt w p F s) (hV:PV s St it) (hit:it≤900000000) (h0:0∉F) (hR:Rep s t) (hw:t.WF) (k0:0≤k) (k1:k≤4294967295) (hval:Tr.val k (t.stop k)=none):Calls Tryz.prog 19 #[pt tb,.pointer none,.int .i64 t.hd,.int .i64 k,.int .i64 v] w (PutX w p tb F s St it (some (Tr.put (gOf s St) k v (plc k (t.stop k).lo).toNat (fstK k (plc k (t.stop k).lo).toNat) t).1) (Tr.put (gOf s St) k v (plc k (t.stop k).lo).toNat (fstK k (plc k (t.stop k).lo).toNat) t).2 0 false (Tr.gone k t)):=by
 have HK:Hid (∀ x,Calls Tryz.prog 41 #[.int .i64 k] x fun e w'=>e=.returned (.bool true)∧Turned [] x w'):=cIsKey k (decide_eq_true ⟨k0,k1⟩)
 have HH:Hid (TrieB w tb p∧PoolAt w p F s∧PV s St it∧it≤900000000∧0∉F):=⟨hT,hA,hV,hit,h0⟩
 have hpos:=hR.top.pos
 have hz:(t.hd == 0)=false:=by simp; omega
 have HD:Hid (∀ x,Turned [] w x→Calls Tryz.prog 45 #[pt tb,.pointer none,.int .i64 t.hd,.int .i64 k] x (DownR x k t)):=fun x hx=>cDown (hT.still hx) (hA.still hx) hV.ok hR hw k0 k1
 obtain ⟨T,nvv,hN⟩:=nv_form (t.stop k)
 have HN:Hid _:=hN
 have hst:=way_stp hV.ok k hR hw
 have hch:=Tr.chn_way k t
 have hwl:(t.way k).length≤40:=by have:=Tr.way_len k hw; have:=hw.deep32; omega
 obtain ⟨hew,her⟩:=stop_rep (k:=k) hR hw
 have HF:Hid (∀ (va:Option Addr) (vn vc:Nat) (a b:Int) (x:World),Calls Tryz.prog 46 #[.agg #[.slice va vn vc,.int .i64 (t.stop k).hd,.int .i64 a,.int .i64 b,.iface T nvv],.int .i64 k] x fun e w'=>e=.returned (.tuple #[.int .i64 0,.bool false])∧Turned [] x w'):=fun va vn vc a b x=>by
  have:=cDFind (va:=va) (vn:=vn) (vc:=vc) (t.stop k) (t.stop k).hd a b k x
  rw [hN,hval] at this
  exact this
 have hout:k < (t.stop k).lo∨(t.stop k).hi < k:=by
  rcases Tr.stop_span (k:=k) hw with ⟨h,v',e⟩ | h
  ·rw [e] at hval; simp [Tr.val] at hval
  ·exact h
 have hsp:=hew.span
 obtain ⟨P,hplc,hp31,hP⟩:=parts_of k0 k1 (show 0≤(t.stop k).lo by omega) (show (t.stop k).lo≤4294967295 by omega) (by omega)
 have hcnt:=her.small hew hV.ok
 have HJ:Hid (∀ {cb b10:Nat} {D:World→Prop} {x:World} {a b:Int},Mid w cb tb p it b10 F s St 0 false D x (Tr.leaf (gOf s St 0) k v,1) []→Calm D→w.heap.size≤cb→Calls Tryz.prog 48 #[.pointer (some ⟨cb,0,none⟩),.int .i64 k,.agg #[.int .i64 (t.stop k).hd,.int .i64 a,.int .i64 b,.iface T nvv]] x fun e' y=>e'=.returned (.tuple #[])∧Mid w cb tb p it b10 F s St 0 false D y (Tr.put (gOf s St) k v P (fstK k P) (t.stop k)) []):=fun {cb b10 D x a b} hm hD hge=>by
  have:=mJoin (a:=a) (b:=b) hm hD hge hT.tab h0 hew her hcnt k0 k1 hout hplc hP hit
  rw [hN] at this
  exact this
 have hpo:=Tr.put_out (g:=gOf s St) (v:=v) (p:=P) (b:=fstK k P) hew hout
 have hu2:(Tr.put (gOf s St) k v P (fstK k P) (t.stop k)).2=2:=by rw [hpo]; split <;> rfl
 have hu1:((Tr.put (gOf s St) k v P (fstK k P) (t.stop k)).1.cnt:Int)=(t.stop k).cnt+1:=by
  rw [hpo]; split <;> (rw [Tr.cnt_node]; show ((_:Nat):Int)=_; simp only [Tr.cnt,Tr.pairs,List.length_cons,List.length_nil]; omega)
 have HL:Hid (∀ {cb b10:Nat} {D:World→Prop} {x:World} {va:Option Addr} {vc:Nat},Mid w cb tb p it b10 F s St 0 false D x (Tr.put (gOf s St) k v P (fstK k P) (t.stop k)) []→Calm D→w.heap.size≤cb→SR 0 x (.slice va (t.way k).length vc) (t.way k)→Calls Tryz.prog 47 #[.pointer (some ⟨cb,0,none⟩),.slice va (t.way k).length vc,.int .i64 1] x fun e' y=>e'=.returned (.tuple #[])∧Mid w cb tb p it b10 F s St 0 false D y (Tr.put (gOf s St) k v P (fstK k P) t) (Tr.gone k t)):=fun hm hD hge hsr=>by
  have:=mClimb (e:=t.stop k) (more:=1) hm hD hge hsr hwl (by omega) (by simp) hit (by decide) hst hch hu1
  rw [← Tr.put_way,show [] ++ (t.way k).reverse.map Tr.hdS=Tr.gone k t from by rw [Tr.gone_way,show Tr.gone k (t.stop k)=[] from gone_none hw hval]] at this
  exact this
 have HU:Hid ((Tr.put (gOf s St) k v P (fstK k P) t).2≤100):=by have:=(Tr.put_most (g:=gOf s St) (k:=k) (v:=v) (p:=P) (b:=fstK k P) hw).1; show _≤100; omega
 rw [show (plc k (t.stop k).lo).toNat=P by rw [hplc]; rfl]
 obtain ⟨R,hRR⟩:∃ R,R=PutX w p tb F s St it (some (Tr.put (gOf s St) k v P (fstK k P) t).1) (Tr.put (gOf s St) k v P (fstK k P) t).2 0 false (Tr.gone k t):=⟨_,rfl⟩
 rw [← hRR]
 have HRR:Hid _:=hRR
 clear hRR
 clear hT hA hV hit h0 hR hw k0 k1 hpos hN hst hch hwl hew her hval hout hsp hplc hp31 hP hcnt hpo hu2 hu1
 generalize t.hd=th at *
 go_enter Tryz.func19,Tryz.ntmps19
 go_wp2_with (first
  | (go_at_call 41; refine (HK.out _).mono ?_; rintro e w1 ⟨rfl,ht1⟩; obtain ⟨hb,htt⟩:=one_cells ht1; have HT1:Hid (Turned [] w w1):=htt; have HB:Hid _:=hb; have l1:w.heap.size < w1.heap.size:=lt_of_heap hb; clear ht1 htt hb)
  | (go_at_call 45; refine (HD.out _ (HT1.out.alloc _)).mono ?_; rintro e w2 ⟨v',a,b,rfl,ht2,hsr,-,-⟩; obtain ⟨va,vc,rfl⟩:=hsr.form; rw [HN.out]; obtain ⟨hcb,htt⟩:=one_cells ht2; have HT2:Hid (Turned [] w w2):=HT1.out.trans htt; have HCB:Hid _:=hcb; have HB2:Hid _:=htt.heap HB.out (by simp); have HSR:Hid (SR 0 w2 (.slice va (t.way k).length vc) (t.way k)):=hsr.lower (Nat.zero_le _); have l2:w1.heap.size < w2.heap.size:=lt_of_heap hcb; clear ht2 hsr hcb htt)
  | (go_at_call 46; refine (HF.out _ _ _ _ _ _).mono ?_; rintro e w3 ⟨rfl,ht3⟩; obtain ⟨hdb,htt⟩:=one_cells ht3; have HDB:Hid _:=hdb; have HT3:Hid (Turned [] w w3):=HT2.out.trans htt; have hcb:=htt.heap HCB.out (by simp); have HCB3:Hid _:=hcb; have HB3:Hid _:=htt.heap HB2.out (by simp); have HSR3:Hid _:=HSR.out.still htt; have l3:w2.heap.size < w3.heap.size:=lt_of_heap hdb; have c2:w3.cell? ⟨w1.heap.size,2,none⟩=some (.int .i64 0):=(by rw [cell_at hcb]; rfl); have c3:w3.cell? ⟨w1.heap.size,3,none⟩=some (.int .i64 0):=(by rw [cell_at hcb]; rfl); have c4:w3.cell? ⟨w1.heap.size,4,none⟩=some (.bool false):=(by rw [cell_at hcb]; rfl); have c5:w3.cell? ⟨w1.heap.size,5,none⟩=some (.slice none 0 0):=(by rw [cell_at hcb]; rfl); have z2:=froz_at hcb 2; have z3:=froz_at hcb 3; have z4:=froz_at hcb 4; have z5:=froz_at hcb 5; have d1:w3.cell? ⟨w2.heap.size,1,none⟩=some (.int .i64 (t.stop k).hd):=(by rw [cell_at hdb]; rfl); clear ht3 htt hdb hcb)
  | (go_at_call 43; refine (mTake0 (Ini.mk' (b10:=w.heap.size) (D:=(fun x=>x.heap[w2.heap.size]?=some (.cells #[.slice va (t.way k).length vc,.int .i64 (t.stop k).hd,.int .i64 a,.int .i64 b,.iface T nvv] 132 (0,0))∧SR 0 x (.slice va (t.way k).length vc) (t.way k))) HH.out.1 HH.out.2.1 HT3.out HCB3.out HB3.out ⟨HDB.out,HSR3.out⟩ ((calm_cells (by decide)).and calm_sr) (by have:=HT1.out.size; omega)) ((calm_cells (by decide)).and calm_sr) (by have:=HT1.out.size; omega) HH.out.2.2.1 HH.out.2.2.2.1).mono ?_; rintro e w4 ⟨rfl,hm⟩; have hdd:=hm.d.1; obtain ⟨m0,m1,m2,m3,m4⟩:=(cells5 hdd).1; clear hdd; have HMw4:Hid _:=hm; clear hm)
  | (go_at_call 48; refine (HJ.out HMw4.out ((calm_cells (by decide)).and calm_sr) (by have:=HT1.out.size; omega)).mono ?_; rintro e w5 ⟨rfl,hm⟩; have hdd:=hm.d.1; obtain ⟨n0,n1,n2,n3,n4⟩:=(cells5 hdd).1; clear hdd; have HMw5:Hid _:=hm; clear hm)
  | (go_at_call 47; refine (HL.out HMw5.out ((calm_cells (by decide)).and calm_sr) (by have:=HT1.out.size; omega) HMw5.out.d.2).mono ?_; rintro e w6 ⟨rfl,hm⟩; have hdd:=hm.d.1; obtain ⟨o0,o1,o2,o3,o4⟩:=(cells5 hdd).1; clear hdd; have HMw6:Hid _:=hm; clear hm)
  | (go_at_call 44; refine (mEnd HMw6.out HH.out.2.2.1 HU.out HH.out.2.2.2.1).mono ?_; rintro e y ⟨hpx,hb3⟩; have HPX:Hid (PutX w p tb F s St it (some (Tr.put (gOf s St) k v P (fstK k P) t).1) (Tr.put (gOf s St) k v P (fstK k P) t).2 0 false (Tr.gone k t) e y):=hpx; have HB4:Hid _:=hb3; obtain ⟨q0,q1,q2,q3,q4⟩:=(cells5 hb3).1; obtain ⟨y0,y1,y2,y3,y4⟩:=(cells5 hb3).2; obtain ⟨er,root2,old2,had2,ga,gl,gc,ma,ml,mc,_,_,_,_,_,_,he,-⟩:=hpx; subst he; clear hb3))
 refine put_ret (b:=w.heap.size) (r:=root2) (o:=old2) (h:=had2) (ga:=ga) (gl:=gl) (gc:=gc) (ma:=ma) (ml:=ml) (mc:=mc) rfl rfl rfl rfl (wr5_b HB4.out) ?_
 rw [HRR.out]
 exact HPX.out.keep HB4.out (by decide) (by decide) (Nat.le_refl _) wr5_t
set_option maxRecDepth 100000 in
set_option maxHeartbeats 800000 in
theorem cPutC1 {w:World} {tb p it:Nat} {F:List Nat} {s:PSt} {St:List Nat} {k v:Int} {t:Tr} (hT:TrieB w tb p) (hA:PoolAt w p F s) (hV:PV s St it) (hit:it≤900000000) (h0:0∉F) (hR:Rep s t) (hw:t.WF) (k0:0≤k) (k1:k≤4294967295) (hval:Tr.val k (t.stop k)=some v):Calls Tryz.prog 19 #[pt tb,.pointer none,.int .i64 t.hd,.int .i64 k,.int .i64 v] w (PutX w p tb F s St it (some t) 0 v true []):=by
 have HK:Hid (∀ x,Calls Tryz.prog 41 #[.int .i64 k] x fun e w'=>e=.returned (.bool true)∧Turned [] x w'):=cIsKey k (decide_eq_true ⟨k0,k1⟩)
 have HH:Hid (TrieB w tb p∧PoolAt w p F s∧PV s St it∧it≤900000000∧0∉F):=⟨hT,hA,hV,hit,h0⟩
 have hpos:=hR.top.pos
 have hz:(t.hd == 0)=false:=by simp; omega
 have HD:Hid (∀ x,Turned [] w x→Calls Tryz.prog 45 #[pt tb,.pointer none,.int .i64 t.hd,.int .i64 k] x (DownR x k t)):=fun x hx=>cDown (hT.still hx) (hA.still hx) hV.ok hR hw k0 k1
 obtain ⟨T,nvv,hN⟩:=nv_form (t.stop k)
 have HN:Hid _:=hN
 have hst:=way_stp hV.ok k hR hw
 have hch:=Tr.chn_way k t
 have hwl:(t.way k).length≤40:=by have:=Tr.way_len k hw; have:=hw.deep32; omega
 obtain ⟨hew,her⟩:=stop_rep (k:=k) hR hw
 have HF:Hid (∀ (va:Option Addr) (vn vc:Nat) (a b:Int) (x:World),Calls Tryz.prog 46 #[.agg #[.slice va vn vc,.int .i64 (t.stop k).hd,.int .i64 a,.int .i64 b,.iface T nvv],.int .i64 k] x fun e w'=>e=.returned (.tuple #[.int .i64 v,.bool true])∧Turned [] x w'):=fun va vn vc a b x=>by
  have:=cDFind (va:=va) (vn:=vn) (vc:=vc) (t.stop k) (t.stop k).hd a b k x
  rw [hN,hval] at this
  exact this
 have HE:Hid (∀ {cb b10:Nat} {D:World→Prop} {x:World},Ini w tb p cb b10 F s 0 v true D (.slice none 0 0) [] x→Calm D→w.heap.size≤cb→Calls Tryz.prog 44 #[.pointer (some ⟨cb,0,none⟩)] (x.setCell ⟨cb,2,none⟩ (.int .i64 t.hd)) fun e y=>PutX w p tb F s St it (some t) 0 v true [] e y∧y.heap[b10]?=some edit0):=fun hi hD hge=>mEnd0 (o':=some t) (hi.cell hD hge t.hd) hV hit (fun t' e=>by cases e; exact hR)
 obtain ⟨R,hRR⟩:∃ R,R=PutX w p tb F s St it (some t) 0 v true []:=⟨_,rfl⟩
 rw [← hRR]
 have HRR:Hid _:=hRR
 clear hRR
 clear hT hA hV hit h0 hR hw k0 k1 hpos hN hst hch hwl hew her hval
 generalize t.hd=th at *
 go_enter Tryz.func19,Tryz.ntmps19
 go_wp2_with (first
  | (go_at_call 41; refine (HK.out _).mono ?_; rintro e w1 ⟨rfl,ht1⟩; obtain ⟨hb,htt⟩:=one_cells ht1; have HT1:Hid (Turned [] w w1):=htt; have HB:Hid _:=hb; have l1:w.heap.size < w1.heap.size:=lt_of_heap hb; clear ht1 htt hb)
  | (go_at_call 45; refine (HD.out _ (HT1.out.alloc _)).mono ?_; rintro e w2 ⟨v',a,b,rfl,ht2,hsr,-,-⟩; obtain ⟨va,vc,rfl⟩:=hsr.form; rw [HN.out]; obtain ⟨hcb,htt⟩:=one_cells ht2; have HT2:Hid (Turned [] w w2):=HT1.out.trans htt; have HCB:Hid _:=hcb; have HB2:Hid _:=htt.heap HB.out (by simp); have HSR:Hid (SR 0 w2 (.slice va (t.way k).length vc) (t.way k)):=hsr.lower (Nat.zero_le _); have l2:w1.heap.size < w2.heap.size:=lt_of_heap hcb; clear ht2 hsr hcb htt)
  | (go_at_call 46; refine (HF.out _ _ _ _ _ _).mono ?_; rintro e w3 ⟨rfl,ht3⟩; obtain ⟨hdb,htt⟩:=one_cells ht3; have HDB:Hid _:=hdb; have HT3:Hid (Turned [] w w3):=HT2.out.trans htt; have hcb:=htt.heap HCB.out (by simp); have HCB3:Hid _:=hcb; have HB3:Hid _:=htt.heap HB2.out (by simp); have HSR3:Hid _:=HSR.out.still htt; have l3:w2.heap.size < w3.heap.size:=lt_of_heap hdb; have c2:w3.cell? ⟨w1.heap.size,2,none⟩=some (.int .i64 0):=(by rw [cell_at hcb]; rfl); have c3:w3.cell? ⟨w1.heap.size,3,none⟩=some (.int .i64 0):=(by rw [cell_at hcb]; rfl); have c4:w3.cell? ⟨w1.heap.size,4,none⟩=some (.bool false):=(by rw [cell_at hcb]; rfl); have c5:w3.cell? ⟨w1.heap.size,5,none⟩=some (.slice none 0 0):=(by rw [cell_at hcb]; rfl); have z2:=froz_at hcb 2; have z3:=froz_at hcb 3; have z4:=froz_at hcb 4; have z5:=froz_at hcb 5; have d1:w3.cell? ⟨w2.heap.size,1,none⟩=some (.int .i64 (t.stop k).hd):=(by rw [cell_at hdb]; rfl); clear ht3 htt hdb hcb)
  | (go_at_call 44; refine (HE.out (Ini.mk' (b10:=w.heap.size) (D:=(fun x=>x.heap[w2.heap.size]?=some (.cells #[.slice va (t.way k).length vc,.int .i64 (t.stop k).hd,.int .i64 a,.int .i64 b,.iface T nvv] 132 (0,0))∧SR 0 x (.slice va (t.way k).length vc) (t.way k))) HH.out.1 HH.out.2.1 HT3.out HCB3.out HB3.out ⟨HDB.out,HSR3.out⟩ ((calm_cells (by decide)).and calm_sr) (by have:=HT1.out.size; omega)) ((calm_cells (by decide)).and calm_sr) (by have:=HT1.out.size; omega)).mono ?_; rintro e y ⟨hpx,hb3⟩; have HPX:Hid (PutX w p tb F s St it (some t) 0 v true [] e y):=hpx; have HB4:Hid _:=hb3; obtain ⟨q0,q1,q2,q3,q4⟩:=(cells5 hb3).1; obtain ⟨y0,y1,y2,y3,y4⟩:=(cells5 hb3).2; obtain ⟨er,root2,old2,had2,ga,gl,gc,ma,ml,mc,_,_,_,_,_,_,he,-⟩:=hpx; subst he; clear hb3))
 refine put_ret (b:=w.heap.size) (r:=root2) (o:=old2) (h:=had2) (ga:=ga) (gl:=gl) (gc:=gc) (ma:=ma) (ml:=ml) (mc:=mc) rfl rfl rfl rfl (wr5_b HB4.out) ?_
 rw [HRR.out]
 exact HPX.out.keep HB4.out (by decide) (by decide) (Nat.le_refl _) wr5_t
end Go.Proofs.YtloljphbdfjgdaaGreatDoor
/- Package trie's Put of a key that has another value, walked. (Written by tools/gen/genput.py.) -/
namespace Go.Proofs.YtloljphbdfjgdaaGreatDoor
open Go.RowKit
set_option maxRecDepth 100000 in
set_option maxHeartbeats 800000 in
theorem cPutC2 {w:World} {tb p it:Nat} {F:List Nat} {s:PSt} {St:List Nat} {k v:Int} {t:Tr} (hT:TrieB w tb p) (hA:PoolAt w p F s) (hV:PV s St it) (hit:it≤900000000) (h0:0∉F) (hR:Rep s t) (hw:t.WF) (k0:0≤k) (k1:k≤4294967295) {ov:Int} (hval:Tr.val k (t.stop k)=some ov) (hne:ov≠v):Calls Tryz.prog 19 #[pt tb,.pointer none,.int .i64 t.hd,.int .i64 k,.int .i64 v] w (PutX w p tb F s St it (some (Tr.put (gOf s St) k v 0 0 t).1) (Tr.put (gOf s St) k v 0 0 t).2 ov true (Tr.gone k t)):=by
 have HK:Hid (∀ x,Calls Tryz.prog 41 #[.int .i64 k] x fun e w'=>e=.returned (.bool true)∧Turned [] x w'):=cIsKey k (decide_eq_true ⟨k0,k1⟩)
 have HH:Hid (TrieB w tb p∧PoolAt w p F s∧PV s St it∧it≤900000000∧0∉F):=⟨hT,hA,hV,hit,h0⟩
 have hpos:=hR.top.pos
 have hz:(t.hd == 0)=false:=by simp; omega
 have HD:Hid (∀ x,Turned [] w x→Calls Tryz.prog 45 #[pt tb,.pointer none,.int .i64 t.hd,.int .i64 k] x (DownR x k t)):=fun x hx=>cDown (hT.still hx) (hA.still hx) hV.ok hR hw k0 k1
 obtain ⟨T,nvv,hN⟩:=nv_form (t.stop k)
 have HN:Hid _:=hN
 have hst:=way_stp hV.ok k hR hw
 have hch:=Tr.chn_way k t
 have hwl:(t.way k).length≤40:=by have:=Tr.way_len k hw; have:=hw.deep32; omega
 obtain ⟨hew,her⟩:=stop_rep (k:=k) hR hw
 have HF:Hid (∀ (va:Option Addr) (vn vc:Nat) (a b:Int) (x:World),Calls Tryz.prog 46 #[.agg #[.slice va vn vc,.int .i64 (t.stop k).hd,.int .i64 a,.int .i64 b,.iface T nvv],.int .i64 k] x fun e w'=>e=.returned (.tuple #[.int .i64 ov,.bool true])∧Turned [] x w'):=fun va vn vc a b x=>by
  have:=cDFind (va:=va) (vn:=vn) (vc:=vc) (t.stop k) (t.stop k).hd a b k x
  rw [hN,hval] at this
  exact this
 have hnv:(ov == v)=false:=by simpa using hne
 have hleaf:∃ h',t.stop k=Tr.leaf h' k ov:=by
  rcases Tr.stop_span (k:=k) hw with ⟨h,v',e⟩ | h
  ·rw [e] at hval; simp [Tr.val] at hval; exact ⟨h,by rw [e,hval]⟩
  ·exfalso
   cases e:t.stop k with
   | leaf h2 k2 v2=>rw [e] at h hval; simp only [Tr.lo,Tr.hi] at h; simp only [Tr.val] at hval; rw [if_neg (by omega)] at hval; cases hval
   | node h2 q c l r=>rw [e] at hval; simp [Tr.val] at hval
 obtain ⟨lh,hlf⟩:=hleaf
 have hpl:Tr.put (gOf s St) k v 0 0 (t.stop k)=(Tr.leaf (gOf s St 0) k v,1):=by rw [hlf]; simp [Tr.put]
 have hgl:[(t.stop k).hd]=Tr.gone k (t.stop k):=by rw [hlf]; simp [Tr.gone,Tr.hd]
 have hc1:(((Tr.leaf (gOf s St 0) k v,1):Tr × Nat).1.cnt:Int)=(t.stop k).cnt+0:=by rw [hlf]; rfl
 have HL:Hid (∀ {cb b10:Nat} {D:World→Prop} {x:World} {va:Option Addr} {vc:Nat},Mid w cb tb p it b10 F s St ov true D x (Tr.leaf (gOf s St 0) k v,1) [(t.stop k).hd]→Calm D→w.heap.size≤cb→SR 0 x (.slice va (t.way k).length vc) (t.way k)→Calls Tryz.prog 47 #[.pointer (some ⟨cb,0,none⟩),.slice va (t.way k).length vc,.int .i64 0] x fun e' y=>e'=.returned (.tuple #[])∧Mid w cb tb p it b10 F s St ov true D y (Tr.put (gOf s St) k v 0 0 t) (Tr.gone k t)):=fun hm hD hge hsr=>by
  have:=mClimb (e:=t.stop k) (more:=0) hm hD hge hsr hwl (show 1≤10 by decide) (by simp) hit (by decide) hst hch hc1
  rw [← hpl,← Tr.put_way,hgl,← Tr.gone_way] at this
  exact this
 have HU:Hid ((Tr.put (gOf s St) k v 0 0 t).2≤100):=by have:=(Tr.put_most (g:=gOf s St) (k:=k) (v:=v) (p:=0) (b:=0) hw).1; show _≤100; omega
 obtain ⟨R,hRR⟩:∃ R,R=PutX w p tb F s St it (some (Tr.put (gOf s St) k v 0 0 t).1) (Tr.put (gOf s St) k v 0 0 t).2 ov true (Tr.gone k t):=⟨_,rfl⟩
 rw [← hRR]
 have HRR:Hid _:=hRR
 clear hRR
 clear hT hA hV hit h0 hR hw k0 k1 hpos hN hst hch hwl hew her hval hne hlf hpl hgl hc1
 generalize t.hd=th at *
 go_enter Tryz.func19,Tryz.ntmps19
 go_wp2_with (first
  | (go_at_call 41; refine (HK.out _).mono ?_; rintro e w1 ⟨rfl,ht1⟩; obtain ⟨hb,htt⟩:=one_cells ht1; have HT1:Hid (Turned [] w w1):=htt; have HB:Hid _:=hb; have l1:w.heap.size < w1.heap.size:=lt_of_heap hb; clear ht1 htt hb)
  | (go_at_call 45; refine (HD.out _ (HT1.out.alloc _)).mono ?_; rintro e w2 ⟨v',a,b,rfl,ht2,hsr,-,-⟩; obtain ⟨va,vc,rfl⟩:=hsr.form; rw [HN.out]; obtain ⟨hcb,htt⟩:=one_cells ht2; have HT2:Hid (Turned [] w w2):=HT1.out.trans htt; have HCB:Hid _:=hcb; have HB2:Hid _:=htt.heap HB.out (by simp); have HSR:Hid (SR 0 w2 (.slice va (t.way k).length vc) (t.way k)):=hsr.lower (Nat.zero_le _); have l2:w1.heap.size < w2.heap.size:=lt_of_heap hcb; clear ht2 hsr hcb htt)
  | (go_at_call 46; refine (HF.out _ _ _ _ _ _).mono ?_; rintro e w3 ⟨rfl,ht3⟩; obtain ⟨hdb,htt⟩:=one_cells ht3; have HDB:Hid _:=hdb; have HT3:Hid (Turned [] w w3):=HT2.out.trans htt; have hcb:=htt.heap HCB.out (by simp); have HCB3:Hid _:=hcb; have HB3:Hid _:=htt.heap HB2.out (by simp); have HSR3:Hid _:=HSR.out.still htt; have l3:w2.heap.size < w3.heap.size:=lt_of_heap hdb; have c2:w3.cell? ⟨w1.heap.size,2,none⟩=some (.int .i64 0):=(by rw [cell_at hcb]; rfl); have c3:w3.cell? ⟨w1.heap.size,3,none⟩=some (.int .i64 0):=(by rw [cell_at hcb]; rfl); have c4:w3.cell? ⟨w1.heap.size,4,none⟩=some (.bool false):=(by rw [cell_at hcb]; rfl); have c5:w3.cell? ⟨w1.heap.size,5,none⟩=some (.slice none 0 0):=(by rw [cell_at hcb]; rfl); have z2:=froz_at hcb 2; have z3:=froz_at hcb 3; have z4:=froz_at hcb 4; have z5:=froz_at hcb 5; have d1:w3.cell? ⟨w2.heap.size,1,none⟩=some (.int .i64 (t.stop k).hd):=(by rw [cell_at hdb]; rfl); clear ht3 htt hdb hcb)
  | (at_builtin; go_loud (have hini:=(Ini.mk' (old:=ov) (had:=true) (b10:=w.heap.size) (D:=(fun x=>x.heap[w2.heap.size]?=some (.cells #[.slice va (t.way k).length vc,.int .i64 (t.stop k).hd,.int .i64 a,.int .i64 b,.iface T nvv] 132 (0,0))∧SR 0 x (.slice va (t.way k).length vc) (t.way k))) HH.out.1 HH.out.2.1 HT3.out HCB3.out HB3.out ⟨HDB.out,HSR3.out⟩ ((calm_cells (by decide)).and calm_sr) (by have:=HT1.out.size; omega)); refine wpList_apInt (v:=.slice none 0 0) (x:=(t.stop k).hd) (g:=w3.heap.size) (l:=[]) (B:=w.heap.size) rfl _ _ rfl rfl rfl (IR.nil _ _) rfl (by go_simp) (by simp) (by have:=HT3.out.size; simp; omega) ?_; intro v2 w11 hsr ht11 hor; obtain ⟨hi2,hcb2⟩:=hini.went ((calm_cells (by decide)).and calm_sr) (by have:=HT1.out.size; omega) ((Turned.refl [] _).alloc _) ht11 hsr hor; obtain ⟨va2,vc2,hv2⟩:=hsr.form; have HI2:Hid _:=hi2; have c5b:w11.cell? ⟨w1.heap.size,5,none⟩=some (.slice none 0 0):=(by rw [cell_at hcb2]; rfl); have z5b:=froz_at hcb2 5; have hv3:v2=.slice va2 1 vc2:=(by rw [hv2]; simp); clear hv2; subst hv3; clear hi2 hcb2 hini hsr ht11 hor))
  | (go_at_call 43; refine (mTake0 HI2.out ((calm_cells (by decide)).and calm_sr) (by have:=HT1.out.size; omega) HH.out.2.2.1 HH.out.2.2.2.1).mono ?_; rintro e w4 ⟨rfl,hm⟩; have hdd:=hm.d.1; obtain ⟨m0,m1,m2,m3,m4⟩:=(cells5 hdd).1; clear hdd; have HMw4:Hid _:=hm; clear hm)
  | (go_at_call 47; refine (HL.out HMw4.out ((calm_cells (by decide)).and calm_sr) (by have:=HT1.out.size; omega) HMw4.out.d.2).mono ?_; rintro e w6 ⟨rfl,hm⟩; have hdd:=hm.d.1; obtain ⟨o0,o1,o2,o3,o4⟩:=(cells5 hdd).1; clear hdd; have HMw6:Hid _:=hm; clear hm)
  | (go_at_call 44; refine (mEnd HMw6.out HH.out.2.2.1 HU.out HH.out.2.2.2.1).mono ?_; rintro e y ⟨hpx,hb3⟩; have HPX:Hid (PutX w p tb F s St it (some (Tr.put (gOf s St) k v 0 0 t).1) (Tr.put (gOf s St) k v 0 0 t).2 ov true (Tr.gone k t) e y):=hpx; have HB4:Hid _:=hb3; obtain ⟨q0,q1,q2,q3,q4⟩:=(cells5 hb3).1; obtain ⟨y0,y1,y2,y3,y4⟩:=(cells5 hb3).2; obtain ⟨er,root2,old2,had2,ga,gl,gc,ma,ml,mc,_,_,_,_,_,_,he,-⟩:=hpx; subst he; clear hb3))
 refine put_ret (b:=w.heap.size) (r:=root2) (o:=old2) (h:=had2) (ga:=ga) (gl:=gl) (gc:=gc) (ma:=ma) (ml:=ml) (mc:=mc) rfl rfl rfl rfl (wr5_b HB4.out) ?_
 rw [HRR.out]
 exact HPX.out.keep HB4.out (by decide) (by decide) (Nat.le_refl _) wr5_t
end Go.Proofs.YtloljphbdfjgdaaGreatDoor
/- A frame, spelled out. -/
namespace Go.Proofs.YtloljphbdfjgdaaGreatDoor
open Go.RowKit
def lit95 (c:Nat→Value):Array Value:=#[c 0,c 1,c 2,c 3,c 4,c 5,c 6,c 7,c 8,c 9,c 10,c 11,c 12,c 13,c 14,c 15,c 16,c 17,c 18,c 19,c 20,c 21,c 22,c 23,c 24,c 25,c 26,c 27,c 28,c 29,c 30,c 31,c 32,c 33,c 34,c 35,c 36,c 37,c 38,c 39,c 40,c 41,c 42,c 43,c 44,c 45,c 46,c 47,c 48,c 49,c 50,c 51,c 52,c 53,c 54,c 55,c 56,c 57,c 58,c 59,c 60,c 61,c 62,c 63,c 64,c 65,c 66,c 67,c 68,c 69,c 70,c 71,c 72,c 73,c 74,c 75,c 76,c 77,c 78,c 79,c 80,c 81,c 82,c 83,c 84,c 85,c 86,c 87,c 88,c 89,c 90,c 91,c 92,c 93,c 94]
set_option maxRecDepth 100000 in
theorem lit95_eq (c:Nat→Value):lit95 c=((List.range 95).map c).toArray:=by rfl
theorem expand95 {a:Act} (hs:a.tmps.size=95) (hd:a.defers=[]):∃ c:Nat→Value,a=⟨lit95 c,[]⟩∧∀ s,c s=a.eval (.tmp s):=by
 refine ⟨fun s=>a.tmps.getD s undef,?_,fun s=>rfl⟩
 obtain ⟨t,d⟩:=a
 simp only at hs hd
 subst hd
 congr 1
 rw [lit95_eq]
 refine Array.ext (by simp [hs]) fun i h1 h2=>?_
 simp [Array.getD,h1]
end Go.Proofs.YtloljphbdfjgdaaGreatDoor
/- For package trie's Drop: the tree, a shorter way, how a change begins. -/
namespace Go.Proofs.YtloljphbdfjgdaaGreatDoor
open Go.RowKit
def Tr.oth:Tr × Int→Tr
 | (.leaf h k v,_)=>.leaf h k v
 | (.node _ _ _ l r,sd)=>if sd=0 then r else l
theorem Tr.del_nil {g:Nat→Int} {k:Int} {t:Tr} (hw:t.WF) (hv:(Tr.val k (t.stop k)).isSome) (h:t.way k=[]):Tr.del g k t=(none,0)∧∃ h v,t=Tr.leaf h k v:=by
 cases t with
 | leaf h' k' v' =>
  refine ⟨rfl,h',v',?_⟩
  simp only [Tr.stop,Tr.val] at hv
  by_cases e:k'=k
  ·rw [e]
  ·rw [if_neg e] at hv; cases hv
 | node h' q c l r =>
  exfalso
  simp only [Tr.way] at h
  simp only [Tr.stop] at hv
  split at h
  ·cases h
  ·split at h
   ·cases h
   ·rename_i a1 a2
    rw [if_neg a1,if_neg a2] at hv
    cases hv
theorem Tr.del_way {g:Nat→Int} {k:Int}:∀ {t:Tr},t.WF→(Tr.val k (t.stop k)).isSome→∀ {l:List (Tr × Int)} {x:Tr × Int},t.way k=l ++ [x]→Tr.del g k t=(some (l.foldr (Tr.up g) (Tr.oth x,0)).1,(l.foldr (Tr.up g) (Tr.oth x,0)).2)
 | .leaf _ _ _,_,_,l,x,h=>by simp [Tr.way] at h
 | .node h q c L R,hw,hv,l,x,he=>by
  obtain ⟨w1,w2,w3,w4,w5,w6,w7,w8,hL,hR⟩:=id hw
  by_cases a1:c≤k∧k < c+2 ^ q
  ·rw [show Tr.way k (.node h q c L R)=(.node h q c L R,0) :: Tr.way k L by simp only [Tr.way]; rw [if_pos a1]] at he
   rw [show Tr.stop k (.node h q c L R)=Tr.stop k L by simp only [Tr.stop]; rw [if_pos a1]] at hv
   cases l with
   | nil =>
    injection he with e1 e2
    subst e1
    obtain ⟨hd,-⟩:=Tr.del_nil (g:=g) hL hv e2
    simp only [Tr.del]
    rw [if_pos a1.2,hd]
    simp [Tr.oth]
   | cons y l' =>
    injection he with e1 e2
    subst e1
    have ih:=Tr.del_way (g:=g) hL hv e2
    simp only [Tr.del]
    rw [if_pos a1.2,ih,List.foldr_cons]
    generalize l'.foldr (Tr.up g) (Tr.oth x,0)=u
    simp [Tr.up]
  ·by_cases a2:c+2 ^ q≤k∧k < c+2 * 2 ^ q
   ·rw [show Tr.way k (.node h q c L R)=(.node h q c L R,1) :: Tr.way k R by simp only [Tr.way]; rw [if_neg a1,if_pos a2]] at he
    rw [show Tr.stop k (.node h q c L R)=Tr.stop k R by simp only [Tr.stop]; rw [if_neg a1,if_pos a2]] at hv
    have hn:¬ k < c+2 ^ q:=by omega
    cases l with
    | nil =>
     injection he with e1 e2
     subst e1
     obtain ⟨hd,-⟩:=Tr.del_nil (g:=g) hR hv e2
     simp only [Tr.del]
     rw [if_neg hn,hd]
     simp [Tr.oth]
    | cons y l' =>
     injection he with e1 e2
     subst e1
     have ih:=Tr.del_way (g:=g) hR hv e2
     simp only [Tr.del]
     rw [if_neg hn,ih,List.foldr_cons]
     generalize l'.foldr (Tr.up g) (Tr.oth x,0)=u
     simp [Tr.up]
   ·exfalso
    rw [show Tr.way k (.node h q c L R)=[] by simp only [Tr.way]; rw [if_neg a1,if_neg a2]] at he
    simp at he
theorem SR.init {B:Nat} {w:World} {g c:Nat} {l:List (Tr × Int)} {x:Tr × Int} (h:SR B w (.slice (some ⟨g,0,none⟩) (l.length+1) c) (l ++ [x])):SR B w (.slice (some ⟨g,0,none⟩) l.length c) l:=by
 obtain ⟨h1,h2⟩:=h.own
 rcases h2 with ⟨h0,_⟩ | ⟨g',c',cs,hv,hb,hg,hn,hm,hs,ht⟩
 ·cases h0
 ·simp only [Value.slice.injEq,Option.some.injEq,Addr.mk.injEq,and_true] at hv
  obtain ⟨rfl,-,rfl⟩:=hv
  have hlen:∀ l:List (Tr × Int),(l.flatMap stepC).length=l.length * 7:=fun l=>by
   induction l with
   | nil=>simp
   | cons y l ih=>simp [List.flatMap_cons,stepC_len,ih]; omega
  refine ⟨hlen l,.inr ⟨g,c,cs,rfl,hb,hg,by simp at hn; omega,hm,hs,?_⟩⟩
  have h3:=congrArg (List.take (l.length * 7)) ht
  rw [List.take_take,List.flatMap_append] at h3
  rw [show min (l.length * 7) ((l ++ [x]).length * 7)=l.length * 7 by simp] at h3
  rw [h3,List.take_append_of_le_length (by rw [hlen]; omega),List.take_of_length_le (by rw [hlen]; omega)]
theorem SR.some {B:Nat} {w:World} {v:Value} {l:List (Tr × Int)} {x:Tr × Int} (h:SR B w v (l ++ [x])):∃ g c,v=.slice (some ⟨g,0,none⟩) (l.length+1) c∧l.length+1≤c∧c≤maxLen:=by
 rcases h.own.2 with ⟨_,h0⟩ | ⟨g',c',cs,hv,hb,hg,hn,hm,hs,ht⟩
 ·simp at h0
 ·exact ⟨g',c',by rw [hv]; simp,by simpa using hn,hm⟩
theorem IR.lit {B:Nat} {x:World} {lb:Nat} {h:Int} (hh:x.heap[lb]?=some (.cells #[.int .i64 h] 3 (0,0))) (hb:B≤lb):IR B x (.slice (some ⟨lb,0,none⟩) 1 1) [h]:=⟨⟨by simp,.inr ⟨lb,1,_,rfl,hb,hh,Nat.le_refl 1,by unfold maxLen; decide,rfl,rfl⟩⟩⟩
section
variable {w x3:World} {tb p it cb b10 lb:Nat} {F:List Nat} {s:PSt} {St:List Nat} {k v old eh:Int} {had:Bool} {D:World→Prop}
theorem Ini.mk1 (hT:TrieB w tb p) (hA:PoolAt w p F s) (ht3:Turned [] w x3) (hcb:x3.heap[cb]?=some (chObj tb 0 old true (.slice (some ⟨lb,0,none⟩) 1 1) (.slice none 0 0) 0)) (hlb:x3.heap[lb]?=some (.cells #[.int .i64 eh] 3 (0,0))) (hle:w.heap.size≤lb) (hb:x3.heap[b10]?=some edit0) (hd:D x3):Ini w tb p cb b10 F s 0 old true D (.slice (some ⟨lb,0,none⟩) 1 1) [eh] x3 :=
 ⟨⟨hcb,hA.still ht3,ht3.heap hT.blk (by simp),IR.lit hlb hle,IR.nil _ _,fun g _ h=>by cases h⟩,ht3.mono (by simp),hb,hd⟩
theorem Ini.mid {gv:Value} {gone:List Int} {u:Tr} (hI:Ini w tb p cb b10 F s u.hd old had D gv gone x3) (hV:PV s St it) (hR:Rep s u):Mid w cb tb p it b10 F s St old had D x3 (u,0) gone :=
 ⟨⟨F,gv,.slice none 0 0,s,0,u.hd,0,hI.cg,⟨MK.zero hV,.inl ⟨rfl,rfl,rfl,hR⟩⟩,fun _ h=>.inl h⟩,hI.t,hI.b,hI.d⟩
end
end Go.Proofs.YtloljphbdfjgdaaGreatDoor

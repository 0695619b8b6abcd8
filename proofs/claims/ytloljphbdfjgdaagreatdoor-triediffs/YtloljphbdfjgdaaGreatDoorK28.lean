/- Package trie's take, alone, by contract. -/
import Derived.Test.YtloljphbdfjgdaaGreatDoorK27
import Derived.OwnWalk
import Derived.Test.YtloljphbdfjgdaaGreatDoorK03
namespace Go.Proofs.YtloljphbdfjgdaaGreatDoor
open Go.RowKit
theorem wpList_apInt {w:World} {ops:Array Oper} {rest:List Oper} {o:Oper} {a:Act} {Q:Exit→Act→World→Prop} {B:Nat} {v:Value} {l:List Int} {x:Int} {g c:Nat} (hgd:o.guard=none) (p q:Operand) (ho:o.op=.call { callee:=.builtin .append,args:=#[p,q],argTypes:=#[38,38] }) (hty:o.type=38)
  (hs:a.eval p=v) (hr:IR B w v l) (hy:a.eval q=.slice (some ⟨g,0,none⟩) 1 c) (hcell:w.cell? ⟨g,0,none⟩=some (.int .i64 x)) (hm:l.length≤100000) (hB:B≤w.heap.size)
  (h:∀ v' w',IR B w' v' (l ++ [x])→Turned v.ownBlock.toList w w'→(v'.ownBlock=v.ownBlock∨v'.ownBlock=some w.heap.size)→wpList Tryz.prog ops Q rest (a.put o.dst v') w'):wpList Tryz.prog ops Q (o :: rest) a w:=by
 refine wpList_plain hgd fun K hK=>?_
 obtain ⟨v',w',hrun,h2,h3,h4⟩:=run_apInt (c:=c) hr hcell hm hB
 rw [← hty] at hrun
 unfold Oper.wp execOp
 simp only [ho,resolve,invoke,builtin,Sem.run_bind,Sem.run_pure,Result.andThen_ok,List.map_toArray,List.map_cons,List.map_nil,hs,hy]
 rw [hty] at hrun ⊢
 simp only [hrun]
 exact hK _ _ (h v' w' h2 h3 h4)
section
variable {B:Nat} {w:World} {cb tb p it:Nat} {F:List Nat} {s:PSt} {root old:Int} {had:Bool} {gv mv nn:Value} {gone made:List Int} {xa xb xc xd err:Int}
theorem cTakeSkip (h:CG B w cb tb p F s root old had gv mv gone made err) (he:¬ err=0):Calls Tryz.prog 43 #[.pointer (some ⟨cb,0,none⟩),nn] w fun e w'=>e=.returned (.tuple #[])∧w'=w:=by
 have c7:w.cell? ⟨cb,7,none⟩=some (.int .i64 err):=by rw [cell_at h.obj]; rfl
 have hb:(err != 0)=true:=by simpa using he
 clear h he
 go_enter Tryz.func43,Tryz.ntmps43
 go_wp2
 refine bodyPost_ret (results_none rfl _ _ _) rfl ?_
 exact ⟨rfl,rfl⟩
def TkPh (w:World) (cb:Nat) (P2:World→Prop) (r2:Int):Nat→(Nat→Value)→World→Prop
 | 0,_,x=>Turned [] w x
 | 1,_,x=>Turned [] w x
 | 2,_,x=>P2 x
 | _,_,x=>∃ y,P2 y∧x=y.setCell ⟨cb,7,none⟩ (.int .i64 r2)
theorem obj_cells {w:World} {err:Int} (h:w.heap[cb]?=some (chObj tb root old had gv mv err)) (ht:w.heap[tb]?=some (.cells #[.pointer (some ⟨p,0,none⟩)] 96 (0,0))):w.cell? ⟨cb,0,none⟩=some (pa tb 0)∧w.cell? ⟨cb,1,none⟩=some (.pointer none)∧w.cell? ⟨tb,0,none⟩=some (pa p 0) :=
 ⟨by rw [cell_at h]; rfl,by rw [cell_at h]; rfl,by rw [cell_at ht]; rfl⟩
theorem tk_cells (h:CG B w cb tb p F s root old had gv mv gone made 0) {P2:World→Prop} {r2:Int} (hP:∀ x,P2 x→Turned F w x):∀ g u x,TkPh w cb P2 r2 g u x→x.cell? ⟨cb,0,none⟩=some (pa tb 0)∧x.cell? ⟨cb,1,none⟩=some (.pointer none)∧x.cell? ⟨tb,0,none⟩=some (pa p 0):=by
 intro g u x hx
 match g,hx with
 | 0,hx=>exact obj_cells (h.still hx).obj (h.still hx).tr
 | 1,hx=>exact obj_cells (h.still hx).obj (h.still hx).tr
 | 2,hx=>exact obj_cells ((hP x hx).heap h.obj h.ncb) ((hP x hx).heap h.tr h.ntb)
 | g+3,hx =>
  obtain ⟨y,hy,rfl⟩:=hx
  have h1:=blk_set ((hP y hy).heap h.obj h.ncb) 7 (.int .i64 r2)
  exact obj_cells (err:=r2) h1 ((blk_other h.ntc _ _).trans ((hP y hy).heap h.tr h.ntb))
theorem tk_store (h:CG B w cb tb p F s root old had gv mv gone made 0) {P2:World→Prop} {r2:Int} (hP:∀ x,P2 x→Turned F w x) (u:Nat→Value) (x:World) (hx:TkPh w cb P2 r2 2 u x):∃ w',(Instr.storeAt 25 (pa cb 7) (.int .i64 r2)).run Tryz.prog x=.ok () w'∧TkPh w cb P2 r2 3 u w':=by
 have hh:=(hP x hx).heap h.obj h.ncb
 have c7:x.cell? ⟨cb,7,none⟩=some (.int .i64 0):=by rw [cell_at hh]; rfl
 have z7:=froz_at hh 7
 refine ⟨x.setCell ⟨cb,7,none⟩ (.int .i64 r2),?_,x,hx,rfl⟩
 unfold pa
 go_simp
set_option maxRecDepth 100000 in
set_option maxHeartbeats 1600000 in
theorem cTakeFull (h:CG B w cb tb p F s root old had gv mv gone made 0) (hV:PV s [] it) (hnum:∀ x,Calls Tryz.prog 73 #[nn] x fun e w'=>e=.returned (.agg #[.int .i64 xa,.int .i64 xb,.int .i64 xc,.int .i64 xd])∧Turned [] x w') :
  Calls Tryz.prog 43 #[.pointer (some ⟨cb,0,none⟩),nn] w fun e w'=>e=.returned (.tuple #[])∧CG B w' cb tb p F s root old had gv mv gone made 102∧Turned (cb :: F) w w':=by
 have c7:w.cell? ⟨cb,7,none⟩=some (.int .i64 0):=by rw [cell_at h.obj]; rfl
 have HH:Hid _:=h
 have HN:Hid _:=hnum
 have HV:Hid _:=hV
 clear h hnum hV
 go_enter Tryz.func43,Tryz.ntmps43
 go_wp2
 have hP:∀ x,(Turned F w x∧PoolAt x p F s)→Turned F w x:=fun x hx=>hx.1
 refine take_r2 (cb:=cb) (tb:=tb) (p:=p) (nn:=nn) (xa:=xa) (xb:=xb) (xc:=xc) (xd:=xd) (r1:=0) (r2:=102) (Ph:=TkPh w cb (fun x=>Turned F w x∧PoolAt x p F s) 102) rfl rfl rfl (tk_cells HH.out hP) (Turned.refl _ _).drew ?_ ?_ (fun u x hx=>tk_store HH.out hP u x hx) ?_
 ·intro u x hx
  refine (HN.out x).mono ?_
  rintro e w' ⟨rfl,ht⟩
  exact ⟨rfl,Turned.trans (show Turned [] w x from hx) ht⟩
 ·intro u x hx
  have hx':Turned [] w x:=hx
  refine (poolLaws.takeFull (HH.out.at_.still hx') HV.out.ok HV.out.empty xa xb xc xd 0).mono ?_
  rintro e w' ⟨rfl,ht,hA⟩
  exact ⟨rfl,(hx'.mono (by simp)).trans ht,hA⟩
 ·rintro a' x u hs hd hoff x4 ⟨y,⟨hty,hA⟩,rfl⟩
  have e0:a'.eval (.tmp 0)=.pointer (some ⟨cb,0,none⟩):=(hoff 0 (by decide)).trans rfl
  obtain ⟨cc,hcc,hce⟩:=expand52 (hs.trans rfl) (hd.trans rfl)
  have g0:=(hce 0).trans e0
  have hcg:=(HH.out.pool hty hA).cell (k:=7) (v:=.int .i64 102) (root':=root) (old':=old) (had':=had) (err':=102) rfl
  have c7':(y.setCell ⟨cb,7,none⟩ (.int .i64 102)).cell? ⟨cb,7,none⟩=some (.int .i64 102):=by rw [cell_at hcg.obj]; rfl
  have HC:Hid _:=hcg
  have HT:Hid (Turned (cb :: F) w (y.setCell ⟨cb,7,none⟩ (.int .i64 102))):=(hty.mono (fun z hz=>by simp [hz])).set (.inl (by simp)) _ _
  clear hoff e0 hce hs hd hcg c7 x4
  generalize y.setCell ⟨cb,7,none⟩ (.int .i64 102)=y2 at *
  subst hcc
  simp only [lit52,g0]
  clear g0
  go_wp2
  go_end0
  exact ⟨rfl,HC.out,HT.out⟩
set_option maxRecDepth 100000 in
set_option maxHeartbeats 1600000 in
theorem cTakeOk {i:Nat} {St:List Nat} (h:CG B w cb tb p F s root old had gv mv gone made 0) (hV:PV s (i :: St) it) (hB:B≤w.heap.size) (hl:made.length≤100000) (hnum:∀ x,Calls Tryz.prog 73 #[nn] x fun e w'=>e=.returned (.agg #[.int .i64 xa,.int .i64 xb,.int .i64 xc,.int .i64 xd])∧Turned [] x w') :
  Calls Tryz.prog 43 #[.pointer (some ⟨cb,0,none⟩),nn] w fun e w'=>e=.returned (.tuple #[])∧∃ F' mv',CG B w' cb tb p F' (s.take i xa xb xc xd 0) (hnd i ((s.slot i).gen+1)) old had gv mv' gone (made ++ [hnd i ((s.slot i).gen+1)]) 0∧Turned (cb :: (mv.ownBlock.toList ++ F)) w w'∧Wider F F' w∧(∀ g,mv'.ownBlock=some g→mv.ownBlock=some g∨w.heap.size≤g):=by
 have c7:w.cell? ⟨cb,7,none⟩=some (.int .i64 0):=by rw [cell_at h.obj]; rfl
 have HH:Hid _:=h
 have HN:Hid _:=hnum
 have HV:Hid _:=hV
 have HL:Hid _:=And.intro hl hB
 obtain ⟨k1,k2,k3,k4,k5,k6,k7⟩:=hV.some
 have HK:Hid (idxV s.h=i∧i≠0∧0≤(s.slot i).gen∧(s.slot i).gen≤1099511627774):=⟨k1,k2,k5,by have:=hV.fits; omega⟩
 clear h hnum hV hl hB k1 k2 k3 k4 k5 k6 k7
 go_enter Tryz.func43,Tryz.ntmps43
 go_wp2
 have hP:∀ x,(Turned F w x∧∃ F',PoolAt x p F' (s.take i xa xb xc xd 0)∧Wider F F' w)→Turned F w x:=fun x hx=>hx.1
 refine take_r2 (cb:=cb) (tb:=tb) (p:=p) (nn:=nn) (xa:=xa) (xb:=xb) (xc:=xc) (xd:=xd) (r1:=hnd i ((s.slot i).gen+1)) (r2:=0) (Ph:=TkPh w cb (fun x=>(Turned F w x∧∃ F',PoolAt x p F' (s.take i xa xb xc xd 0)∧Wider F F' w)) 0) rfl rfl rfl (tk_cells HH.out hP) (Turned.refl _ _).drew ?_ ?_ (fun u x hx=>tk_store HH.out hP u x hx) ?_
 ·intro u x hx
  refine (HN.out x).mono ?_
  rintro e w' ⟨rfl,ht⟩
  exact ⟨rfl,Turned.trans (show Turned [] w x from hx) ht⟩
 ·intro u x hx
  have hx':Turned [] w x:=hx
  refine (poolLaws.take (HH.out.at_.still hx') HV.out.ok HK.out.1 HK.out.2.1 HK.out.2.2.1 HK.out.2.2.2 xa xb xc xd 0).mono ?_
  rintro e w' ⟨rfl,ht,F',hA,hW⟩
  exact ⟨rfl,(hx'.mono (by simp)).trans ht,F',hA,fun z hz=>(hW z hz).imp id (Nat.le_trans hx'.size)⟩
 ·rintro a' x u hs hd hoff x4 ⟨y,⟨hty,F',hA,hW⟩,rfl⟩
  have e0:a'.eval (.tmp 0)=.pointer (some ⟨cb,0,none⟩):=(hoff 0 (by decide)).trans rfl
  obtain ⟨cc,hcc,hce⟩:=expand52 (hs.trans rfl) (hd.trans rfl)
  have g0:=(hce 0).trans e0
  have g4:=(hce 4).trans x4
  have hcg:=(HH.out.pool hty hA).cell (k:=7) (v:=.int .i64 0) (root':=root) (old':=old) (had':=had) (err':=0) rfl
  have hTw:Turned (cb :: F) w (y.setCell ⟨cb,7,none⟩ (.int .i64 0)):=(hty.mono (fun z hz=>by simp [hz])).set (.inl (by simp)) _ _
  obtain ⟨hh,hhe⟩:∃ z,z=hnd i ((s.slot i).gen+1):=⟨_,rfl⟩
  rw [← hhe] at g4
  have HHE:Hid (hh=hnd i ((s.slot i).gen+1)):=hhe
  generalize y.setCell ⟨cb,7,none⟩ (.int .i64 0)=y2 at *
  have c6:y2.cell? ⟨cb,6,none⟩=some mv:=by rw [cell_at hcg.obj]; rfl
  have c7':y2.cell? ⟨cb,7,none⟩=some (.int .i64 0):=by rw [cell_at hcg.obj]; rfl
  obtain ⟨ma,mc,hme⟩:=hcg.mr.form
  have lcb:cb < y2.heap.size:=lt_of_heap hcg.obj
  have HC:Hid _:=hcg
  have HT:Hid _:=hTw
  have HW:Hid (Wider F F' w):=hW
  have HME:Hid (mv=.slice ma made.length mc):=hme
  rw [hme] at c6
  clear hoff e0 hce hs hd hcg c7 x4 hTw hW hme hty hA hhe
  subst hcc
  simp only [lit52,g0,g4]
  clear g0 g4
  go_wp2_with (at_builtin; refine wpList_apInt (v:=.slice ma made.length mc) (x:=hh) (g:=y2.heap.size) (l:=made) (B:=B) rfl _ _ rfl rfl rfl (by rw [← HME.out]; exact (HC.out.still ((Turned.refl _ _).alloc _)).mr) rfl (by go_simp) HL.out.1 (by have:=HL.out.2; have:=HT.out.size; simp; omega) ?_; intro v' w11 hsr ht11 hor; rw [← HME.out] at ht11 hor; obtain ⟨hg1,hg2⟩:=(HC.out.still ((Turned.refl _ _).alloc _)).grew ht11 hsr hor; obtain ⟨va2,vc2,hv2⟩:=hsr.form; have c6b:w11.cell? ⟨cb,6,none⟩=some (.slice ma made.length mc):=(by rw [cell_at hg2,← HME.out]; rfl); have z6b:=froz_at hg2 6; have HG1:Hid _:=hg1; have HT11:Hid _:=ht11; have HOR:Hid _:=hor; have hv3:v'=.slice va2 (made.length+1) vc2:=(by rw [hv2]; simp); have c2b:w11.cell? ⟨cb,2,none⟩=some (.int .i64 root):=(by rw [cell_at hg2]; rfl); have z2b:=froz_at hg2 2; clear hv2; subst hv3; clear hg1 hg2 ht11 hor hsr)
  go_end0
  refine ⟨rfl,F',.slice va2 (made.length+1) vc2,?_,?_,HW.out,fun g hg=>?_⟩
  ·rw [← HHE.out]
   exact HG1.out.cell (k:=2) (v:=.int .i64 hh) (root':=hh) (old':=old) (had':=had) (err':=0) rfl
  ·refine Turned.set (Turned.set (Turned.inner (l:=cb :: (mv.ownBlock.toList ++ F)) ((HT.out.mono (fun z hz=>?_)).alloc _) HT11.out (fun z hz=>.inl ?_)) (.inl (by simp)) _ _) (.inl (by simp)) _ _
   ·simp only [List.mem_cons,List.mem_append] at hz ⊢
    rcases hz with h | h
    ·exact .inl h
    ·exact .inr (.inr h)
   ·simp only [List.mem_cons,List.mem_append]
    exact .inr (.inl hz)
  ·rcases HOR.out with e | e
   ·exact .inl (by rw [← e]; exact hg)
   ·rw [e] at hg
    cases hg
    exact .inr (by have:=HT.out.size; simp; omega)
end
end Go.Proofs.YtloljphbdfjgdaaGreatDoor
/- Climbing up a way; the slots that are taken one behind the other: nothing of the program. -/
namespace Go.Proofs.YtloljphbdfjgdaaGreatDoor
open Go.RowKit
namespace Tr
def up (g:Nat→Int):Tr × Int→Tr × Nat→Tr × Nat
 | (leaf _ _ _,_),s=>s
 | (node _ q c l r,sd),s=>if sd=0 then (node (g s.2) q c s.1 r,s.2+1) else (node (g s.2) q c l s.1,s.2+1)
def topOf (e:Tr):List (Tr × Int)→Tr
 | []=>e
 | x :: _=>x.1
theorem top_way (k:Int):∀ (t:Tr),topOf (t.stop k) (t.way k)=t
 | leaf _ _ _=>rfl
 | node h q c l r=>by
  by_cases a1:c≤k∧k < c+2 ^ q
  ·rw [show way k (node h q c l r)=(node h q c l r,0) :: way k l by simp only [way]; rw [if_pos a1]]; rfl
  ·by_cases a2:c+2 ^ q≤k∧k < c+2 * 2 ^ q
   ·rw [show way k (node h q c l r)=(node h q c l r,1) :: way k r by simp only [way]; rw [if_neg a1,if_pos a2]]; rfl
   ·rw [show way k (node h q c l r)=[] by simp only [way]; rw [if_neg a1,if_neg a2],show stop k (node h q c l r)=node h q c l r by simp only [stop]; rw [if_neg a1,if_neg a2]]; rfl
def Chn (e:Tr):List (Tr × Int)→Prop
 | []=>True
 | x :: l=>(∃ h q c lt rt,x.1=node h q c lt rt∧((x.2=0∧lt=topOf e l)∨(x.2=1∧rt=topOf e l)))∧Chn e l
theorem chn_way (k:Int):∀ (t:Tr),Chn (t.stop k) (t.way k)
 | leaf _ _ _=>trivial
 | node h q c l r=>by
  by_cases a1:c≤k∧k < c+2 ^ q
  ·rw [show way k (node h q c l r)=(node h q c l r,0) :: way k l by simp only [way]; rw [if_pos a1],show stop k (node h q c l r)=stop k l by simp only [stop]; rw [if_pos a1]]
   exact ⟨⟨h,q,c,l,r,rfl,.inl ⟨rfl,(top_way k l).symm⟩⟩,chn_way k l⟩
  ·by_cases a2:c+2 ^ q≤k∧k < c+2 * 2 ^ q
   ·rw [show way k (node h q c l r)=(node h q c l r,1) :: way k r by simp only [way]; rw [if_neg a1,if_pos a2],show stop k (node h q c l r)=stop k r by simp only [stop]; rw [if_neg a1,if_pos a2]]
    exact ⟨⟨h,q,c,l,r,rfl,.inr ⟨rfl,(top_way k r).symm⟩⟩,chn_way k r⟩
   ·rw [show way k (node h q c l r)=[] by simp only [way]; rw [if_neg a1,if_neg a2]]; trivial
theorem Chn.drop {e:Tr}:∀ {l:List (Tr × Int)} (m:Nat),Chn e l→Chn e (l.drop m)
 | _,0,h=>h
 | [],_+1,h=>h
 | _ :: l,m+1,h=>Chn.drop (l:=l) m h.2
theorem Chn.init {e:Tr}:∀ {l:List (Tr × Int)} {x:Tr × Int},Chn e (l ++ [x])→Chn x.1 l∧topOf x.1 l=topOf e (l ++ [x])
 | [],x,h=>⟨trivial,rfl⟩
 | y :: l,x,h=>by
  obtain ⟨h1,h2⟩:=Chn.init (l:=l) h.2
  obtain ⟨⟨hh,q,c,lt,rt,e1,e2⟩,_⟩:=h
  refine ⟨⟨⟨hh,q,c,lt,rt,e1,?_⟩,h1⟩,rfl⟩
  rw [h2]
  exact e2
theorem put_way {g:Nat→Int} {k v:Int} {p:Nat} {b:Int}:∀ (t:Tr),put g k v p b t=(t.way k).foldr (up g) (put g k v p b (t.stop k))
 | leaf _ _ _=>rfl
 | node h q c l r=>by
  by_cases a1:c≤k∧k < c+2 ^ q
  ·rw [show way k (node h q c l r)=(node h q c l r,0) :: way k l by simp only [way]; rw [if_pos a1],show stop k (node h q c l r)=stop k l by simp only [stop]; rw [if_pos a1],List.foldr_cons,← put_way l]
   rw [show up g (node h q c l r,0) (put g k v p b l)=(node (g (put g k v p b l).2) q c (put g k v p b l).1 r,(put g k v p b l).2+1) by simp [up]]
   simp only [put]
   rw [if_pos a1]
  ·by_cases a2:c+2 ^ q≤k∧k < c+2 * 2 ^ q
   ·rw [show way k (node h q c l r)=(node h q c l r,1) :: way k r by simp only [way]; rw [if_neg a1,if_pos a2],show stop k (node h q c l r)=stop k r by simp only [stop]; rw [if_neg a1,if_pos a2],List.foldr_cons,← put_way r]
    rw [show up g (node h q c l r,1) (put g k v p b r)=(node (g (put g k v p b r).2) q c l (put g k v p b r).1,(put g k v p b r).2+1) by simp [up]]
    simp only [put]
    rw [if_neg a1,if_pos a2]
   ·rw [show way k (node h q c l r)=[] by simp only [way]; rw [if_neg a1,if_neg a2],show stop k (node h q c l r)=node h q c l r by simp only [stop]; rw [if_neg a1,if_neg a2]]; rfl
def hdS (x:Tr × Int):Int:=x.1.hd
theorem gone_way (k:Int):∀ (t:Tr),gone k t=gone k (t.stop k) ++ (t.way k).reverse.map hdS
 | leaf _ _ _=>by simp [stop,way]
 | node h q c l r=>by
  by_cases a1:c≤k∧k < c+2 ^ q
  ·rw [show way k (node h q c l r)=(node h q c l r,0) :: way k l by simp only [way]; rw [if_pos a1],show stop k (node h q c l r)=stop k l by simp only [stop]; rw [if_pos a1],show gone k (node h q c l r)=gone k l ++ [h] by simp only [gone]; rw [if_pos a1],gone_way k l]
   simp [hdS,hd]
  ·by_cases a2:c+2 ^ q≤k∧k < c+2 * 2 ^ q
   ·rw [show way k (node h q c l r)=(node h q c l r,1) :: way k r by simp only [way]; rw [if_neg a1,if_pos a2],show stop k (node h q c l r)=stop k r by simp only [stop]; rw [if_neg a1,if_pos a2],show gone k (node h q c l r)=gone k r ++ [h] by simp only [gone]; rw [if_neg a1,if_pos a2],gone_way k r]
    simp [hdS,hd]
   ·rw [show way k (node h q c l r)=[] by simp only [way]; rw [if_neg a1,if_neg a2],show stop k (node h q c l r)=node h q c l r by simp only [stop]; rw [if_neg a1,if_neg a2]]; simp
end Tr
def gOf (s:PSt) (St:List Nat) (j:Nat):Int:=hnd (St.getD j 0) ((s.slot (St.getD j 0)).gen+1)
structure MK (s:PSt) (St:List Nat) (it m:Nat) (s':PSt):Prop where
 pv:PV s' (St.drop m) (it+m)
 n:s'.n=s.n
 faults:s'.faults=s.faults
 gens:∀ i∈St.drop m,(s'.slot i).gen=(s.slot i).gen
 ct:∀ h x,Ct s h x→Ct s' h x
 alive:∀ j,j < m→∃ x,Ct s' (gOf s St j) x
 le:m≤St.length
theorem MK.zero {s:PSt} {St:List Nat} {it:Nat} (h:PV s St it):MK s St it 0 s:=⟨by simpa using h,rfl,rfl,fun _ _=>rfl,fun _ _ h=>h,fun j hj=>by omega,Nat.zero_le _⟩
theorem MK.cons {s s':PSt} {St:List Nat} {it m i:Nat} {St':List Nat} (_h:MK s St it m s') (he:St.drop m=i :: St'):St.drop (m+1)=St'∧St.getD m 0=i∧m < St.length:=by
 have hlt:m < St.length:=by
  have:=congrArg List.length he
  simp at this; omega
 rw [List.drop_eq_getElem_cons hlt] at he
 injection he with e1 e2
 refine ⟨e2,?_,hlt⟩
 rw [List.getD_eq_getElem?_getD,List.getElem?_eq_getElem hlt]
 exact e1
theorem MK.hnd {s s':PSt} {St:List Nat} {it m i:Nat} {St':List Nat} (h:MK s St it m s') (he:St.drop m=i :: St'):hnd i ((s'.slot i).gen+1)=gOf s St m:=by
 unfold gOf
 rw [(h.cons he).2.1,h.gens i (by rw [he]; simp)]
theorem MK.take {s s':PSt} {St:List Nat} {it m i:Nat} {St':List Nat} (h:MK s St it m s') (he:St.drop m=i :: St') (hf:it+m+1≤1000000000) (a b c d:Int):MK s St it (m+1) (s'.take i a b c d 0)∧Ct (s'.take i a b c d 0) (gOf s St m) ⟨a,b,c,d⟩:=by
 have hpv:PV s' (i :: St') (it+m):=by rw [← he]; exact h.pv
 obtain ⟨e1,e2,e3⟩:=h.cons he
 have hnd':=List.nodup_cons.1 hpv.nodup
 have htk:=Ct.took hpv hf a b c d 0
 rw [h.hnd he] at htk
 refine ⟨⟨by rw [e1]; exact hpv.take hf a b c d 0,h.n,h.faults,fun j hj=>?_,fun x y hc=>(h.ct x y hc).take hpv a b c d 0,fun j hj=>?_,by omega⟩,htk⟩
 ·rw [e1] at hj
  have hji:j≠i:=fun e=>hnd'.1 (e ▸ hj)
  show (upd _ _ _ _:Slot).gen=_
  rw [upd_other _ _ hji]
  exact h.gens j (by rw [he]; simp [hj])
 ·by_cases e:j=m
  ·subst e; exact ⟨_,htk⟩
  ·obtain ⟨x,hx⟩:=h.alive j (by omega)
   exact ⟨x,hx.take hpv a b c d 0⟩
theorem gOf_fresh {s:PSt} {St:List Nat} {it j:Nat} (h:PV s St it) (hj:j < St.length) (x:Nd):¬ Ct s (gOf s St j) x:=fun hc=>by
 have hm:St.getD j 0∈St:=by rw [List.getD_eq_getElem?_getD,List.getElem?_eq_getElem hj]; exact List.getElem_mem hj
 have h5:=h.small _ hm
 have h6:=h.gens _ h5.1 h5.2
 have hfit:=h.fits
 have hp:plcH (gOf s St j)=St.getD j 0:=by unfold gOf plcH hnd; omega
 have:=hc.used h
 rw [hp] at this
 exact this hm
theorem gOf_inj {s:PSt} {St:List Nat} {it i j:Nat} (h:PV s St it) (hi:i < St.length) (hj:j < St.length) (e:gOf s St i=gOf s St j):i=j:=by
 have key:∀ j,j < St.length→plcH (gOf s St j)=St.getD j 0:=fun j hj=>by
  have hm:St.getD j 0∈St:=by rw [List.getD_eq_getElem?_getD,List.getElem?_eq_getElem hj]; exact List.getElem_mem hj
  have h5:=h.small _ hm
  have h6:=h.gens _ h5.1 h5.2
  have hfit:=h.fits
  unfold gOf plcH hnd; omega
 have e2:St.getD i 0=St.getD j 0:=by rw [← key i hi,← key j hj,e]
 rw [List.getD_eq_getElem?_getD,List.getD_eq_getElem?_getD,List.getElem?_eq_getElem hi,List.getElem?_eq_getElem hj] at e2
 exact (List.getElem_inj h.nodup).1 e2
theorem mades_nodup {s:PSt} {St:List Nat} {it m:Nat} (h:PV s St it) (hm:m≤St.length):(Tr.mades (gOf s St) m).Nodup:=by
 unfold Tr.mades
 refine List.pairwise_map.2 (List.pairwise_lt_range.imp_of_mem ?_)
 intro a b ha hb hab e
 have h1:=List.mem_range.1 ha
 have h2:=List.mem_range.1 hb
 have:=gOf_inj h (by omega) (by omega) e
 omega
end Go.Proofs.YtloljphbdfjgdaaGreatDoor
/- Drawn regions of package trie's climb, end. (Written by tools/gen/genclimb.py.) -/
namespace Go.Proofs.YtloljphbdfjgdaaGreatDoor
open Go.RowKit
def climb_r3V (b7 cb:Nat) (h:Int) (gv:Value):Nat × (Nat→Value)→Nat→Value:=fun g j=>match j with | 0=>(pa cb 0) | 1=>(pa cb 0) | 2=>(pa cb 0) | 3=>(pa cb 2) | 4=>(pa cb 5) | 5=>gv | 6=>(pa b7 0) | 7=>(Value.int IntKind.i64 h) | 8=>(g.2 8) | 9=>(g.2 9) | 10=>(pa cb 0) | 11=>(pa cb 2) | 12=>(pa cb 5) | 13=>undef | _=>undef
set_option maxRecDepth 100000 in
set_option maxHeartbeats 1600000 in
theorem climb_r3 {b3 b7 cb:Nat} {h:Int} {gv:Value} {rr:Nat} {Ph:Nat→(Nat→Value)→World→Prop} {K:Act→World→Prop} {Q:Exit→Act→World→Prop} {a0:Act} {w:World} (hs:a0.tmps.size=39) (x3:a0.eval (.tmp 3)=pa b3 0) (x7:a0.eval (.tmp 7)=pa b7 0) (hc:∀ g u x,Ph g u x→x.cell? ⟨b3,0,none⟩=some (pa cb 0)∧x.cell? ⟨b7,0,none⟩=some (.int .i64 h)) (hl5:∀ g u x,Ph g u x→g≤1→(Instr.loadAt 38 (pa cb 5)).run Tryz.prog x=.ok gv x) (hA:Ph 0 (fun _=>undef) w.drew)
  (hL0:∀ u x,Ph 0 u x→∃ v w',(Instr.buildSlice 38 1 #[(0,(Value.int IntKind.i64 h))]).run Tryz.prog x=.ok v w'∧Ph 1 (upd u 8 v) w')
  (hL1:∀ u x,Ph 1 u x→∃ v w',(Builtin.append_ #[38,38] 38 #[gv,(u 8)]).run Tryz.prog x=.ok v w'∧Ph 2 (upd u 9 v) w')
  (hL2:∀ u x,Ph 2 u x→∃ w',(Instr.storeAt 38 (pa cb 5) (u 9)).run Tryz.prog x=.ok () w'∧Ph 3 u w')
  (hEnd:∀ a' x u,a'.tmps.size=a0.tmps.size→a'.defers=a0.defers→(∀ s,some s∉([some 12,some 13,some 14,some 15,some 16,some 17,some 18,some 19,some 20,some 21,some 22,some 23,some 24,none]:List (Option Nat))→a'.eval (.tmp s)=a0.eval (.tmp s))→ Ph 3 u x→K a' x):(Code.region 3 (opsR 3 Tryz.f47.body) true).wpIn (Fence.wide.inRound rr) 0 Tryz.prog (Exit.then K Q) a0 w:=by
 refine wpIn_region_ghost3 (G:=Nat × (Nat→Value)) (by kernel_rfl) (by kernel_rfl) [some 12,some 13,some 14,some 15,some 16,some 17,some 18,some 19,some 20,some 21,some 22,some 23,some 24,none] (by rw [hs]; kernel_rfl) (climb_r3V b7 cb h gv) [8,9,13] ?_ (doneP [8,9,13]) (StP 3 Ph) ((0,fun _=>undef)) (⟨Nat.zero_le _,hA⟩) (by intro x hx; simp at hx; rcases hx with rfl | rfl | rfl <;> rfl) (by decide) ?_ ?_
 ·exact fun i g b h _=>absurd h (noG (by kernel_rfl) i g b)
 ·intro i hi hgd
  rcases (by simp at hi; omega:i=0∨i=1∨i=2∨i=3∨i=4∨i=5∨i=6∨i=7∨i=8∨i=9∨i=10∨i=11∨i=12∨i=13) with rfl | rfl | rfl | rfl | rfl | rfl | rfl | rfl | rfl | rfl | rfl | rfl | rfl | rfl
  ·refine soft (by decide) ?_
   intro o ac wa g ho hoff hv hS hdn
   have hc:=(hc _ _ _ hS.ph).1
   exact x_load (op_is rfl ho) (by rw [((hoff 3 (by decide)).trans x3)]; show (Instr.loadAt _ (pa _ _)).run _ _=_; unfold pa; go_simp; first | rfl | skip)
  ·refine soft (by decide) ?_
   intro o ac wa g ho hoff hv hS hdn
   have hc:=(hc _ _ _ hS.ph).1
   exact x_load (op_is rfl ho) (by rw [((hoff 3 (by decide)).trans x3)]; show (Instr.loadAt _ (pa _ _)).run _ _=_; unfold pa; go_simp; first | rfl | skip)
  ·refine soft (by decide) ?_
   intro o ac wa g ho hoff hv hS hdn
   exact x_nil (op_is rfl ho) ((hv 1 13 rfl (by kernel_rfl)))
  ·refine soft (by decide) ?_
   intro o ac wa g ho hoff hv hS hdn
   exact x_field (op_is rfl ho) (by rw [(hv 2 14 rfl (by kernel_rfl))]; show (Instr.fieldAt _ (pa _ _) _).run _ _=.ok (pa _ _) _; unfold pa; go_simp)
  ·refine soft (by decide) ?_
   intro o ac wa g ho hoff hv hS hdn
   exact x_field (op_is rfl ho) (by rw [(hv 3 15 rfl (by kernel_rfl))]; show (Instr.fieldAt _ (pa _ _) _).run _ _=.ok (pa _ _) _; unfold pa; go_simp)
  ·refine softL (by decide) ?_
   intro o ac wa g ho hoff hv hS hdn hlt
   have hg:g.1≤1:=by have:=hlt 9 (by simp) (by kernel_rfl); simpa [doneP,List.idxOf,List.findIdx,List.findIdx.go] using this
   exact x_load (op_is rfl ho) (by rw [(hv 4 16 rfl (by kernel_rfl))]; exact hl5 _ _ _ hS.ph hg)
  ·refine soft (by decide) ?_
   intro o ac wa g ho hoff hv hS hdn
   exact x_field (op_is rfl ho) (by rw [((hoff 7 (by decide)).trans x7)]; show (Instr.fieldAt _ (pa _ _) _).run _ _=.ok (pa _ _) _; unfold pa; go_simp)
  ·refine soft (by decide) ?_
   intro o ac wa g ho hoff hv hS hdn
   have hc:=(hc _ _ _ hS.ph).2
   exact x_load (op_is rfl ho) (by rw [(hv 6 18 rfl (by kernel_rfl))]; show (Instr.loadAt _ (pa _ _)).run _ _=_; unfold pa; go_simp; first | rfl | skip)
  ·intro o ac wa g K ho hd _ hoff hv hS hpre hnd hlater hK
   have h1:g.1≤0:=by have:=hnd (by simp); simpa [doneP,List.idxOf,List.findIdx,List.findIdx.go] using this
   have hg:g.1=0:=by omega
   obtain ⟨g1,u⟩:=g
   simp only at hg
   subst hg
   obtain ⟨v,w',hr',hp⟩:=hL0 u wa hS.ph
   refine l_val hd (x_bsliceC (op_is rfl ho) (by simp only [List.map_toArray,List.map_cons,List.map_nil]; rw [(hv 7 19 rfl (by kernel_rfl))]; rfl) hr') ?_
   refine hK (1,upd u 8 v) w' ⟨by simp,hp⟩ (by intro x hx; simp at hx; rcases hx with rfl | rfl | rfl <;> simp [doneP,List.idxOf,List.findIdx,List.findIdx.go]) fun j hj hr=>?_
   match j,hr with
   | 0,_=>rfl
   | 1,_=>rfl
   | 2,_=>rfl
   | 3,_=>rfl
   | 4,_=>rfl
   | 5,_=>rfl
   | 6,_=>rfl
   | 7,_=>rfl
   | 8,_=>exact absurd rfl hj
   | 9,_=>rfl
   | 10,_=>rfl
   | 11,_=>rfl
   | 12,_=>rfl
   | 13,_=>rfl
   | q+14,_=>rfl
  ·intro o ac wa g K ho hd _ hoff hv hS hpre hnd hlater hK
   have h1:g.1≤1:=by have:=hnd (by simp); simpa [doneP,List.idxOf,List.findIdx,List.findIdx.go] using this
   have h2:1≤g.1:=by have:=hpre 8 (by simp) (by kernel_rfl); simp [doneP,List.idxOf,List.findIdx,List.findIdx.go] at this; omega
   have hg:g.1=1:=by omega
   obtain ⟨g1,u⟩:=g
   simp only at hg
   subst hg
   obtain ⟨v,w',hr',hp⟩:=hL1 u wa hS.ph
   refine l_val hd (x_appendC (op_is rfl ho) (ty_isC rfl ho) ((hv 5 17 rfl (by kernel_rfl))) ((hv 8 20 rfl (by kernel_rfl))) hr') ?_
   refine hK (2,upd u 9 v) w' ⟨by simp,hp⟩ (by intro x hx; simp at hx; rcases hx with rfl | rfl | rfl <;> simp [doneP,List.idxOf,List.findIdx,List.findIdx.go]) fun j hj hr=>?_
   match j,hr with
   | 0,_=>rfl
   | 1,_=>rfl
   | 2,_=>rfl
   | 3,_=>rfl
   | 4,_=>rfl
   | 5,_=>rfl
   | 6,_=>rfl
   | 7,_=>rfl
   | 8,_=>rfl
   | 9,_=>exact absurd rfl hj
   | 10,_=>rfl
   | 11,_=>rfl
   | 12,_=>rfl
   | 13,_=>rfl
   | q+14,_=>rfl
  ·refine soft (by decide) ?_
   intro o ac wa g ho hoff hv hS hdn
   exact x_nil (op_is rfl ho) ((hv 0 12 rfl (by kernel_rfl)))
  ·refine soft (by decide) ?_
   intro o ac wa g ho hoff hv hS hdn
   exact x_field (op_is rfl ho) (by rw [(hv 10 22 rfl (by kernel_rfl))]; show (Instr.fieldAt _ (pa _ _) _).run _ _=.ok (pa _ _) _; unfold pa; go_simp)
  ·refine soft (by decide) ?_
   intro o ac wa g ho hoff hv hS hdn
   exact x_field (op_is rfl ho) (by rw [(hv 11 23 rfl (by kernel_rfl))]; show (Instr.fieldAt _ (pa _ _) _).run _ _=.ok (pa _ _) _; unfold pa; go_simp)
  ·intro o ac wa g K ho hd _ hoff hv hS hpre hnd hlater hK
   have h1:g.1≤2:=by have:=hnd (by simp); simpa [doneP,List.idxOf,List.findIdx,List.findIdx.go] using this
   have h2:2≤g.1:=by have:=hpre 9 (by simp) (by kernel_rfl); simp [doneP,List.idxOf,List.findIdx,List.findIdx.go] at this; omega
   have hg:g.1=2:=by omega
   obtain ⟨g1,u⟩:=g
   simp only at hg
   subst hg
   obtain ⟨w',hr',hp⟩:=hL2 u wa hS.ph
   refine l_skip hd (x_store (op_is rfl ho) (by rw [(hv 12 24 rfl (by kernel_rfl)),(hv 9 21 rfl (by kernel_rfl))]; exact hr')) ?_
   refine hK (3,u) w' ⟨by simp,hp⟩ (by intro x hx; simp at hx; rcases hx with rfl | rfl | rfl <;> simp [doneP,List.idxOf,List.findIdx,List.findIdx.go]) fun j hj hr=>?_
   match j,hr with
   | 0,_=>rfl
   | 1,_=>rfl
   | 2,_=>rfl
   | 3,_=>rfl
   | 4,_=>rfl
   | 5,_=>rfl
   | 6,_=>rfl
   | 7,_=>rfl
   | 8,_=>rfl
   | 9,_=>rfl
   | 10,_=>rfl
   | 11,_=>rfl
   | 12,_=>rfl
   | 13,_=>exact absurd rfl hj
   | q+14,_=>rfl
 ·intro a' w' g hsz hdf hoff hS hdn hval
  obtain ⟨g1,u⟩:=g
  have hg:g1=3:=by have h:=hdn 13 (by simp); simp [doneP,List.idxOf,List.findIdx,List.findIdx.go] at h; have:=hS.le; simp only at this; omega
  subst hg
  exact hEnd a' w' u hsz hdf (fun s hs=>ev_same (hoff s hs))  hS.ph
def climb_r4V (b7 cb:Nat) (q:Nat) (f lh rh cn sd root more:Int) (ag2:Value):Nat × (Nat→Value)→Nat→Value:=fun _ j=>match j with | 0=>(pa cb 0) | 1=>(pa b7 1) | 2=>(Value.agg #[.int .i64 f,.int .i64 q,.int .i64 lh,.int .i64 rh,.int .i64 cn]) | 3=>(pa b7 6) | 4=>(Value.int IntKind.i64 sd) | 5=>(pa cb 0) | 6=>(pa cb 0) | 7=>(pa cb 2) | 8=>(pa cb 2) | 9=>(Value.int IntKind.i64 root) | 10=>(Value.int IntKind.i64 more) | 11=>ag2 | 12=>(Value.iface 151 ag2) | 13=>(Value.tuple #[]) | _=>undef
set_option maxRecDepth 100000 in
set_option maxHeartbeats 1600000 in
theorem climb_r4 {b3 b5 b7 cb:Nat} {q:Nat} {f lh rh cn sd root more:Int} {ag2:Value} {rr:Nat} {Ph:Nat→(Nat→Value)→World→Prop} {K:Act→World→Prop} {Q:Exit→Act→World→Prop} {a0:Act} {w:World} (hs:a0.tmps.size=39) (x3:a0.eval (.tmp 3)=pa b3 0) (x5:a0.eval (.tmp 5)=pa b5 0) (x7:a0.eval (.tmp 7)=pa b7 0) (hc:∀ g u x,Ph g u x→x.cell? ⟨b3,0,none⟩=some (pa cb 0)∧x.cell? ⟨b7,6,none⟩=some (.int .i64 sd)∧x.cell? ⟨b5,0,none⟩=some (.int .i64 more)) (hin:∀ g u x,Ph g u x→(Instr.loadAt 151 (pa b7 1)).run Tryz.prog x=.ok (Value.agg #[.int .i64 f,.int .i64 q,.int .i64 lh,.int .i64 rh,.int .i64 cn]) x) (hr2:∀ g u x,Ph g u x→g≤1→x.cell? ⟨cb,2,none⟩=some (.int .i64 root)) (hA:Ph 0 (fun _=>undef) w.drew)
  (hL0:∀ u x,Ph 0 u x→Calls Tryz.prog 80 #[(Value.agg #[.int .i64 f,.int .i64 q,.int .i64 lh,.int .i64 rh,.int .i64 cn]),.int .i64 sd,.int .i64 root,.int .i64 more] x fun e w'=>e=.returned ag2∧Ph 1 u w')
  (hL1:∀ u x,Ph 1 u x→Calls Tryz.prog 43 #[pa cb 0,.iface 151 ag2] x fun e w'=>e=.returned (Value.tuple #[])∧Ph 2 u w')
  (hEnd:∀ a' x u,a'.tmps.size=a0.tmps.size→a'.defers=a0.defers→(∀ s,some s∉([some 25,some 26,some 27,some 28,some 29,some 30,some 31,some 32,some 33,some 34,some 35,some 36,some 37,some 38]:List (Option Nat))→a'.eval (.tmp s)=a0.eval (.tmp s))→ Ph 2 u x→K a' x):(Code.region 4 (opsR 4 Tryz.f47.body) true).wpIn (Fence.wide.inRound rr) 0 Tryz.prog (Exit.then K Q) a0 w:=by
 refine wpIn_region_ghost3 (G:=Nat × (Nat→Value)) (by kernel_rfl) (by kernel_rfl) [some 25,some 26,some 27,some 28,some 29,some 30,some 31,some 32,some 33,some 34,some 35,some 36,some 37,some 38] (by rw [hs]; kernel_rfl) (climb_r4V b7 cb q f lh rh cn sd root more ag2) [11,13] ?_ (doneP [11,13]) (StP 2 Ph) ((0,fun _=>undef)) (⟨Nat.zero_le _,hA⟩) (by intro x hx; simp at hx; rcases hx with rfl | rfl <;> rfl) (by decide) ?_ ?_
 ·exact fun i g b h _=>absurd h (noG (by kernel_rfl) i g b)
 ·intro i hi hgd
  rcases (by simp at hi; omega:i=0∨i=1∨i=2∨i=3∨i=4∨i=5∨i=6∨i=7∨i=8∨i=9∨i=10∨i=11∨i=12∨i=13) with rfl | rfl | rfl | rfl | rfl | rfl | rfl | rfl | rfl | rfl | rfl | rfl | rfl | rfl
  ·refine soft (by decide) ?_
   intro o ac wa g ho hoff hv hS hdn
   have hc:=(hc _ _ _ hS.ph).1
   exact x_load (op_is rfl ho) (by rw [((hoff 3 (by decide)).trans x3)]; show (Instr.loadAt _ (pa _ _)).run _ _=_; unfold pa; go_simp; first | rfl | skip)
  ·refine soft (by decide) ?_
   intro o ac wa g ho hoff hv hS hdn
   exact x_field (op_is rfl ho) (by rw [((hoff 7 (by decide)).trans x7)]; show (Instr.fieldAt _ (pa _ _) _).run _ _=.ok (pa _ _) _; unfold pa; go_simp)
  ·refine soft (by decide) ?_
   intro o ac wa g ho hoff hv hS hdn
   exact x_load (op_is rfl ho) (by rw [(hv 1 26 rfl (by kernel_rfl))]; exact hin _ _ _ hS.ph)
  ·refine soft (by decide) ?_
   intro o ac wa g ho hoff hv hS hdn
   exact x_field (op_is rfl ho) (by rw [((hoff 7 (by decide)).trans x7)]; show (Instr.fieldAt _ (pa _ _) _).run _ _=.ok (pa _ _) _; unfold pa; go_simp)
  ·refine soft (by decide) ?_
   intro o ac wa g ho hoff hv hS hdn
   have hc:=(hc _ _ _ hS.ph).2.1
   exact x_load (op_is rfl ho) (by rw [(hv 3 28 rfl (by kernel_rfl))]; show (Instr.loadAt _ (pa _ _)).run _ _=_; unfold pa; go_simp; first | rfl | skip)
  ·refine soft (by decide) ?_
   intro o ac wa g ho hoff hv hS hdn
   have hc:=(hc _ _ _ hS.ph).1
   exact x_load (op_is rfl ho) (by rw [((hoff 3 (by decide)).trans x3)]; show (Instr.loadAt _ (pa _ _)).run _ _=_; unfold pa; go_simp; first | rfl | skip)
  ·refine soft (by decide) ?_
   intro o ac wa g ho hoff hv hS hdn
   exact x_nil (op_is rfl ho) ((hv 5 30 rfl (by kernel_rfl)))
  ·refine soft (by decide) ?_
   intro o ac wa g ho hoff hv hS hdn
   exact x_field (op_is rfl ho) (by rw [(hv 6 31 rfl (by kernel_rfl))]; show (Instr.fieldAt _ (pa _ _) _).run _ _=.ok (pa _ _) _; unfold pa; go_simp)
  ·refine soft (by decide) ?_
   intro o ac wa g ho hoff hv hS hdn
   exact x_field (op_is rfl ho) (by rw [(hv 7 32 rfl (by kernel_rfl))]; show (Instr.fieldAt _ (pa _ _) _).run _ _=.ok (pa _ _) _; unfold pa; go_simp)
  ·refine softL (by decide) ?_
   intro o ac wa g ho hoff hv hS hdn hlt
   have hg:g.1≤1:=by have:=hlt 13 (by simp) (by kernel_rfl); simpa [doneP,List.idxOf,List.findIdx,List.findIdx.go] using this
   have hc:=(hr2 _ _ _ hS.ph hg)
   exact x_load (op_is rfl ho) (by rw [(hv 8 33 rfl (by kernel_rfl))]; show (Instr.loadAt _ (pa _ _)).run _ _=_; unfold pa; go_simp; first | rfl | skip)
  ·refine soft (by decide) ?_
   intro o ac wa g ho hoff hv hS hdn
   have hc:=(hc _ _ _ hS.ph).2.2
   exact x_load (op_is rfl ho) (by rw [((hoff 5 (by decide)).trans x5)]; show (Instr.loadAt _ (pa _ _)).run _ _=_; unfold pa; go_simp; first | rfl | skip)
  ·intro o ac wa g K ho hd _ hoff hv hS hpre hnd hlater hK
   have h1:g.1≤0:=by have:=hnd (by simp); simpa [doneP,List.idxOf,List.findIdx,List.findIdx.go] using this
   have hg:g.1=0:=by omega
   obtain ⟨g1,u⟩:=g
   simp only at hg
   subst hg
   refine l_callE (op_is rfl ho) (xs:=#[(Value.agg #[.int .i64 f,.int .i64 q,.int .i64 lh,.int .i64 rh,.int .i64 cn]),.int .i64 sd,.int .i64 root,.int .i64 more]) (by simp only [List.map_toArray,List.map_cons,List.map_nil]; rw [(hv 2 27 rfl (by kernel_rfl)),(hv 4 29 rfl (by kernel_rfl)),(hv 9 34 rfl (by kernel_rfl)),(hv 10 35 rfl (by kernel_rfl))]; rfl) Tryz.func80 (by kernel_rfl) rfl (hL0 u wa hS.ph) ?_
   rintro e w' ⟨rfl,hp⟩
   refine ⟨_,rfl,?_⟩
   rw [hd]
   refine hK (1,u) w' ⟨by simp,hp⟩ (by intro x hx; simp at hx; rcases hx with rfl | rfl <;> simp [doneP,List.idxOf,List.findIdx,List.findIdx.go]) fun j hj hr=>?_
   match j,hr with
   | 0,_=>rfl
   | 1,_=>rfl
   | 2,_=>rfl
   | 3,_=>rfl
   | 4,_=>rfl
   | 5,_=>rfl
   | 6,_=>rfl
   | 7,_=>rfl
   | 8,_=>rfl
   | 9,_=>rfl
   | 10,_=>rfl
   | 11,_=>exact absurd rfl hj
   | 12,_=>rfl
   | 13,_=>rfl
   | q+14,_=>rfl
  ·refine soft (by decide) ?_
   intro o ac wa g ho hoff hv hS hdn
   exact x_mkI (op_is rfl ho) ((hv 11 36 rfl (by kernel_rfl)))
  ·intro o ac wa g K ho hd _ hoff hv hS hpre hnd hlater hK
   have h1:g.1≤1:=by have:=hnd (by simp); simpa [doneP,List.idxOf,List.findIdx,List.findIdx.go] using this
   have h2:1≤g.1:=by have:=hpre 11 (by simp) (by kernel_rfl); simp [doneP,List.idxOf,List.findIdx,List.findIdx.go] at this; omega
   have hg:g.1=1:=by omega
   obtain ⟨g1,u⟩:=g
   simp only at hg
   subst hg
   refine l_callE (op_is rfl ho) (xs:=#[pa cb 0,.iface 151 ag2]) (by simp only [List.map_toArray,List.map_cons,List.map_nil]; rw [(hv 0 25 rfl (by kernel_rfl)),(hv 12 37 rfl (by kernel_rfl))]; rfl) Tryz.func43 (by kernel_rfl) rfl (hL1 u wa hS.ph) ?_
   rintro e w' ⟨rfl,hp⟩
   refine ⟨_,rfl,?_⟩
   rw [hd]
   refine hK (2,u) w' ⟨by simp,hp⟩ (by intro x hx; simp at hx; rcases hx with rfl | rfl <;> simp [doneP,List.idxOf,List.findIdx,List.findIdx.go]) fun j hj hr=>?_
   match j,hr with
   | 0,_=>rfl
   | 1,_=>rfl
   | 2,_=>rfl
   | 3,_=>rfl
   | 4,_=>rfl
   | 5,_=>rfl
   | 6,_=>rfl
   | 7,_=>rfl
   | 8,_=>rfl
   | 9,_=>rfl
   | 10,_=>rfl
   | 11,_=>rfl
   | 12,_=>rfl
   | 13,_=>exact absurd rfl hj
   | q+14,_=>rfl
 ·intro a' w' g hsz hdf hoff hS hdn hval
  obtain ⟨g1,u⟩:=g
  have hg:g1=2:=by have h:=hdn 13 (by simp); simp [doneP,List.idxOf,List.findIdx,List.findIdx.go] at h; have:=hS.le; simp only at this; omega
  subst hg
  exact hEnd a' w' u hsz hdf (fun s hs=>ev_same (hoff s hs))  hS.ph
def end_r5V (cb tb p:Nat) (h:Int):Nat × (Nat→Value)→Nat→Value:=fun _ j=>match j with | 0=>(pa cb 0) | 1=>(pa cb 0) | 2=>(pa cb 0) | 3=>(pa tb 0) | 4=>(pa tb 0) | 5=>(pa tb 0) | 6=>(pa p 0) | 7=>(pa cb 0) | 8=>(pa cb 0) | 9=>(pa cb 1) | 10=>(Value.pointer none) | 11=>(Value.int IntKind.i64 h) | 12=>(Value.int IntKind.i64 0) | _=>undef
set_option maxRecDepth 100000 in
set_option maxHeartbeats 1600000 in
theorem end_r5 {b1 cb tb p:Nat} {h:Int} {rr:Nat} {Ph:Nat→(Nat→Value)→World→Prop} {K:Act→World→Prop} {Q:Exit→Act→World→Prop} {a0:Act} {w:World} (hs:a0.tmps.size=41) (x1:a0.eval (.tmp 1)=pa b1 0) (x5:a0.eval (.tmp 5)=.int .i64 h) (hc:∀ g u x,Ph g u x→x.cell? ⟨b1,0,none⟩=some (pa cb 0)∧x.cell? ⟨cb,0,none⟩=some (pa tb 0)∧x.cell? ⟨cb,1,none⟩=some (.pointer none)∧x.cell? ⟨tb,0,none⟩=some (pa p 0)) (hA:Ph 0 (fun _=>undef) w.drew)
  (hL0:∀ u x,Ph 0 u x→Calls Tryz.prog 75 #[pa p 0,.pointer none,.int .i64 h] x fun e w'=>e=.returned (Value.int IntKind.i64 0)∧Ph 1 u w')
  (hEnd:∀ a' x u,a'.tmps.size=a0.tmps.size→a'.defers=a0.defers→(∀ s,some s∉([some 23,some 24,some 25,some 26,some 27,some 28,some 29,some 30,some 31,some 32,some 33,some 34,some 35]:List (Option Nat))→a'.eval (.tmp s)=a0.eval (.tmp s))→ Ph 1 u x→K a' x):(Code.region 5 (opsR 5 Tryz.f44.body) true).wpIn (Fence.wide.inRound rr) 0 Tryz.prog (Exit.then K Q) a0 w:=by
 refine wpIn_region_ghost3 (G:=Nat × (Nat→Value)) (by kernel_rfl) (by kernel_rfl) [some 23,some 24,some 25,some 26,some 27,some 28,some 29,some 30,some 31,some 32,some 33,some 34,some 35] (by rw [hs]; kernel_rfl) (end_r5V cb tb p h) [12] ?_ (doneP [12]) (StP 1 Ph) ((0,fun _=>undef)) (⟨Nat.zero_le _,hA⟩) (by intro x hx; simp at hx; subst hx; rfl) (by decide) ?_ ?_
 ·exact fun i g b h _=>absurd h (noG (by kernel_rfl) i g b)
 ·intro i hi hgd
  rcases (by simp at hi; omega:i=0∨i=1∨i=2∨i=3∨i=4∨i=5∨i=6∨i=7∨i=8∨i=9∨i=10∨i=11∨i=12) with rfl | rfl | rfl | rfl | rfl | rfl | rfl | rfl | rfl | rfl | rfl | rfl | rfl
  ·refine soft (by decide) ?_
   intro o ac wa g ho hoff hv hS hdn
   have hc:=(hc _ _ _ hS.ph).1
   exact x_load (op_is rfl ho) (by rw [((hoff 1 (by decide)).trans x1)]; show (Instr.loadAt _ (pa _ _)).run _ _=_; unfold pa; go_simp; first | rfl | skip)
  ·refine soft (by decide) ?_
   intro o ac wa g ho hoff hv hS hdn
   exact x_nil (op_is rfl ho) ((hv 0 23 rfl (by kernel_rfl)))
  ·refine soft (by decide) ?_
   intro o ac wa g ho hoff hv hS hdn
   exact x_field (op_is rfl ho) (by rw [(hv 1 24 rfl (by kernel_rfl))]; show (Instr.fieldAt _ (pa _ _) _).run _ _=.ok (pa _ _) _; unfold pa; go_simp)
  ·refine soft (by decide) ?_
   intro o ac wa g ho hoff hv hS hdn
   have hc:=(hc _ _ _ hS.ph).2.1
   exact x_load (op_is rfl ho) (by rw [(hv 2 25 rfl (by kernel_rfl))]; show (Instr.loadAt _ (pa _ _)).run _ _=_; unfold pa; go_simp; first | rfl | skip)
  ·refine soft (by decide) ?_
   intro o ac wa g ho hoff hv hS hdn
   exact x_nil (op_is rfl ho) ((hv 3 26 rfl (by kernel_rfl)))
  ·refine soft (by decide) ?_
   intro o ac wa g ho hoff hv hS hdn
   exact x_field (op_is rfl ho) (by rw [(hv 4 27 rfl (by kernel_rfl))]; show (Instr.fieldAt _ (pa _ _) _).run _ _=.ok (pa _ _) _; unfold pa; go_simp)
  ·refine soft (by decide) ?_
   intro o ac wa g ho hoff hv hS hdn
   have hc:=(hc _ _ _ hS.ph).2.2.2
   exact x_load (op_is rfl ho) (by rw [(hv 5 28 rfl (by kernel_rfl))]; show (Instr.loadAt _ (pa _ _)).run _ _=_; unfold pa; go_simp; first | rfl | skip)
  ·refine soft (by decide) ?_
   intro o ac wa g ho hoff hv hS hdn
   have hc:=(hc _ _ _ hS.ph).1
   exact x_load (op_is rfl ho) (by rw [((hoff 1 (by decide)).trans x1)]; show (Instr.loadAt _ (pa _ _)).run _ _=_; unfold pa; go_simp; first | rfl | skip)
  ·refine soft (by decide) ?_
   intro o ac wa g ho hoff hv hS hdn
   exact x_nil (op_is rfl ho) ((hv 7 30 rfl (by kernel_rfl)))
  ·refine soft (by decide) ?_
   intro o ac wa g ho hoff hv hS hdn
   exact x_field (op_is rfl ho) (by rw [(hv 8 31 rfl (by kernel_rfl))]; show (Instr.fieldAt _ (pa _ _) _).run _ _=.ok (pa _ _) _; unfold pa; go_simp)
  ·refine soft (by decide) ?_
   intro o ac wa g ho hoff hv hS hdn
   have hc:=(hc _ _ _ hS.ph).2.2.1
   exact x_load (op_is rfl ho) (by rw [(hv 9 32 rfl (by kernel_rfl))]; show (Instr.loadAt _ (pa _ _)).run _ _=_; unfold pa; go_simp; first | rfl | skip)
  ·refine soft (by decide) ?_
   intro o ac wa g ho hoff hv hS hdn
   exact (x_move (op_is rfl ho)).trans (by rw [((hoff 5 (by decide)).trans x5)]; rfl)
  ·intro o ac wa g K ho hd _ hoff hv hS hpre hnd hlater hK
   have h1:g.1≤0:=by have:=hnd (by simp); simpa [doneP,List.idxOf,List.findIdx,List.findIdx.go] using this
   have hg:g.1=0:=by omega
   obtain ⟨g1,u⟩:=g
   simp only at hg
   subst hg
   refine l_callE (op_is rfl ho) (xs:=#[pa p 0,.pointer none,.int .i64 h]) (by simp only [List.map_toArray,List.map_cons,List.map_nil]; rw [(hv 6 29 rfl (by kernel_rfl)),(hv 10 33 rfl (by kernel_rfl)),(hv 11 34 rfl (by kernel_rfl))]; rfl) Tryz.func75 (by kernel_rfl) rfl (hL0 u wa hS.ph) ?_
   rintro e w' ⟨rfl,hp⟩
   refine ⟨_,rfl,?_⟩
   rw [hd]
   refine hK (1,u) w' ⟨by simp,hp⟩ (by intro x hx; simp at hx; subst hx; simp [doneP,List.idxOf,List.findIdx,List.findIdx.go]) fun j hj hr=>?_
   match j,hr with
   | 0,_=>rfl
   | 1,_=>rfl
   | 2,_=>rfl
   | 3,_=>rfl
   | 4,_=>rfl
   | 5,_=>rfl
   | 6,_=>rfl
   | 7,_=>rfl
   | 8,_=>rfl
   | 9,_=>rfl
   | 10,_=>rfl
   | 11,_=>rfl
   | 12,_=>exact absurd rfl hj
   | q+13,_=>rfl
 ·intro a' w' g hsz hdf hoff hS hdn hval
  obtain ⟨g1,u⟩:=g
  have hg:g1=1:=by have h:=hdn 12 (by simp); simp [doneP,List.idxOf,List.findIdx,List.findIdx.go] at h; have:=hS.le; simp only at this; omega
  subst hg
  exact hEnd a' w' u hsz hdf (fun s hs=>ev_same (hoff s hs))  hS.ph
end Go.Proofs.YtloljphbdfjgdaaGreatDoor
/- A frame, spelled out. -/
namespace Go.Proofs.YtloljphbdfjgdaaGreatDoor
open Go.RowKit
def lit39 (c:Nat→Value):Array Value:=#[c 0,c 1,c 2,c 3,c 4,c 5,c 6,c 7,c 8,c 9,c 10,c 11,c 12,c 13,c 14,c 15,c 16,c 17,c 18,c 19,c 20,c 21,c 22,c 23,c 24,c 25,c 26,c 27,c 28,c 29,c 30,c 31,c 32,c 33,c 34,c 35,c 36,c 37,c 38]
set_option maxRecDepth 100000 in
theorem lit39_eq (c:Nat→Value):lit39 c=((List.range 39).map c).toArray:=by rfl
theorem expand39 {a:Act} (hs:a.tmps.size=39) (hd:a.defers=[]):∃ c:Nat→Value,a=⟨lit39 c,[]⟩∧∀ s,c s=a.eval (.tmp s):=by
 refine ⟨fun s=>a.tmps.getD s undef,?_,fun s=>rfl⟩
 obtain ⟨t,d⟩:=a
 simp only at hs hd
 subst hd
 congr 1
 rw [lit39_eq]
 refine Array.ext (by simp [hs]) fun i h1 h2=>?_
 simp [Array.getD,h1]
end Go.Proofs.YtloljphbdfjgdaaGreatDoor
/- A change's way: what it is to come to, what it came to. -/
namespace Go.Proofs.YtloljphbdfjgdaaGreatDoor
open Go.RowKit
theorem Tr.up_cnt {g:Nat→Int} {e:Tr} {u0:Tr × Nat} {more:Int} (h0:(u0.1.cnt:Int)=e.cnt+more):∀ {l:List (Tr × Int)},Tr.Chn e l→((l.foldr (Tr.up g) u0).1.cnt:Int)=(Tr.topOf e l).cnt+more
 | [],_=>h0
 | x :: l,hc=>by
  obtain ⟨⟨h,q,c,lt,rt,e1,e2⟩,hc'⟩:=hc
  have ih:=Tr.up_cnt (g:=g) (u0:=u0) h0 hc'
  obtain ⟨xt,sd⟩:=x
  simp only at e1 e2
  subst e1
  rw [List.foldr_cons]
  show _=((Tr.node h q c lt rt).cnt:Int)+more
  rcases e2 with ⟨rfl,rfl⟩ | ⟨rfl,rfl⟩
  ·rw [show Tr.up g (Tr.node h q c (Tr.topOf e l) rt,0) (l.foldr (Tr.up g) u0)=(Tr.node (g (l.foldr (Tr.up g) u0).2) q c (l.foldr (Tr.up g) u0).1 rt,(l.foldr (Tr.up g) u0).2+1) by simp [Tr.up]]
   simp only [Tr.cnt_node] at *
   omega
  ·rw [show Tr.up g (Tr.node h q c lt (Tr.topOf e l),1) (l.foldr (Tr.up g) u0)=(Tr.node (g (l.foldr (Tr.up g) u0).2) q c lt (l.foldr (Tr.up g) u0).1,(l.foldr (Tr.up g) u0).2+1) by simp [Tr.up]]
   simp only [Tr.cnt_node] at *
   omega
theorem Tr.up_two {g:Nat→Int} {u:Tr × Nat} {x:Tr × Int} (hx:∃ h q c lt rt,x.1=Tr.node h q c lt rt):(Tr.up g x u).2=u.2+1:=by
 obtain ⟨h,q,c,lt,rt,e⟩:=hx
 obtain ⟨xt,sd⟩:=x
 simp only at e
 subst e
 simp only [Tr.up]
 split <;> rfl
structure OkU (s:PSt) (St:List Nat) (it:Nat) (s':PSt) (m:Nat) (root err:Int) (u:Tr × Nat):Prop where
 mkd:MK s St it m s'
 way:(err=0∧m=u.2∧root=u.1.hd∧Rep s' u.1)∨(err=102∧m=St.length∧m < u.2)
theorem OkU.le {s:PSt} {St:List Nat} {it:Nat} {s':PSt} {m:Nat} {root err:Int} {u:Tr × Nat} (h:OkU s St it s' m root err u):m≤u.2:=by
 rcases h.way with ⟨_,h,_⟩ | ⟨_,_,h⟩ <;> omega
section
variable {B:Nat} {w:World} {cb tb p it m:Nat} {F:List Nat} {s s':PSt} {St:List Nat} {root old:Int} {had:Bool} {gv mv nn:Value} {gone:List Int} {xa xb xc xd err:Int}
theorem cTakeU {u:Tr × Nat} {t':Tr} (h:CG B w cb tb p F s' root old had gv mv gone (Tr.mades (gOf s St) m) err) (hO:OkU s St it s' m root err u) (hB:B≤w.heap.size) (hit:it≤900000000) (hu:u.2≤1000)
  (hnum:∀ x,Calls Tryz.prog 73 #[nn] x fun e w'=>e=.returned (.agg #[.int .i64 xa,.int .i64 xb,.int .i64 xc,.int .i64 xd])∧Turned [] x w')
  (hd:t'.hd=gOf s St u.2) (hrep:err=0→root=u.1.hd→Rep s' u.1→∀ s'',Ct s'' (gOf s St u.2) ⟨xa,xb,xc,xd⟩→(∀ h x,Ct s' h x→Ct s'' h x)→Rep s'' t') :
  Calls Tryz.prog 43 #[.pointer (some ⟨cb,0,none⟩),nn] w fun e w'=>e=.returned (.tuple #[])∧∃ F' mv' s'' m' root' err',CG B w' cb tb p F' s'' root' old had gv mv' gone (Tr.mades (gOf s St) m') err'∧OkU s St it s'' m' root' err' (t',u.2+1)∧Turned (cb :: (mv.ownBlock.toList ++ F)) w w'∧Wider F F' w∧(∀ g,mv'.ownBlock=some g→mv.ownBlock=some g∨w.heap.size≤g):=by
 have hle:=hO.le
 rcases hO.way with ⟨rfl,hm,hr,hR⟩ | ⟨rfl,hm,hlt⟩
 ·cases hst:St.drop m with
  | nil =>
   have hml:m=St.length:=by
    have h1:=congrArg List.length hst
    simp at h1
    have:=hO.mkd.le
    omega
   refine (cTakeFull h (it:=it+m) (by rw [← hst]; exact hO.mkd.pv) hnum).mono ?_
   rintro e w' ⟨rfl,hc,ht⟩
   exact ⟨rfl,F,mv,s',m,root,102,hc,⟨hO.mkd,.inr ⟨rfl,hml,by omega⟩⟩,ht.mono (fun z hz=>by simp only [List.mem_cons,List.mem_append] at hz ⊢; rcases hz with h | h; exact .inl h; exact .inr (.inr h)),fun z hz=>.inl hz,fun g hg=>.inl hg⟩
  | cons i St' =>
   have hl:(Tr.mades (gOf s St) m).length≤100000:=by simp [Tr.mades]; omega
   refine (cTakeOk h (it:=it+m) (i:=i) (St:=St') (by rw [← hst]; exact hO.mkd.pv) hB hl hnum).mono ?_
   rintro e w' ⟨rfl,F',mv',hc,ht,hW,hmv⟩
   obtain ⟨hmk,hct⟩:=hO.mkd.take hst (by omega) xa xb xc xd
   rw [hO.mkd.hnd hst,← Tr.mades_succ] at hc
   rw [hm] at hct
   refine ⟨rfl,F',mv',_,m+1,gOf s St m,0,hc,⟨hmk,.inl ⟨rfl,by rw [hm],by rw [hd,hm],hrep rfl hr hR _ hct (fun h x hx=>hx.take (by rw [← hst]; exact hO.mkd.pv) xa xb xc xd 0)⟩⟩,ht,hW,hmv⟩
 ·refine (cTakeSkip h (by decide)).mono ?_
  rintro e w' ⟨rfl,rfl⟩
  exact ⟨rfl,F,mv,s',m,root,102,h,⟨hO.mkd,.inr ⟨rfl,hm,by simp only; omega⟩⟩,Turned.refl _ _,fun z hz=>.inl hz,fun g hg=>.inl hg⟩
end
end Go.Proofs.YtloljphbdfjgdaaGreatDoor
/- A step of a climb: what is made. -/
namespace Go.Proofs.YtloljphbdfjgdaaGreatDoor
open Go.RowKit
structure Stp (s:PSt) (h c:Int) (q:Nat) (lt rt:Tr):Prop where
 hq:q≤31
 c0:0≤c
 c1:c≤4294967295
 cnt:lt.cnt+rt.cnt≤4096
 rep:Rep s (Tr.node h q c lt rt)
def StpL (s:PSt) (y:Tr × Int):Prop:=∃ h q c lt rt,y.1=Tr.node h q c lt rt∧Stp s h c q lt rt
section
variable {s s':PSt} {St:List Nat} {it m:Nat} {root err more sd h c:Int} {q:Nat} {lt rt e:Tr} {l:List (Tr × Int)} {u:Tr × Nat}
theorem step_ready (hS:Stp s h c q lt rt) (hk:∀ h x,Ct s h x→Ct s' h x) (hside:(sd=0∧lt=Tr.topOf e l)∨(sd=1∧rt=Tr.topOf e l)) (hc:(u.1.cnt:Int)=(Tr.topOf e l).cnt+more) (hmore:more≤1) :
  ∃ ag2 xb xc xd,(∀ x,Calls Tryz.prog 80 #[.agg #[.int .i64 c,.int .i64 q,.int .i64 lt.hd,.int .i64 rt.hd,.int .i64 ((lt.cnt+rt.cnt:Nat):Int)],.int .i64 sd,.int .i64 root,.int .i64 more] x fun e w'=>e=.returned ag2∧Turned [] x w') ∧
   (∀ x,Calls Tryz.prog 73 #[.iface 151 ag2] x fun e w'=>e=.returned (.agg #[.int .i64 (c * 64+q+1),.int .i64 xb,.int .i64 xc,.int .i64 xd])∧Turned [] x w') ∧
   (Tr.up (gOf s St) (Tr.node h q c lt rt,sd) u).1.hd=gOf s St u.2∧(Tr.up (gOf s St) (Tr.node h q c lt rt,sd) u).2=u.2+1 ∧
   (root=u.1.hd→Rep s' u.1→∀ s'',Ct s'' (gOf s St u.2) ⟨c * 64+q+1,xb,xc,xd⟩→(∀ h x,Ct s' h x→Ct s'' h x)→Rep s'' (Tr.up (gOf s St) (Tr.node h q c lt rt,sd) u).1):=by
 have hcnt:=hS.cnt
 have hu:=u.1.cnt_pos
 rcases hside with ⟨rfl,hlt⟩ | ⟨rfl,hrt⟩
 ·have e1:Tr.up (gOf s St) (Tr.node h q c lt rt,0) u=(Tr.node (gOf s St u.2) q c u.1 rt,u.2+1):=by simp [Tr.up]
  rw [← hlt] at hc
  refine ⟨_,root,rt.hd,((lt.cnt+rt.cnt:Nat):Int)+more,cWith0 c q lt.hd rt.hd ((lt.cnt+rt.cnt:Nat):Int) root more (by omega) (by omega),cNumInner root rt.hd _ hS.c0 hS.c1 hS.hq,by rw [e1]; rfl,by rw [e1],fun hr hR s'' hct hk2=>?_⟩
  rw [e1]
  refine ⟨?_,hR.keep (fun h x _=>hk2 h x),hS.rep.2.2.keep (fun h x _ hx=>hk2 h x (hk h x hx))⟩
  rw [hr,show ((lt.cnt+rt.cnt:Nat):Int)+more=((u.1.cnt+rt.cnt:Nat):Int) by omega] at hct
  exact hct
 ·have e1:Tr.up (gOf s St) (Tr.node h q c lt rt,1) u=(Tr.node (gOf s St u.2) q c lt u.1,u.2+1):=by simp [Tr.up]
  rw [← hrt] at hc
  refine ⟨_,lt.hd,root,((lt.cnt+rt.cnt:Nat):Int)+more,cWith1 c q lt.hd rt.hd ((lt.cnt+rt.cnt:Nat):Int) root more (by omega) (by omega),cNumInner lt.hd root _ hS.c0 hS.c1 hS.hq,by rw [e1]; rfl,by rw [e1],fun hr hR s'' hct hk2=>?_⟩
  rw [e1]
  refine ⟨?_,hS.rep.2.1.keep (fun h x _ hx=>hk2 h x (hk h x hx)),hR.keep (fun h x _=>hk2 h x)⟩
  rw [hr,show ((lt.cnt+rt.cnt:Nat):Int)+more=((lt.cnt+u.1.cnt:Nat):Int) by omega] at hct
  exact hct
end
def WPh (W:World) (A:World→Prop) (B cb k1 k2:Nat) (gv:Value) (gone:List Int) (h:Int):Nat→(Nat→Value)→World→Prop
 | 0,_,x=>A x∧Turned [] W x
 | 1,u,x=>A x∧Turned [] W x∧∃ g c,u k1=.slice (some ⟨g,0,none⟩) 1 c∧x.cell? ⟨g,0,none⟩=some (.int .i64 h)
 | 2,u,x=>A x∧∃ y,Turned [] W y∧Turned gv.ownBlock.toList y x∧IR B x (u k2) (gone ++ [h])∧((u k2).ownBlock=gv.ownBlock∨(u k2).ownBlock=some y.heap.size)
 | _,u,x=>A x∧∃ y z,Turned [] W y∧Turned gv.ownBlock.toList y z∧IR B z (u k2) (gone ++ [h])∧((u k2).ownBlock=gv.ownBlock∨(u k2).ownBlock=some y.heap.size)∧x=z.setCell ⟨cb,5,none⟩ (u k2)
section
variable {W:World} {A:World→Prop} {B cb tb p k1 k2:Nat} {F:List Nat} {s':PSt} {root old:Int} {had:Bool} {gv mv:Value} {gone made:List Int} {err h:Int}
theorem WPh.a {g:Nat} {u:Nat→Value} {x:World} (hp:WPh W A B cb k1 k2 gv gone h g u x):A x:=by
 match g,hp with
 | 0,hp=>exact hp.1
 | 1,hp=>exact hp.1
 | 2,hp=>exact hp.1
 | _+3,hp=>exact hp.1
theorem wph_l0 (hA:∀ x y,A x→Turned [] x y→A y) (u:Nat→Value) (x:World) (hp:WPh W A B cb k1 k2 gv gone h 0 u x):∃ v w',(Instr.buildSlice 38 1 #[(0,Value.int IntKind.i64 h)]).run Tryz.prog x=.ok v w'∧WPh W A B cb k1 k2 gv gone h 1 (upd u k1 v) w':=by
 refine ⟨.slice (some ⟨x.heap.size,0,none⟩) 1 1,x.alloc (.cells #[.int .i64 h] 3 (0,0)),by go_simp,hA _ _ hp.1 ((Turned.refl _ _).alloc _),hp.2.alloc _,x.heap.size,1,by simp [upd],?_⟩
 rw [cell_at (blk_new x _)]; rfl
theorem wph_l1 (hC:CG B W cb tb p F s' root old had gv mv gone made err) (hB:B≤W.heap.size) (hl:gone.length≤100000) (hA:∀ x y,A x→Turned gv.ownBlock.toList x y→A y) (u:Nat→Value) (x:World) (hp:WPh W A B cb k1 k2 gv gone h 1 u x):∃ v w',(Builtin.append_ #[38,38] 38 #[gv,u k1]).run Tryz.prog x=.ok v w'∧WPh W A B cb k1 k2 gv gone h 2 (upd u k2 v) w':=by
 obtain ⟨hA0,ht,g,c,hu,hc⟩:=hp
 obtain ⟨v',w',hrun,h2,h3,h4⟩:=run_apInt (c:=c) (hC.still ht).gr hc hl (Nat.le_trans hB ht.size)
 rw [hu]
 refine ⟨v',w',hrun,hA _ _ hA0 h3,x,ht,h3,?_,?_⟩
 ·simpa [upd] using h2
 ·simpa [upd] using h4
theorem wph_l2 (hC:CG B W cb tb p F s' root old had gv mv gone made err) (hA:∀ x y,A x→Turned [cb] x y→A y) (u:Nat→Value) (x:World) (hp:WPh W A B cb k1 k2 gv gone h 2 u x):∃ w',(Instr.storeAt 38 (pa cb 5) (u k2)).run Tryz.prog x=.ok () w'∧WPh W A B cb k1 k2 gv gone h 3 u w':=by
 obtain ⟨hA0,y,ht,ht2,hr,ho⟩:=hp
 have hh:=((hC.still ht).went ht2 hr ho).2
 have c5:x.cell? ⟨cb,5,none⟩=some gv:=by rw [cell_at hh]; rfl
 have z5:=froz_at hh 5
 obtain ⟨va,vc,hv⟩:=hr.form
 obtain ⟨ga,gc,hg⟩:=hC.gr.form
 refine ⟨x.setCell ⟨cb,5,none⟩ (u k2),?_,hA _ _ hA0 ((Turned.refl _ _).set (.inl (by simp)) _ _),y,x,ht,ht2,hr,ho,rfl⟩
 rw [hv]
 rw [hg] at c5
 unfold pa
 go_simp
theorem wph_end (hC:CG B W cb tb p F s' root old had gv mv gone made err) {u:Nat→Value} {x:World} (hp:WPh W A B cb k1 k2 gv gone h 3 u x):A x∧∃ gv',CG B x cb tb p F s' root old had gv' mv (gone ++ [h]) made err∧Turned (cb :: gv.ownBlock.toList) W x∧(∀ g,gv'.ownBlock=some g→gv.ownBlock=some g∨W.heap.size≤g):=by
 obtain ⟨hA0,y,z,ht,ht2,hr,ho,rfl⟩:=hp
 refine ⟨hA0,_,((hC.still ht).went ht2 hr ho).1,(Turned.trans (ht.mono (by simp)) (ht2.mono (fun z hz=>by simp [hz]))).set (.inl (by simp)) _ _,fun g hg=>?_⟩
 rcases ho with e | e
 ·exact .inl (by rw [← e]; exact hg)
 ·rw [e] at hg; cases hg; exact .inr ht.size
end
end Go.Proofs.YtloljphbdfjgdaaGreatDoor

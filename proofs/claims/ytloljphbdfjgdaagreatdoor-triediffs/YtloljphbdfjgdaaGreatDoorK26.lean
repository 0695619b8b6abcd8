/- Package trie's from, Next, alone, by contract. (Written by tools/gen/genfrom.py.) -/
import Derived.Test.YtloljphbdfjgdaaGreatDoorK25
import Derived.Test.YtloljphbdfjgdaaGreatDoorK03
namespace Go.Proofs.YtloljphbdfjgdaaGreatDoor
open Go.RowKit
theorem three_cells {w w1:World} {o o2 o3:Obj} (ht:Turned [] (((w.alloc o).alloc o2).alloc o3) w1):w1.heap[w.heap.size]?=some o∧w1.heap[w.heap.size+1]?=some o2∧w1.heap[w.heap.size+1+1]?=some o3∧Turned [] w w1:=by
 have h3:=one_cells ht
 rw [World.size_alloc,World.size_alloc] at h3
 have h2:=two_cells h3.2
 exact ⟨h2.1,h2.2.1,h3.1,h2.2.2⟩
theorem fld_span0 (a b:Int) (w:World):(Instr.field 116 (.agg #[.int .i64 a,.int .i64 b]) 0).run Tryz.prog w=.ok (.int .i64 a) w:=by kernel_rfl
theorem from_ret {w:World} {D rb kb:Nat} {a:Act} {R:Ending→World→Prop} {h l r:Int} {b:Bool} (hs:a.tmps.size=29) (hd:a.defers=[markD D]) (x4:a.eval (.tmp 4)=.pointer (some ⟨rb,0,none⟩)) (x5:a.eval (.tmp 5)=.pointer (some ⟨kb,0,none⟩)) (hK:w.heap[D]?=some (.deferred (some [])))
  (hr:w.heap[rb]?=some (.cells #[.int .i64 h,.int .i64 l,.int .i64 r,.nilIface] 120 (0,0))) (hb:w.heap[kb]?=some (.cells #[.bool b] 4 (0,0))) (hR:R (.returned (.tuple #[.agg #[.int .i64 h,.int .i64 l,.int .i64 r,.nilIface],.bool b])) (w.putObj D (.deferred none))):bodyPostM Fence.wide 0 Tryz.prog Tryz.f55 R .ret a w:=by
 have n1:rb≠D:=fun e=>by rw [e,hK] at hr; cases hr
 have n2:kb≠D:=fun e=>by rw [e,hK] at hb; cases hb
 obtain ⟨⟨c0,c1,c2,c3⟩,-⟩:=cells4 ((World.putObj_heap_other (o:=.deferred none) n1).trans hr)
 obtain ⟨d0,-⟩:=cells1 ((World.putObj_heap_other (o:=.deferred none) n2).trans hb)
 refine marks_ret hK ?_ hd hR
 obtain ⟨cc,hcc,hce⟩:=expand29d hs hd
 have g4:=(hce 4).trans x4
 have g5:=(hce 5).trans x5
 subst hcc
 simp only [lit29,g4,g5]
 simp [results,Tryz.results55,go_sem,c0,c1,c2,c3,d0]
def FromR (w:World) (l:List (Tr × Int)) (e:Ending) (y:World):Prop:=Turned [] w y∧((∃ h q c lt rt,Tr.lz l=some (.node h q c lt rt)∧e=.returned (.tuple #[.agg #[.int .i64 rt.hd,.int .i64 (c+2 ^ q),.int .i64 (c+2 * 2 ^ q - 1),.nilIface],.bool true]))∨(Tr.lz l=none∧e=.returned (.tuple #[.agg #[.int .i64 0,.int .i64 0,.int .i64 0,.nilIface],.bool false])))
set_option maxRecDepth 100000 in
set_option maxHeartbeats 1600000 in
theorem cFromLt {w:World} {va:Option Addr} {ln vc:Nat} {h a b kk vv k:Int} (hk:k≤kk) :
  Calls Tryz.prog 55 #[.agg #[.slice va ln vc,.int .i64 h,.int .i64 a,.int .i64 b,.iface 128 (.agg #[.int .i64 kk,.int .i64 vv])],.int .i64 k] w fun e w'=>e=.returned (.tuple #[.agg #[.int .i64 h,.int .i64 a,.int .i64 b,.iface 128 (.agg #[.int .i64 kk,.int .i64 vv])],.bool true])∧Turned [] w w':=by
 have mm2:=m_leaf_span
 have HF:=fld_span0
 refine calls_marks Tryz.func55 rfl ?_
 simp only [Tryz.ntmps55,List.size_toArray,List.length_cons,List.length_nil,Nat.reduceAdd,Nat.reduceSub,Array.replicate_succ,Array.replicate_zero,List.push_toArray,List.append_toArray,List.nil_append,List.cons_append]
 go_wp2_with (go_at_call 140; refine (cLeafSpan _ _ _).mono ?_; rintro e w1 ⟨rfl,ht1⟩; obtain ⟨hb,hr,hk,ht⟩:=three_cells ht1; obtain ⟨⟨c0,c1,c2,c3,c4⟩,-⟩:=cells5 hb; obtain ⟨⟨r0,r1,r2,r3⟩,y0,y1,y2,y3⟩:=cells4 hr; obtain ⟨k0,z0⟩:=cells1 hk; have HR:Hid _:=hr; have HKB:Hid _:=hk; have HT1:Hid (Turned [] w w1):=ht; have hsz:w.heap.size+1+1 < w1.heap.size:=lt_of_heap hk; clear ht1 ht hb hr hk)
 have h8:=set4 HR.out (.int .i64 h) (.int .i64 a) (.int .i64 b) (.iface 128 (.agg #[.int .i64 kk,.int .i64 vv]))
 refine marks_plain (v:=.tuple #[.agg #[.int .i64 h,.int .i64 a,.int .i64 b,.iface 128 (.agg #[.int .i64 kk,.int .i64 vv])],.bool true]) (by simp [results,Tryz.results55,go_sem,r0,r1,r2,r3,k0]) rfl ⟨rfl,?_⟩
 exact (HT1.out.inner h8.2 (by simp)).set (.inr (by omega)) _ _
set_option maxRecDepth 100000 in
set_option maxHeartbeats 1600000 in
theorem cFromLf {w:World} {B:Nat} {va:Option Addr} {vc:Nat} {l:List (Tr × Int)} {h a b kk vv k:Int} (hl:l.length≤40) (hin:∀ y∈l,(∃ h q c l r,y.1=Tr.node h q c l r)∧y.1.WF) (hsr:SR B w (.slice va l.length vc) l) (hk:¬ k≤kk) :
  Calls Tryz.prog 55 #[.agg #[.slice va l.length vc,.int .i64 h,.int .i64 a,.int .i64 b,.iface 128 (.agg #[.int .i64 kk,.int .i64 vv])],.int .i64 k] w (FromR w l):=by
 have mm2:=m_leaf_span
 have HF:=fld_span0
 have HL:Hid (∀ y∈l,(∃ h q c l r,y.1=Tr.node h q c l r)∧y.1.WF):=hin
 have HS:Hid (SR B w (.slice va l.length vc) l):=hsr
 have hvlt:∀ g,(Value.slice va l.length vc).ownBlock=some g→g < w.heap.size:=fun g hg=>(hsr.fresh hg).2
 have HV:Hid _:=hvlt
 have HKK:Hid (l.length≤40):=hl
 have hdk:decide (k≤kk)=false:=decide_eq_false hk
 clear hin hsr hvlt hk
 refine calls_marks Tryz.func55 rfl ?_
 simp only [Tryz.ntmps55,List.size_toArray,List.length_cons,List.length_nil,Nat.reduceAdd,Nat.reduceSub,Array.replicate_succ,Array.replicate_zero,List.push_toArray,List.append_toArray,List.nil_append,List.cons_append]
 go_wp2_with (first
  | (go_at_call 140; refine (cLeafSpan _ _ _).mono ?_; rintro e w1 ⟨rfl,ht1⟩; obtain ⟨hb,hr,hk,ht⟩:=three_cells ht1; obtain ⟨⟨c0,c1,c2,c3,c4⟩,-⟩:=cells5 hb; obtain ⟨⟨r0,r1,r2,r3⟩,y0,y1,y2,y3⟩:=cells4 hr; obtain ⟨k0,z0⟩:=cells1 hk; have HR:Hid _:=hr; have HKB:Hid _:=hk; have HT1:Hid (Turned [] w w1):=ht; have hsz:w.heap.size+1+1 < w1.heap.size:=lt_of_heap hk; clear ht1 ht hb hr hk)
  | (go_at_call 79; refine (cBackS _ _ _ _).mono ?_; rintro e w3 ⟨rfl,rfl⟩))
 refine from_loop (rb:=w.heap.size+1) (kb:=w.heap.size+1+1) (bx:=w1.heap.size) (v:=.slice va l.length vc) (l:=l) (B:=B) rfl rfl rfl rfl rfl HKK.out (by omega) (by omega) (by omega) (fun g hg=>by have:=HV.out g hg; omega) HL.out ⟨blk_new _ _,(HS.out.still HT1.out).still ((Turned.refl _ _).alloc _)⟩ (blk_old HR.out _) (blk_old HKB.out _) ?_ ?_
 ·intro a' y D hs hd x4 x5 hr hb hlz ht hK hDle
  have hDw:w.heap.size≤D:=by simp at hDle; omega
  obtain ⟨cc,hcc,hce⟩:=expand29d hs hd
  have g4:=(hce 4).trans x4
  have g5:=(hce 5).trans x5
  clear hce hs hd x4 x5 hDle
  subst hcc
  simp only [lit29,g4,g5]
  obtain ⟨⟨q0,q1,q2,q3⟩,p0,p1,p2,p3⟩:=cells4 hr
  obtain ⟨n0,nz0⟩:=cells1 hb
  have hlt1:=lt_of_heap hr
  have hlt2:=lt_of_heap hb
  have HTy:Hid (Turned [] w y):=Turned.inner (l:=[]) (HT1.out.alloc _) ht (by simp <;> omega)
  have HKD:Hid _:=hK
  have HDW:Hid _:=hDw
  have HRY:Hid _:=hr
  have HBY:Hid _:=hb
  have HLZ:Hid (Tr.lz l=none):=hlz
  clear hr hb ht hK hDw g4 g5 hlz
  go_wp2
  have h8:=set4 HRY.out (.int .i64 0) (.int .i64 0) (.int .i64 0) .nilIface
  have nD1:w.heap.size+1≠D:=fun e=>by rw [e,HKD.out] at HRY; cases HRY.out
  have nD2:w.heap.size+1+1≠D:=fun e=>by rw [e,HKD.out] at HBY; cases HBY.out
  refine from_ret (rb:=w.heap.size+1) (kb:=w.heap.size+1+1) rfl rfl rfl rfl ((blk_other (fun e=>nD2 e.symm) _ _).trans (h8.2.heap HKD.out (by simpa using fun e=>nD1 e.symm))) ((blk_other (by omega) _ _).trans h8.1) (blk_set (h8.2.heap HBY.out (by simp)) 0 _) ⟨?_,.inr ⟨HLZ.out,rfl⟩⟩
  exact ((HTy.out.inner h8.2 (by simp)).set (.inr (by omega)) _ _).inner (turned_put (l:=D) _) (by simp; exact HDW.out)
 ·intro a' y D hs hd x4 x5 hf ht hK hDle
  have hDw:w.heap.size≤D:=by simp at hDle; omega
  obtain ⟨h',q',c',lt',rt',hlz,hr,hb⟩:=hf
  refine from_ret (rb:=w.heap.size+1) (kb:=w.heap.size+1+1) hs hd x4 x5 hK hr hb ⟨?_,.inl ⟨h',q',c',lt',rt',hlz,rfl⟩⟩
  exact (Turned.inner (l:=[]) (HT1.out.alloc _) ht (by simp <;> omega)).inner (turned_put (l:=D) _) (by simp; exact hDw)
set_option maxRecDepth 100000 in
set_option maxHeartbeats 1600000 in
theorem cFromIt {w:World} {va:Option Addr} {ln vc:Nat} {h a b f lh rh cn k:Int} {q:Nat} (h0:0≤f) (h1:f+2 * 2 ^ q≤4294967296) (h3:q≤31) (hk:k≤f) :
  Calls Tryz.prog 55 #[.agg #[.slice va ln vc,.int .i64 h,.int .i64 a,.int .i64 b,.iface 151 (.agg #[.int .i64 f,.int .i64 q,.int .i64 lh,.int .i64 rh,.int .i64 cn])],.int .i64 k] w fun e w'=>e=.returned (.tuple #[.agg #[.int .i64 h,.int .i64 a,.int .i64 b,.iface 151 (.agg #[.int .i64 f,.int .i64 q,.int .i64 lh,.int .i64 rh,.int .i64 cn])],.bool true])∧Turned [] w w':=by
 have mm2:=m_inner_span
 have HF:=fld_span0
 have HSp:Hid (∀ x,Calls Tryz.prog 76 #[.agg #[.int .i64 f,.int .i64 q,.int .i64 lh,.int .i64 rh,.int .i64 cn]] x fun e w'=>e=.returned (.agg #[.int .i64 f,.int .i64 (f+2 * 2 ^ q - 1)])∧Turned [] x w'):=cInnerSpan _ _ _ h0 h1 h3
 generalize f+2 * 2 ^ q - 1=X at *
 clear h0 h1 h3
 refine calls_marks Tryz.func55 rfl ?_
 simp only [Tryz.ntmps55,List.size_toArray,List.length_cons,List.length_nil,Nat.reduceAdd,Nat.reduceSub,Array.replicate_succ,Array.replicate_zero,List.push_toArray,List.append_toArray,List.nil_append,List.cons_append]
 go_wp2_with (go_at_call 76; refine (HSp.out _).mono ?_; rintro e w1 ⟨rfl,ht1⟩; obtain ⟨hb,hr,hk,ht⟩:=three_cells ht1; obtain ⟨⟨c0,c1,c2,c3,c4⟩,-⟩:=cells5 hb; obtain ⟨⟨r0,r1,r2,r3⟩,y0,y1,y2,y3⟩:=cells4 hr; obtain ⟨k0,z0⟩:=cells1 hk; have HR:Hid _:=hr; have HKB:Hid _:=hk; have HT1:Hid (Turned [] w w1):=ht; have hsz:w.heap.size+1+1 < w1.heap.size:=lt_of_heap hk; clear ht1 ht hb hr hk)
 have h8:=set4 HR.out (.int .i64 h) (.int .i64 a) (.int .i64 b) (.iface 151 (.agg #[.int .i64 f,.int .i64 q,.int .i64 lh,.int .i64 rh,.int .i64 cn]))
 refine marks_plain (v:=.tuple #[.agg #[.int .i64 h,.int .i64 a,.int .i64 b,.iface 151 (.agg #[.int .i64 f,.int .i64 q,.int .i64 lh,.int .i64 rh,.int .i64 cn])],.bool true]) (by simp [results,Tryz.results55,go_sem,r0,r1,r2,r3,k0]) rfl ⟨rfl,?_⟩
 exact (HT1.out.inner h8.2 (by simp)).set (.inr (by omega)) _ _
set_option maxRecDepth 100000 in
set_option maxHeartbeats 1600000 in
theorem cFromIf {w:World} {B:Nat} {va:Option Addr} {vc:Nat} {l:List (Tr × Int)} {h a b f lh rh cn k:Int} {q:Nat} (hl:l.length≤40) (hin:∀ y∈l,(∃ h q c l r,y.1=Tr.node h q c l r)∧y.1.WF) (h0:0≤f) (h1:f+2 * 2 ^ q≤4294967296) (h3:q≤31) (hsr:SR B w (.slice va l.length vc) l) (hk:¬ k≤f) :
  Calls Tryz.prog 55 #[.agg #[.slice va l.length vc,.int .i64 h,.int .i64 a,.int .i64 b,.iface 151 (.agg #[.int .i64 f,.int .i64 q,.int .i64 lh,.int .i64 rh,.int .i64 cn])],.int .i64 k] w (FromR w l):=by
 have mm2:=m_inner_span
 have HF:=fld_span0
 have HL:Hid (∀ y∈l,(∃ h q c l r,y.1=Tr.node h q c l r)∧y.1.WF):=hin
 have HS:Hid (SR B w (.slice va l.length vc) l):=hsr
 have hvlt:∀ g,(Value.slice va l.length vc).ownBlock=some g→g < w.heap.size:=fun g hg=>(hsr.fresh hg).2
 have HV:Hid _:=hvlt
 have HKK:Hid (l.length≤40):=hl
 have hdk:decide (k≤f)=false:=decide_eq_false hk
 clear hin hsr hvlt hk
 have HSp:Hid (∀ x,Calls Tryz.prog 76 #[.agg #[.int .i64 f,.int .i64 q,.int .i64 lh,.int .i64 rh,.int .i64 cn]] x fun e w'=>e=.returned (.agg #[.int .i64 f,.int .i64 (f+2 * 2 ^ q - 1)])∧Turned [] x w'):=cInnerSpan _ _ _ h0 h1 h3
 generalize f+2 * 2 ^ q - 1=X at *
 clear h0 h1 h3
 refine calls_marks Tryz.func55 rfl ?_
 simp only [Tryz.ntmps55,List.size_toArray,List.length_cons,List.length_nil,Nat.reduceAdd,Nat.reduceSub,Array.replicate_succ,Array.replicate_zero,List.push_toArray,List.append_toArray,List.nil_append,List.cons_append]
 go_wp2_with (first
  | (go_at_call 76; refine (HSp.out _).mono ?_; rintro e w1 ⟨rfl,ht1⟩; obtain ⟨hb,hr,hk,ht⟩:=three_cells ht1; obtain ⟨⟨c0,c1,c2,c3,c4⟩,-⟩:=cells5 hb; obtain ⟨⟨r0,r1,r2,r3⟩,y0,y1,y2,y3⟩:=cells4 hr; obtain ⟨k0,z0⟩:=cells1 hk; have HR:Hid _:=hr; have HKB:Hid _:=hk; have HT1:Hid (Turned [] w w1):=ht; have hsz:w.heap.size+1+1 < w1.heap.size:=lt_of_heap hk; clear ht1 ht hb hr hk)
  | (go_at_call 79; refine (cBackS _ _ _ _).mono ?_; rintro e w3 ⟨rfl,rfl⟩))
 refine from_loop (rb:=w.heap.size+1) (kb:=w.heap.size+1+1) (bx:=w1.heap.size) (v:=.slice va l.length vc) (l:=l) (B:=B) rfl rfl rfl rfl rfl HKK.out (by omega) (by omega) (by omega) (fun g hg=>by have:=HV.out g hg; omega) HL.out ⟨blk_new _ _,(HS.out.still HT1.out).still ((Turned.refl _ _).alloc _)⟩ (blk_old HR.out _) (blk_old HKB.out _) ?_ ?_
 ·intro a' y D hs hd x4 x5 hr hb hlz ht hK hDle
  have hDw:w.heap.size≤D:=by simp at hDle; omega
  obtain ⟨cc,hcc,hce⟩:=expand29d hs hd
  have g4:=(hce 4).trans x4
  have g5:=(hce 5).trans x5
  clear hce hs hd x4 x5 hDle
  subst hcc
  simp only [lit29,g4,g5]
  obtain ⟨⟨q0,q1,q2,q3⟩,p0,p1,p2,p3⟩:=cells4 hr
  obtain ⟨n0,nz0⟩:=cells1 hb
  have hlt1:=lt_of_heap hr
  have hlt2:=lt_of_heap hb
  have HTy:Hid (Turned [] w y):=Turned.inner (l:=[]) (HT1.out.alloc _) ht (by simp <;> omega)
  have HKD:Hid _:=hK
  have HDW:Hid _:=hDw
  have HRY:Hid _:=hr
  have HBY:Hid _:=hb
  have HLZ:Hid (Tr.lz l=none):=hlz
  clear hr hb ht hK hDw g4 g5 hlz
  go_wp2
  have h8:=set4 HRY.out (.int .i64 0) (.int .i64 0) (.int .i64 0) .nilIface
  have nD1:w.heap.size+1≠D:=fun e=>by rw [e,HKD.out] at HRY; cases HRY.out
  have nD2:w.heap.size+1+1≠D:=fun e=>by rw [e,HKD.out] at HBY; cases HBY.out
  refine from_ret (rb:=w.heap.size+1) (kb:=w.heap.size+1+1) rfl rfl rfl rfl ((blk_other (fun e=>nD2 e.symm) _ _).trans (h8.2.heap HKD.out (by simpa using fun e=>nD1 e.symm))) ((blk_other (by omega) _ _).trans h8.1) (blk_set (h8.2.heap HBY.out (by simp)) 0 _) ⟨?_,.inr ⟨HLZ.out,rfl⟩⟩
  exact ((HTy.out.inner h8.2 (by simp)).set (.inr (by omega)) _ _).inner (turned_put (l:=D) _) (by simp; exact HDW.out)
 ·intro a' y D hs hd x4 x5 hf ht hK hDle
  have hDw:w.heap.size≤D:=by simp at hDle; omega
  obtain ⟨h',q',c',lt',rt',hlz,hr,hb⟩:=hf
  refine from_ret (rb:=w.heap.size+1) (kb:=w.heap.size+1+1) hs hd x4 x5 hK hr hb ⟨?_,.inl ⟨h',q',c',lt',rt',hlz,rfl⟩⟩
  exact (Turned.inner (l:=[]) (HT1.out.alloc _) ht (by simp <;> omega)).inner (turned_put (l:=D) _) (by simp; exact hDw)
end Go.Proofs.YtloljphbdfjgdaaGreatDoor
/- Package trie's Next, alone, by contract. -/
namespace Go.Proofs.YtloljphbdfjgdaaGreatDoor
open Go.RowKit
def FrmR (w:World) (k:Int) (t:Tr) (e:Ending) (y:World):Prop:=Turned [] w y∧((∃ u a b n,Tr.frm k t=some u∧e=.returned (.tuple #[.agg #[.int .i64 u.hd,.int .i64 a,.int .i64 b,n],.bool true])∧a≤u.lo∧u.hi≤b∧(n=.nilIface∨n=nv u))∨(Tr.frm k t=none∧e=.returned (.tuple #[.agg #[.int .i64 0,.int .i64 0,.int .i64 0,.nilIface],.bool false])))
theorem frm_of {w y:World} {k:Int} {t:Tr} {e:Ending} (hw:t.WF) (hk:¬ k≤(t.stop k).lo) (h:FromR w (t.way k) e y):FrmR w k t e y:=by
 have hf:Tr.frm k t=(Tr.lz (t.way k)).map Tr.rgt:=by unfold Tr.frm; rw [if_neg hk]
 refine ⟨h.1,?_⟩
 rcases h.2 with ⟨h',q,c,lt,rt,hlz,rfl⟩ | ⟨hlz,rfl⟩
 ·obtain ⟨x,hx,hxe⟩:=lz_mem hlz
  have hxw:=(Tr.way_wf k hw x hx).2
  rw [hxe] at hxw
  obtain ⟨g1,g2,g3,g4,g5,g6,g7,g8,g9,g10⟩:=id hxw
  exact .inl ⟨rt,_,_,_,by rw [hf,hlz]; rfl,rfl,g7,by omega,.inl rfl⟩
 ·exact .inr ⟨by rw [hf,hlz]; rfl,rfl⟩
theorem cDFrom {w:World} {B:Nat} {v:Value} {t:Tr} {s:PSt} {a b k:Int} (hc:Rep s t) (hw:t.WF) (hsr:SR B w v (t.way k)) (ha:a≤(t.stop k).lo) (hb:(t.stop k).hi≤b) :
  Calls Tryz.prog 55 #[.agg #[v,.int .i64 (t.stop k).hd,.int .i64 a,.int .i64 b,nv (t.stop k)],.int .i64 k] w (FrmR w k t):=by
 have hl:(t.way k).length≤40:=by have:=Tr.way_len k hw; have:=hw.deep32; omega
 have hin:=Tr.way_wf k hw
 obtain ⟨hsw,hsr2⟩:=stop_rep (k:=k) hc hw
 obtain ⟨va,vc,rfl⟩:=hsr.form
 by_cases hk:k≤(t.stop k).lo
 ·have hf:Tr.frm k t=some (t.stop k):=by unfold Tr.frm; rw [if_pos hk]
  generalize t.stop k=u at *
  cases u with
  | leaf h kk vv =>
   refine (cFromLt (h:=h) (a:=a) (b:=b) hk).mono ?_
   rintro e w' ⟨rfl,ht⟩
   exact ⟨ht,.inl ⟨_,_,_,_,hf,rfl,ha,hb,.inr rfl⟩⟩
  | node h q c l r =>
   obtain ⟨g1,g2,g3,g4,g5,g6,g7,g8,g9,g10⟩:=id hsw
   refine (cFromIt (h:=h) (a:=a) (b:=b) g2 g3 g1 hk).mono ?_
   rintro e w' ⟨rfl,ht⟩
   exact ⟨ht,.inl ⟨_,_,_,_,hf,rfl,ha,hb,.inr rfl⟩⟩
 ·have key:=fun e w'=>frm_of (w:=w) (y:=w') (e:=e) hw hk
  generalize t.stop k=u at *
  cases u with
  | leaf h kk vv=>exact (cFromLf hl hin hsr hk).mono key
  | node h q c l r =>
   obtain ⟨g1,g2,g3,g4,g5,g6,g7,g8,g9,g10⟩:=id hsw
   exact (cFromIf hl hin g2 g3 g1 hsr hk).mono key
theorem frm_rep {s:PSt} {k:Int} {t u:Tr} (hr:Rep s t) (hw:t.WF) (h:Tr.frm k t=some u):Rep s u∧u.WF:=by
 unfold Tr.frm at h
 split at h
 ·cases h; exact (stop_rep hr hw).symm
 ·cases hl:Tr.lz (t.way k) with
  | none=>rw [hl] at h; cases h
  | some y =>
   rw [hl] at h
   cases h
   obtain ⟨x,hx,rfl⟩:=lz_mem hl
   obtain ⟨⟨h',q,c,l,r,e⟩,hxw⟩:=Tr.way_wf k hw x hx
   have hxr:=way_rep k hr x hx
   rw [e] at hxw hxr ⊢
   obtain ⟨g1,g2,g3,g4,g5,g6,g7,g8,g9,g10⟩:=id hxw
   exact ⟨hxr.2.2,g10⟩
theorem nform {n:Value} {u:Tr} (h:n=.nilIface∨n=nv u):n=.nilIface∨∃ T x,n=.iface T x:=by
 rcases h with rfl | rfl
 ·exact .inl rfl
 ·obtain ⟨T,x,e⟩:=nv_form u; exact .inr ⟨T,x,e⟩
def NextR (w:World) (z:Option (Int × Int)) (e:Ending) (y:World):Prop:=Turned [] w y∧e=match z with
 | some p=>.returned (.tuple #[.agg #[.int .i64 p.1,.int .i64 p.2],.int .i64 0])
 | none=>.returned (.tuple #[.agg #[.int .i64 0,.int .i64 0],.int .i64 122])
set_option maxRecDepth 100000 in
set_option maxHeartbeats 1600000 in
theorem cTNext {w:World} {tb p:Nat} {F:List Nat} {s:PSt} {o:Option Tr} {k:Int} (hT:TrieB w tb p) (hA:PoolAt w p F s) (hO:s.Ok) (hH:Holds s o) (h0:0≤k) (h1:k≤4294967295) :
  Calls Tryz.prog 25 #[pt tb,.pointer none,.int .i64 (rootO o),.int .i64 k] w (NextR w ((prs o).find? fun x=>decide (k+1≤x.1))):=by
 have HK:Hid (∀ x,Calls Tryz.prog 41 #[.int .i64 k] x fun e w'=>e=.returned (.bool true)∧Turned [] x w'):=cIsKey k (decide_eq_true ⟨h0,h1⟩)
 cases o with
 | none =>
  show Calls _ _ #[_,_,.int .i64 0,_] _ (NextR w none)
  go_enter Tryz.func25,Tryz.ntmps25
  go_wp2_with (first
   | (go_at_call 41; refine (HK.out _).mono ?_; rintro e w1 ⟨rfl,ht1⟩; obtain ⟨hb,ht⟩:=one_cells ht1; obtain ⟨⟨c0,c1⟩,z0,z1⟩:=cells2 hb; have HT1:Hid (Turned [] w w1):=ht; clear ht1 ht hb)
   | (go_at_call 42; refine (cIdle _ _).mono ?_; rintro e w2 ⟨rfl,rfl⟩))
  exact bodyPost_ret (v:=.tuple #[.agg #[.int .i64 0,.int .i64 0],.int .i64 122]) (by simp [results,Tryz.results25,go_sem,c0,c1]) rfl ⟨(HT1.out.set (.inr (Nat.le_refl _)) _ _).set (.inr (Nat.le_refl _)) _ _,rfl⟩
 | some t =>
  have hw:=hH.wf t rfl
  have hr:=hH.rep t rfl
  have hpos:=hr.top.pos
  have hz:(t.hd == 0)=false:=by simp; omega
  show Calls _ _ #[_,_,.int .i64 t.hd,_] _ (NextR w (t.pairs.find? fun x=>decide (k+1≤x.1)))
  by_cases hm:k=4294967295
  ·have hn:t.pairs.find? (fun x=>decide (k+1≤x.1))=none:=List.find?_eq_none.2 (fun x hx=>by have:=hw.mem x hx; have:=hw.span; simp; omega)
   rw [hn]
   have hm2:(k == 4294967295)=true:=by simp [hm]
   generalize t.hd=th at *
   have HM:Hid _:=hm
   clear hr hw hpos hT hA hO hH h0 h1 hn hm
   go_enter Tryz.func25,Tryz.ntmps25
   go_wp2_with (first
    | (go_at_call 41; refine (HK.out _).mono ?_; rintro e w1 ⟨rfl,ht1⟩; obtain ⟨hb,ht⟩:=one_cells ht1; obtain ⟨⟨c0,c1⟩,z0,z1⟩:=cells2 hb; have HT1:Hid (Turned [] w w1):=ht; clear ht1 ht hb)
    | (go_at_call 42; refine (cIdle _ _).mono ?_; rintro e w2 ⟨rfl,rfl⟩))
   exact bodyPost_ret (v:=.tuple #[.agg #[.int .i64 0,.int .i64 0],.int .i64 122]) (by simp [results,Tryz.results25,go_sem,c0,c1]) rfl ⟨(HT1.out.set (.inr (Nat.le_refl _)) _ _).set (.inr (Nat.le_refl _)) _ _,rfl⟩
  ·have hm2:(k == 4294967295)=false:=by simpa using hm
   have hk1:k+1≤4294967295:=by omega
   have HD:Hid (∀ x,Turned [] w x→Calls Tryz.prog 45 #[pt tb,.pointer none,.int .i64 t.hd,.int .i64 (k+1)] x (DownR x (k+1) t)):=fun x hx=>cDown (hT.still hx) (hA.still hx) hO hr hw (by omega) hk1
   obtain ⟨T,nvv,hN⟩:=nv_form (t.stop (k+1))
   have HF:Hid (∀ (B:Nat) (v:Value) (a b:Int) (x:World),SR B x v (t.way (k+1))→a≤(t.stop (k+1)).lo→(t.stop (k+1)).hi≤b→Calls Tryz.prog 55 #[.agg #[v,.int .i64 (t.stop (k+1)).hd,.int .i64 a,.int .i64 b,.iface T nvv],.int .i64 (k+1)] x (FrmR x (k+1) t)):=fun B v a b x hx ha hb=>by rw [← hN]; exact cDFrom hr hw hx ha hb
   have HL:Hid (∀ (u:Tr) (a b:Int) (n:Value) (x:World),Turned [] w x→Tr.frm (k+1) t=some u→a≤u.lo→u.hi≤b→(n=.nilIface∨n=nv u)→Calls Tryz.prog 56 #[pt tb,.pointer none,.agg #[.int .i64 u.hd,.int .i64 a,.int .i64 b,n]] x (LeftR x u)):=fun u a b n x hx hf ha hb hn=>by
    obtain ⟨hur,huw⟩:=frm_rep hr hw hf
    exact cLeft (hT.still hx) (hA.still hx) hO hur huw ha hb hn
   have HFO:Hid _:=Tr.frm_ok (k+1) hw
   have HNV:Hid (nv (t.stop (k+1))=.iface T nvv):=hN
   have HM:Hid _:=hm
   generalize t.hd=th at *
   clear hr hw hpos hT hA hO hH hN hm
   cases hfr:Tr.frm (k+1) t with
   | some u =>
    have HF2:Hid (∀ (B:Nat) (v:Value) (a b:Int) (x:World),SR B x v (t.way (k+1))→a≤(t.stop (k+1)).lo→(t.stop (k+1)).hi≤b→Calls Tryz.prog 55 #[.agg #[v,.int .i64 (t.stop (k+1)).hd,.int .i64 a,.int .i64 b,.iface T nvv],.int .i64 (k+1)] x fun e y=>Turned [] x y∧∃ a b n,e=.returned (.tuple #[.agg #[.int .i64 u.hd,.int .i64 a,.int .i64 b,n],.bool true])∧a≤u.lo∧u.hi≤b∧(n=.nilIface∨n=nv u)):=fun B v a b x hx ha hb=>(HF.out B v a b x hx ha hb).mono fun e y hR=>by
     obtain ⟨ht,hc⟩:=hR
     rw [hfr] at hc
     rcases hc with ⟨u',a',b',n,hu,rfl,h1,h2,h3⟩ | ⟨hc,_⟩
     ·cases hu; exact ⟨ht,a',b',n,rfl,h1,h2,h3⟩
     ·cases hc
    have HL2:Hid (∀ (a b:Int) (n:Value) (x:World),Turned [] w x→a≤u.lo→u.hi≤b→(n=.nilIface∨n=nv u)→Calls Tryz.prog 56 #[pt tb,.pointer none,.agg #[.int .i64 u.hd,.int .i64 a,.int .i64 b,n]] x (LeftR x u)):=fun a b n x hx ha hb hn=>HL.out u a b n x hx hfr ha hb hn
    have HFF:Hid (u.pairs.head?=t.pairs.find? fun x=>decide (k+1≤x.1)):=HFO.out.1 u hfr
    clear HF HL HFO hfr
    generalize hU:u.hd=uh at *
    clear hU
    go_enter Tryz.func25,Tryz.ntmps25
    go_wp2_with (first
     | (go_at_call 41; refine (HK.out _).mono ?_; rintro e w1 ⟨rfl,ht1⟩; obtain ⟨hb,ht⟩:=one_cells ht1; have HB1:Hid _:=hb; have HT1:Hid (Turned [] w w1):=ht; clear ht1 ht hb)
     | (go_at_call 45; refine (HD.out _ HT1.out).mono ?_; rintro e w2 ⟨v,a,b,rfl,ht2,hsr,ha,hb⟩; obtain ⟨va,vc,rfl⟩:=hsr.form; rw [HNV.out]; have HSR:Hid _:=hsr; have HAB:Hid _:=And.intro ha hb; have HB2:Hid _:=ht2.heap HB1.out (by simp); have HT2:Hid (Turned [] w w2):=HT1.out.trans ht2; clear ht2 hsr ha hb)
     | (go_at_call 55; refine (HF2.out _ _ _ _ _ (HSR.out.still ((Turned.refl [] _).alloc _)) HAB.out.1 HAB.out.2).mono ?_; rintro e w3 ⟨ht3,a',b',n,rfl,ha,hb,hn⟩; have HCL:Hid (∀ x,Turned [] w x→Calls Tryz.prog 56 #[pt tb,.pointer none,.agg #[.int .i64 uh,.int .i64 a',.int .i64 b',n]] x (LeftR x u)):=(fun x hx=>HL2.out a' b' n x hx ha hb hn); have HB3:Hid _:=ht3.heap (blk_old HB2.out _) (by simp); have HT3:Hid (Turned [] w w3):=(HT2.out.alloc _).trans ht3; have hnf:=nform hn; clear ht3 ha hb hn; rcases hnf with rfl | ⟨T',x',rfl⟩)
     | (go_at_call 56; refine (HCL.out _ (HT3.out.alloc _)).mono ?_; rintro e w5 ⟨z,hz,rfl,ht5⟩; obtain ⟨⟨c0,c1⟩,z0,z1⟩:=cells2 (ht5.heap (blk_old HB3.out _) (by simp)); have HT5:Hid (Turned [] w w5):=(HT3.out.alloc _).trans ht5; have HZ:Hid _:=hz; clear ht5 hz))
    all_goals
     refine bodyPost_ret (v:=.tuple #[.agg #[.int .i64 z.1,.int .i64 z.2],.int .i64 0]) (by simp [results,Tryz.results25,go_sem,c0,c1]) rfl ⟨(HT5.out.set (.inr (Nat.le_refl _)) _ _).set (.inr (Nat.le_refl _)) _ _,?_⟩
     rw [← HFF.out,HZ.out]
   | none =>
    have HF2:Hid (∀ (B:Nat) (v:Value) (a b:Int) (x:World),SR B x v (t.way (k+1))→a≤(t.stop (k+1)).lo→(t.stop (k+1)).hi≤b→Calls Tryz.prog 55 #[.agg #[v,.int .i64 (t.stop (k+1)).hd,.int .i64 a,.int .i64 b,.iface T nvv],.int .i64 (k+1)] x fun e y=>e=.returned (.tuple #[.agg #[.int .i64 0,.int .i64 0,.int .i64 0,.nilIface],.bool false])∧Turned [] x y):=fun B v a b x hx ha hb=>(HF.out B v a b x hx ha hb).mono fun e y hR=>by
     obtain ⟨ht,hc⟩:=hR
     rw [hfr] at hc
     rcases hc with ⟨u',a',b',n,hu,rfl,h1,h2,h3⟩ | ⟨hc,rfl⟩
     ·cases hu
     ·exact ⟨rfl,ht⟩
    have hno:t.pairs.find? (fun x=>decide (k+1≤x.1))=none:=List.find?_eq_none.2 (fun x hx=>by have:=HFO.out.2 hfr x hx; simp; omega)
    rw [hno]
    clear HF HL HFO hfr hno
    go_enter Tryz.func25,Tryz.ntmps25
    go_wp2_with (first
     | (go_at_call 41; refine (HK.out _).mono ?_; rintro e w1 ⟨rfl,ht1⟩; obtain ⟨hb,ht⟩:=one_cells ht1; have HB1:Hid _:=hb; have HT1:Hid (Turned [] w w1):=ht; clear ht1 ht hb)
     | (go_at_call 45; refine (HD.out _ HT1.out).mono ?_; rintro e w2 ⟨v,a,b,rfl,ht2,hsr,ha,hb⟩; obtain ⟨va,vc,rfl⟩:=hsr.form; rw [HNV.out]; have HSR:Hid _:=hsr; have HAB:Hid _:=And.intro ha hb; have HB2:Hid _:=ht2.heap HB1.out (by simp); have HT2:Hid (Turned [] w w2):=HT1.out.trans ht2; clear ht2 hsr ha hb)
     | (go_at_call 55; refine (HF2.out _ _ _ _ _ (HSR.out.still ((Turned.refl [] _).alloc _)) HAB.out.1 HAB.out.2).mono ?_; rintro e w3 ⟨rfl,ht3⟩; have hb3:=ht3.heap (blk_old HB2.out _) (by simp); obtain ⟨⟨c0,c1⟩,z0,z1⟩:=cells2 hb3; have hlt:=lt_of_heap hb3; have HT3:Hid (Turned [] w w3):=(HT2.out.alloc _).trans ht3; clear ht3 hb3))
    exact bodyPost_ret (v:=.tuple #[.agg #[.int .i64 0,.int .i64 0],.int .i64 122]) (by simp [results,Tryz.results25,go_sem,c0,c1,hlt]) rfl ⟨((HT3.out.set (.inr (Nat.le_refl _)) _ _).set (.inr (Nat.le_refl _)) _ _).alloc _,rfl⟩
end Go.Proofs.YtloljphbdfjgdaaGreatDoor
/- A frame, spelled out. -/
namespace Go.Proofs.YtloljphbdfjgdaaGreatDoor
open Go.RowKit
def lit58 (c:Nat→Value):Array Value:=#[c 0,c 1,c 2,c 3,c 4,c 5,c 6,c 7,c 8,c 9,c 10,c 11,c 12,c 13,c 14,c 15,c 16,c 17,c 18,c 19,c 20,c 21,c 22,c 23,c 24,c 25,c 26,c 27,c 28,c 29,c 30,c 31,c 32,c 33,c 34,c 35,c 36,c 37,c 38,c 39,c 40,c 41,c 42,c 43,c 44,c 45,c 46,c 47,c 48,c 49,c 50,c 51,c 52,c 53,c 54,c 55,c 56,c 57]
set_option maxRecDepth 100000 in
theorem lit58_eq (c:Nat→Value):lit58 c=((List.range 58).map c).toArray:=by rfl
theorem expand58 {a:Act} (hs:a.tmps.size=58) (hd:a.defers=[]):∃ c:Nat→Value,a=⟨lit58 c,[]⟩∧∀ s,c s=a.eval (.tmp s):=by
 refine ⟨fun s=>a.tmps.getD s undef,?_,fun s=>rfl⟩
 obtain ⟨t,d⟩:=a
 simp only at hs hd
 subst hd
 congr 1
 rw [lit58_eq]
 refine Array.ext (by simp [hs]) fun i h1 h2=>?_
 simp [Array.getD,h1]
end Go.Proofs.YtloljphbdfjgdaaGreatDoor
/- The ways through a round of package trie's nth. (Written by tools/gen/gennth.py.) -/
namespace Go.Proofs.YtloljphbdfjgdaaGreatDoor
open Go.RowKit
structure NI (w:World) (z:Option (Int × Int)) (s:PSt) (u:Tr) (a b:Int) (n:Value) (j:Nat) (x:World):Prop where
 turned:Turned [] w x
 sp:x.heap[w.heap.size]?=some (.cells #[.int .i64 u.hd,.int .i64 a,.int .i64 b,n] 120 (0,0))
 res:x.heap[w.heap.size+1]?=some (.cells #[.int .i64 0,.int .i64 0] 60 (0,0))
 wf:u.WF
 rep:Rep s u
 lo:a≤u.lo
 hi:u.hi≤b
 lt:j < u.cnt
 pick:z=u.pairs[j]?
section
variable {w x y:World} {z:Option (Int × Int)} {s:PSt} {u u':Tr} {a b a' b':Int} {n n':Value} {j j':Nat}
theorem NI.still (h:NI w z s u a b n j x) (ht:Turned [] x y):NI w z s u a b n j y :=
 ⟨h.turned.trans ht,ht.heap h.sp (by simp),ht.heap h.res (by simp),h.wf,h.rep,h.lo,h.hi,h.lt,h.pick⟩
theorem NI.spot (h:NI w z s u a b n j x) (ht:Turned [w.heap.size] x y) (hs:y.heap[w.heap.size]?=some (.cells #[.int .i64 u.hd,.int .i64 a,.int .i64 b,n'] 120 (0,0))):NI w z s u a b n' j y :=
 ⟨h.turned.inner ht (by simp),hs,ht.heap h.res (by simp),h.wf,h.rep,h.lo,h.hi,h.lt,h.pick⟩
theorem NI.next (h:NI w z s u a b n j x) (ht:Turned [w.heap.size] x y) (hs:y.heap[w.heap.size]?=some (.cells #[.int .i64 u'.hd,.int .i64 a',.int .i64 b',n'] 120 (0,0))) (hw:u'.WF) (hp:Rep s u') (hlo:a'≤u'.lo) (hhi:u'.hi≤b') (hl:j' < u'.cnt) (hf:z=u'.pairs[j']?):NI w z s u' a' b' n' j' y :=
 ⟨h.turned.inner ht (by simp),hs,ht.heap h.res (by simp),hw,hp,hlo,hhi,hl,hf⟩
end
section
variable {w x:World} {tb p j j2:Nat} {F:List Nat} {s:PSt} {z:Option (Int × Int)} {u u':Tr} {a1 b1 a2 b2 a3 b3:Int} {nvv:Value} {T:TypeId} {q ql:Nat} {c lh rh cn h kk vv kl vl bl llh lrh cl:Int} {R:Ending→World→Prop} {a:Act} {K:Act→World→Prop} {Q:Exit→Act→World→Prop} {n:Value}
set_option maxRecDepth 100000 in
set_option maxHeartbeats 1600000 in
theorem nth_r1 (hs:a.tmps.size=58) (hd:a.defers=[]) (x0:a.eval (.tmp 0)=pt tb) (x1:a.eval (.tmp 1)=.pointer none) (x3:a.eval (.tmp 3)=.int .i64 j) (x6:a.eval (.tmp 6)=.pointer (some ⟨w.heap.size,0,none⟩)) (x8:a.eval (.tmp 8)=.pointer (some ⟨w.heap.size+1,0,none⟩))
  
  (hK:∀ a',a'.tmps.size=58→a'.defers=[]→a'.eval (.tmp 0)=pt tb→a'.eval (.tmp 1)=.pointer none→a'.eval (.tmp 3)=.int .i64 j→a'.eval (.tmp 6)=.pointer (some ⟨w.heap.size,0,none⟩)→a'.eval (.tmp 8)=.pointer (some ⟨w.heap.size+1,0,none⟩)→K a' x):(atc Tryz.f54.body [1,1,1,1,0]).wp Tryz.prog (Exit.then K Q) a x:=by
 obtain ⟨cc,hcc,hce⟩:=expand58 hs hd
 have g0:=(hce 0).trans x0
 have g1:=(hce 1).trans x1
 have g3:=(hce 3).trans x3
 have g6:=(hce 6).trans x6
 have g8:=(hce 8).trans x8
 clear hce hs hd x0 x1 x3 x6 x8
 subst hcc
 conv=>arg 2; whnf
 simp only [lit58,g0,g1,g3,g6,g8]
 clear g0 g1 g3 g6 g8
 go_wp2
 exact hK _ rfl rfl rfl rfl rfl rfl rfl
set_option maxRecDepth 100000 in
set_option maxHeartbeats 1600000 in
theorem nth_rd (hs:a.tmps.size=58) (hd:a.defers=[]) (x0:a.eval (.tmp 0)=pt tb) (x1:a.eval (.tmp 1)=.pointer none) (x3:a.eval (.tmp 3)=.int .i64 j) (x6:a.eval (.tmp 6)=.pointer (some ⟨w.heap.size,0,none⟩)) (x8:a.eval (.tmp 8)=.pointer (some ⟨w.heap.size+1,0,none⟩))
  (hI:NI w z s u a1 b1 n j x) (hR:∀ y,Turned [] x y→Calls Tryz.prog 53 #[pt tb,.pointer none,.agg #[.int .i64 u.hd,.int .i64 a1,.int .i64 b1,n]] y fun e w'=>e=.returned (.tuple #[.agg #[.int .i64 u.hd,.int .i64 a1,.int .i64 b1,.iface T nvv],.int .i64 0])∧Turned [] y w')
  (hK:∀ a' y,a'.tmps.size=58→a'.defers=[]→a'.eval (.tmp 0)=pt tb→a'.eval (.tmp 1)=.pointer none→a'.eval (.tmp 3)=.int .i64 j→a'.eval (.tmp 6)=.pointer (some ⟨w.heap.size,0,none⟩)→a'.eval (.tmp 8)=.pointer (some ⟨w.heap.size+1,0,none⟩)→NI w z s u a1 b1 (.iface T nvv) j y→K a' y):(atc Tryz.f54.body [1,1,1,1,1,0]).wp Tryz.prog (Exit.then K Q) a x:=by
 obtain ⟨cc,hcc,hce⟩:=expand58 hs hd
 have g0:=(hce 0).trans x0
 have g1:=(hce 1).trans x1
 have g3:=(hce 3).trans x3
 have g6:=(hce 6).trans x6
 have g8:=(hce 8).trans x8
 clear hce hs hd x0 x1 x3 x6 x8
 subst hcc
 conv=>arg 2; whnf
 simp only [lit58,g0,g1,g3,g6,g8]
 clear g0 g1 g3 g6 g8
 have HI:Hid _:=hI
 have HR:Hid _:=hR
 obtain ⟨⟨e0,e1,e2,e3⟩,-⟩:=cells4 hI.sp
 generalize hU:u.hd=uh at *
 have HK:Hid _:=hK
 clear hI hK hR
 go_wp2_with (go_at_call 53; refine (HR.out _ (Turned.refl _ _)).mono ?_; rintro e w2 ⟨rfl,ht2⟩; have h2:=ht2.heap HI.out.sp (by simp); rw [hU] at h2; obtain ⟨⟨c0,c1,c2,c3⟩,y0,y1,y2,y3⟩:=cells4 h2; have HT2:Hid (Turned [] x w2):=ht2; have HS2:Hid _:=h2; clear ht2 h2)
 have h5:=set4 HS2.out (.int .i64 uh) (.int .i64 a1) (.int .i64 b1) (.iface T nvv)
 exact HK.out _ _ rfl rfl rfl rfl rfl rfl rfl ((HI.out.still HT2.out).spot h5.2 (by rw [hU]; exact h5.1))
set_option maxRecDepth 100000 in
set_option maxHeartbeats 1600000 in
theorem nth_r5 (hs:a.tmps.size=58) (hd:a.defers=[]) (x0:a.eval (.tmp 0)=pt tb) (x1:a.eval (.tmp 1)=.pointer none) (x3:a.eval (.tmp 3)=.int .i64 j) (x6:a.eval (.tmp 6)=.pointer (some ⟨w.heap.size,0,none⟩)) (x8:a.eval (.tmp 8)=.pointer (some ⟨w.heap.size+1,0,none⟩))
  (hI:NI w z s u a1 b1 (.iface T nvv) j x)
  (hK:∀ a',a'.tmps.size=58→a'.defers=[]→a'.eval (.tmp 0)=pt tb→a'.eval (.tmp 1)=.pointer none→a'.eval (.tmp 3)=.int .i64 j→a'.eval (.tmp 6)=.pointer (some ⟨w.heap.size,0,none⟩)→a'.eval (.tmp 8)=.pointer (some ⟨w.heap.size+1,0,none⟩)→a'.eval (.tmp 26)=.iface T nvv→K a' x):(atc Tryz.f54.body [1,1,1,1,1,1,0]).wp Tryz.prog (Exit.then K Q) a x:=by
 obtain ⟨cc,hcc,hce⟩:=expand58 hs hd
 have g0:=(hce 0).trans x0
 have g1:=(hce 1).trans x1
 have g3:=(hce 3).trans x3
 have g6:=(hce 6).trans x6
 have g8:=(hce 8).trans x8
 clear hce hs hd x0 x1 x3 x6 x8
 subst hcc
 conv=>arg 2; whnf
 simp only [lit58,g0,g1,g3,g6,g8]
 clear g0 g1 g3 g6 g8
 obtain ⟨⟨e0,e1,e2,e3⟩,-⟩:=cells4 hI.sp
 have HK:Hid _:=hK
 clear hI hK
 go_wp2
 exact HK.out _ rfl rfl rfl rfl rfl rfl rfl rfl
set_option maxRecDepth 100000 in
set_option maxHeartbeats 1600000 in
theorem nth_L (hs:a.tmps.size=58) (hd:a.defers=[]) (x0:a.eval (.tmp 0)=pt tb) (x1:a.eval (.tmp 1)=.pointer none) (x3:a.eval (.tmp 3)=.int .i64 j) (x6:a.eval (.tmp 6)=.pointer (some ⟨w.heap.size,0,none⟩)) (x8:a.eval (.tmp 8)=.pointer (some ⟨w.heap.size+1,0,none⟩)) (x26:a.eval (.tmp 26)=.iface 128 (.agg #[.int .i64 kk,.int .i64 vv]))
  (hI:NI w z s u a1 b1 (.iface 128 (.agg #[.int .i64 kk,.int .i64 vv])) j x) (hQ:∀ a' y,bodyPost Tryz.prog Tryz.f54 R .ret a' y→Q .ret a' y)
  (hR:∀ y,Turned [] w y→R (.returned (.tuple #[.agg #[.int .i64 kk,.int .i64 vv],.int .i64 0])) y):(atc Tryz.f54.body [1,1,1,1,1,1,1]).wp Tryz.prog (Exit.then K Q) a x:=by
 obtain ⟨cc,hcc,hce⟩:=expand58 hs hd
 have g0:=(hce 0).trans x0
 have g1:=(hce 1).trans x1
 have g3:=(hce 3).trans x3
 have g6:=(hce 6).trans x6
 have g8:=(hce 8).trans x8
 have g26:=(hce 26).trans x26
 clear hce hs hd x0 x1 x3 x6 x8 x26
 subst hcc
 conv=>arg 2; whnf
 simp only [lit58,g0,g1,g3,g6,g8,g26]
 clear g0 g1 g3 g6 g8 g26
 have as1:=as_leaf_leaf
 have HI:Hid _:=hI
 have HR:Hid _:=hR
 have HQ:Hid _:=hQ
 clear hI hR hQ
 go_wp2_with (go_at_call 65; refine (cLeafPair _ _ _).mono ?_; rintro e w3 ⟨rfl,ht3⟩; have ht4:Turned [] x w3:=((Turned.refl _ _).alloc _).trans ht3; obtain ⟨⟨r0,r1⟩,z0,z1⟩:=cells2 (ht4.heap HI.out.res (by simp)); have HT3:Hid (Turned [] w w3):=HI.out.turned.trans ht4; clear ht3 ht4)
 refine HQ.out _ _ (bodyPost_ret (v:=.tuple #[.agg #[.int .i64 kk,.int .i64 vv],.int .i64 0]) (by simp [results,Tryz.results54,go_sem,r0,r1]) rfl (HR.out _ ?_))
 refine Turned.set (Turned.set HT3.out (.inr ?_) _ _) (.inr ?_) _ _ <;> simp
set_option maxRecDepth 100000 in
set_option maxHeartbeats 1600000 in
theorem nth_ILg (hs:a.tmps.size=58) (hd:a.defers=[]) (x0:a.eval (.tmp 0)=pt tb) (x1:a.eval (.tmp 1)=.pointer none) (x3:a.eval (.tmp 3)=.int .i64 j) (x6:a.eval (.tmp 6)=.pointer (some ⟨w.heap.size,0,none⟩)) (x8:a.eval (.tmp 8)=.pointer (some ⟨w.heap.size+1,0,none⟩)) (x26:a.eval (.tmp 26)=.iface 151 (.agg #[.int .i64 c,.int .i64 q,.int .i64 lh,.int .i64 rh,.int .i64 cn]))
  (hI:NI w z s u a1 b1 (.iface 151 (.agg #[.int .i64 c,.int .i64 q,.int .i64 lh,.int .i64 rh,.int .i64 cn])) j x) (hC0:∀ y,Calls Tryz.prog 78 #[.agg #[.int .i64 c,.int .i64 q,.int .i64 lh,.int .i64 rh,.int .i64 cn],.int .i64 0] y fun e w'=>e=.returned (.agg #[.int .i64 lh,.int .i64 a2,.int .i64 b2,.nilIface])∧Turned [] y w') (hRd:∀ y,Turned [] x y→Calls Tryz.prog 53 #[pt tb,.pointer none,.agg #[.int .i64 lh,.int .i64 a2,.int .i64 b2,.nilIface]] y fun e w'=>e=.returned (.tuple #[.agg #[.int .i64 lh,.int .i64 a2,.int .i64 b2,.iface 128 (.agg #[.int .i64 kl,.int .i64 vl])],.int .i64 0])∧Turned [] y w') (hC1:∀ y,Calls Tryz.prog 78 #[.agg #[.int .i64 c,.int .i64 q,.int .i64 lh,.int .i64 rh,.int .i64 cn],.int .i64 1] y fun e w'=>e=.returned (.agg #[.int .i64 u'.hd,.int .i64 a3,.int .i64 b3,.nilIface])∧Turned [] y w') (hle:1≤(j:Int)) (hj:(j:Int)≤4096) (hj2:(j:Int) - 1=j2) (hw:u'.WF) (hp:Rep s u') (hlo:a3≤u'.lo) (hhi:u'.hi≤b3) (hl:j2 < u'.cnt) (hf:z=u'.pairs[j2]?)
  (hK:∀ a' y,a'.tmps.size=58→a'.defers=[]→a'.eval (.tmp 0)=pt tb→a'.eval (.tmp 1)=.pointer none→a'.eval (.tmp 3)=.int .i64 j2→a'.eval (.tmp 6)=.pointer (some ⟨w.heap.size,0,none⟩)→a'.eval (.tmp 8)=.pointer (some ⟨w.heap.size+1,0,none⟩)→NI w z s u' a3 b3 .nilIface j2 y→K a' y):(atc Tryz.f54.body [1,1,1,1,1,1,1]).wp Tryz.prog (Exit.then K Q) a x:=by
 obtain ⟨cc,hcc,hce⟩:=expand58 hs hd
 have g0:=(hce 0).trans x0
 have g1:=(hce 1).trans x1
 have g3:=(hce 3).trans x3
 have g6:=(hce 6).trans x6
 have g8:=(hce 8).trans x8
 have g26:=(hce 26).trans x26
 clear hce hs hd x0 x1 x3 x6 x8 x26
 subst hcc
 conv=>arg 2; whnf
 simp only [lit58,g0,g1,g3,g6,g8,g26]
 clear g0 g1 g3 g6 g8 g26
 have as1:=as_inner_leaf
 have as2:=as_inner_inner
 have mm:=m_leaf_count
 have HI:Hid _:=hI
 have HK:Hid _:=hK
 have HC0:Hid _:=hC0
 have HRd:Hid _:=hRd
 have HC1:Hid _:=hC1
 generalize hU:u'.hd=uh at *
 have HX:Hid (u'.WF∧Rep s u'∧a3≤u'.lo∧u'.hi≤b3∧j2 < u'.cnt∧z=u'.pairs[j2]?):=⟨hw,hp,hlo,hhi,hl,hf⟩
 clear hI hK hC0 hRd hw hp hlo hhi hl hf hC1
 go_wp2_with (first
  | (go_at_call 78; refine (HC0.out _).mono ?_; rintro e w2 ⟨rfl,ht2⟩; obtain ⟨hn2,ht3⟩:=one_cells ht2; have HN2:Hid _:=hn2; have HT2:Hid (Turned [] x w2):=ht3; clear ht2 ht3 hn2 HC0)
  | (go_at_call 53; refine (HRd.out _ HT2.out).mono ?_; rintro e w3 ⟨rfl,ht3⟩; have ht4:Turned [] x w3:=HT2.out.trans ht3; have h3:=ht4.heap HI.out.sp (by simp); have hn3:=ht3.heap HN2.out (by simp); obtain ⟨⟨c0,c1,c2,c3⟩,y0,y1,y2,y3⟩:=cells4 h3; obtain ⟨⟨i0,i1,i2,i3,i4⟩,-⟩:=cells5 hn3; have nlt1:=lt_of_heap h3; have nlt2:=lt_of_heap hn3; have nne:¬ x.heap.size=w.heap.size:=(by have:=lt_of_heap HI.out.sp; omega); have nne2:¬ w.heap.size=x.heap.size:=(fun e=>nne e.symm); have HT3:Hid (Turned [] x w3):=ht4; have HS3:Hid _:=h3; have HN3:Hid _:=hn3; clear ht3 ht4 h3 hn3)
  | (go_at_call 139; refine (cLeafCount _ _ _).mono ?_; rintro e w4 ⟨rfl,ht4⟩; have HT4:Hid _:=ht4; clear ht4; have hs4:=HT4.out.heap (set4 HS3.out (.int .i64 lh) (.int .i64 a2) (.int .i64 b2) (.iface 128 (.agg #[.int .i64 kl,.int .i64 vl]))).1 (by simp); have hn4:=HT4.out.heap ((set4 HS3.out (.int .i64 lh) (.int .i64 a2) (.int .i64 b2) (.iface 128 (.agg #[.int .i64 kl,.int .i64 vl]))).2.heap HN3.out (by simpa using nne)) (by simp); obtain ⟨⟨d0,d1,d2,d3⟩,q0,q1,q2,q3⟩:=cells4 hs4; obtain ⟨⟨k0,k1,k2,k3,k4⟩,-⟩:=cells5 hn4; have HS4:Hid _:=hs4; have HN4:Hid _:=hn4; clear hs4 hn4)
  | (go_at_call 78; refine (HC1.out _).mono ?_; rintro e w5 ⟨rfl,ht5⟩; have h5:=ht5.heap HS4.out (by simp); obtain ⟨⟨f0,f1,f2,f3⟩,g0,g1,g2,g3⟩:=cells4 h5; have HT5:Hid _:=ht5; have HS5:Hid _:=h5; clear ht5 h5))
 have h9:=set4 HS5.out (.int .i64 uh) (.int .i64 a3) (.int .i64 b3) .nilIface
 have hT:Turned [w.heap.size] x _:=(((HT3.out.mono (by simp)).trans (set4 HS3.out (.int .i64 lh) (.int .i64 a2) (.int .i64 b2) (.iface 128 (.agg #[.int .i64 kl,.int .i64 vl]))).2).trans (HT4.out.mono (by simp))).trans ((HT5.out.mono (by simp)).trans h9.2)
 obtain ⟨j1,j2',j3,j4,j5,j6⟩:=HX.out
 exact HK.out _ _ rfl rfl rfl rfl rfl rfl rfl (HI.out.next hT (by rw [hU]; exact h9.1) j1 j2' j3 j4 j5 j6)
set_option maxRecDepth 100000 in
set_option maxHeartbeats 1600000 in
theorem nth_ILs (hs:a.tmps.size=58) (hd:a.defers=[]) (x0:a.eval (.tmp 0)=pt tb) (x1:a.eval (.tmp 1)=.pointer none) (x3:a.eval (.tmp 3)=.int .i64 j) (x6:a.eval (.tmp 6)=.pointer (some ⟨w.heap.size,0,none⟩)) (x8:a.eval (.tmp 8)=.pointer (some ⟨w.heap.size+1,0,none⟩)) (x26:a.eval (.tmp 26)=.iface 151 (.agg #[.int .i64 c,.int .i64 q,.int .i64 lh,.int .i64 rh,.int .i64 cn]))
  (hI:NI w z s u a1 b1 (.iface 151 (.agg #[.int .i64 c,.int .i64 q,.int .i64 lh,.int .i64 rh,.int .i64 cn])) j x) (hC0:∀ y,Calls Tryz.prog 78 #[.agg #[.int .i64 c,.int .i64 q,.int .i64 lh,.int .i64 rh,.int .i64 cn],.int .i64 0] y fun e w'=>e=.returned (.agg #[.int .i64 lh,.int .i64 a2,.int .i64 b2,.nilIface])∧Turned [] y w') (hRd:∀ y,Turned [] x y→Calls Tryz.prog 53 #[pt tb,.pointer none,.agg #[.int .i64 lh,.int .i64 a2,.int .i64 b2,.nilIface]] y fun e w'=>e=.returned (.tuple #[.agg #[.int .i64 lh,.int .i64 a2,.int .i64 b2,.iface 128 (.agg #[.int .i64 kl,.int .i64 vl])],.int .i64 0])∧Turned [] y w') (hle:¬ 1≤(j:Int)) (hlh:lh=u'.hd) (hw:u'.WF) (hp:Rep s u') (hlo:a2≤u'.lo) (hhi:u'.hi≤b2) (hl:j < u'.cnt) (hf:z=u'.pairs[j]?)
  (hK:∀ a' y,a'.tmps.size=58→a'.defers=[]→a'.eval (.tmp 0)=pt tb→a'.eval (.tmp 1)=.pointer none→a'.eval (.tmp 3)=.int .i64 j→a'.eval (.tmp 6)=.pointer (some ⟨w.heap.size,0,none⟩)→a'.eval (.tmp 8)=.pointer (some ⟨w.heap.size+1,0,none⟩)→NI w z s u' a2 b2 (.iface 128 (.agg #[.int .i64 kl,.int .i64 vl])) j y→K a' y):(atc Tryz.f54.body [1,1,1,1,1,1,1]).wp Tryz.prog (Exit.then K Q) a x:=by
 obtain ⟨cc,hcc,hce⟩:=expand58 hs hd
 have g0:=(hce 0).trans x0
 have g1:=(hce 1).trans x1
 have g3:=(hce 3).trans x3
 have g6:=(hce 6).trans x6
 have g8:=(hce 8).trans x8
 have g26:=(hce 26).trans x26
 clear hce hs hd x0 x1 x3 x6 x8 x26
 subst hcc
 conv=>arg 2; whnf
 simp only [lit58,g0,g1,g3,g6,g8,g26]
 clear g0 g1 g3 g6 g8 g26
 have as1:=as_inner_leaf
 have as2:=as_inner_inner
 have mm:=m_leaf_count
 have HI:Hid _:=hI
 have HK:Hid _:=hK
 have HC0:Hid _:=hC0
 have HRd:Hid _:=hRd
 have HLH:Hid _:=hlh
 have HX:Hid (u'.WF∧Rep s u'∧a2≤u'.lo∧u'.hi≤b2∧j < u'.cnt∧z=u'.pairs[j]?):=⟨hw,hp,hlo,hhi,hl,hf⟩
 clear hI hK hC0 hRd hw hp hlo hhi hl hf hlh
 go_wp2_with (first
  | (go_at_call 78; refine (HC0.out _).mono ?_; rintro e w2 ⟨rfl,ht2⟩; obtain ⟨hn2,ht3⟩:=one_cells ht2; have HN2:Hid _:=hn2; have HT2:Hid (Turned [] x w2):=ht3; clear ht2 ht3 hn2 HC0)
  | (go_at_call 53; refine (HRd.out _ HT2.out).mono ?_; rintro e w3 ⟨rfl,ht3⟩; have ht4:Turned [] x w3:=HT2.out.trans ht3; have h3:=ht4.heap HI.out.sp (by simp); have hn3:=ht3.heap HN2.out (by simp); obtain ⟨⟨c0,c1,c2,c3⟩,y0,y1,y2,y3⟩:=cells4 h3; obtain ⟨⟨i0,i1,i2,i3,i4⟩,-⟩:=cells5 hn3; have nlt1:=lt_of_heap h3; have nlt2:=lt_of_heap hn3; have nne:¬ x.heap.size=w.heap.size:=(by have:=lt_of_heap HI.out.sp; omega); have nne2:¬ w.heap.size=x.heap.size:=(fun e=>nne e.symm); have HT3:Hid (Turned [] x w3):=ht4; have HS3:Hid _:=h3; have HN3:Hid _:=hn3; clear ht3 ht4 h3 hn3)
  | (go_at_call 139; refine (cLeafCount _ _ _).mono ?_; rintro e w4 ⟨rfl,ht4⟩; have HT4:Hid _:=ht4; clear ht4))
 have hT:Turned [w.heap.size] x _:=((HT3.out.mono (by simp)).trans (set4 HS3.out (.int .i64 lh) (.int .i64 a2) (.int .i64 b2) (.iface 128 (.agg #[.int .i64 kl,.int .i64 vl]))).2).trans (HT4.out.mono (by simp))
 obtain ⟨j1,j2',j3,j4,j5,j6⟩:=HX.out
 exact HK.out _ _ rfl rfl rfl rfl rfl rfl rfl (HI.out.next hT (by rw [← HLH.out]; exact HT4.out.heap (set4 HS3.out (.int .i64 lh) (.int .i64 a2) (.int .i64 b2) (.iface 128 (.agg #[.int .i64 kl,.int .i64 vl]))).1 (by simp)) j1 j2' j3 j4 j5 j6)
set_option maxRecDepth 100000 in
set_option maxHeartbeats 1600000 in
theorem nth_INg (hs:a.tmps.size=58) (hd:a.defers=[]) (x0:a.eval (.tmp 0)=pt tb) (x1:a.eval (.tmp 1)=.pointer none) (x3:a.eval (.tmp 3)=.int .i64 j) (x6:a.eval (.tmp 6)=.pointer (some ⟨w.heap.size,0,none⟩)) (x8:a.eval (.tmp 8)=.pointer (some ⟨w.heap.size+1,0,none⟩)) (x26:a.eval (.tmp 26)=.iface 151 (.agg #[.int .i64 c,.int .i64 q,.int .i64 lh,.int .i64 rh,.int .i64 cn]))
  (hI:NI w z s u a1 b1 (.iface 151 (.agg #[.int .i64 c,.int .i64 q,.int .i64 lh,.int .i64 rh,.int .i64 cn])) j x) (hC0:∀ y,Calls Tryz.prog 78 #[.agg #[.int .i64 c,.int .i64 q,.int .i64 lh,.int .i64 rh,.int .i64 cn],.int .i64 0] y fun e w'=>e=.returned (.agg #[.int .i64 lh,.int .i64 a2,.int .i64 b2,.nilIface])∧Turned [] y w') (hRd:∀ y,Turned [] x y→Calls Tryz.prog 53 #[pt tb,.pointer none,.agg #[.int .i64 lh,.int .i64 a2,.int .i64 b2,.nilIface]] y fun e w'=>e=.returned (.tuple #[.agg #[.int .i64 lh,.int .i64 a2,.int .i64 b2,.iface 151 (.agg #[.int .i64 bl,.int .i64 ql,.int .i64 llh,.int .i64 lrh,.int .i64 cl])],.int .i64 0])∧Turned [] y w') (hC1:∀ y,Calls Tryz.prog 78 #[.agg #[.int .i64 c,.int .i64 q,.int .i64 lh,.int .i64 rh,.int .i64 cn],.int .i64 1] y fun e w'=>e=.returned (.agg #[.int .i64 u'.hd,.int .i64 a3,.int .i64 b3,.nilIface])∧Turned [] y w') (hle:cl≤(j:Int)) (hj:(j:Int)≤4096) (hcl:0≤cl) (hj2:(j:Int) - cl=j2) (hw:u'.WF) (hp:Rep s u') (hlo:a3≤u'.lo) (hhi:u'.hi≤b3) (hl:j2 < u'.cnt) (hf:z=u'.pairs[j2]?)
  (hK:∀ a' y,a'.tmps.size=58→a'.defers=[]→a'.eval (.tmp 0)=pt tb→a'.eval (.tmp 1)=.pointer none→a'.eval (.tmp 3)=.int .i64 j2→a'.eval (.tmp 6)=.pointer (some ⟨w.heap.size,0,none⟩)→a'.eval (.tmp 8)=.pointer (some ⟨w.heap.size+1,0,none⟩)→NI w z s u' a3 b3 .nilIface j2 y→K a' y):(atc Tryz.f54.body [1,1,1,1,1,1,1]).wp Tryz.prog (Exit.then K Q) a x:=by
 obtain ⟨cc,hcc,hce⟩:=expand58 hs hd
 have g0:=(hce 0).trans x0
 have g1:=(hce 1).trans x1
 have g3:=(hce 3).trans x3
 have g6:=(hce 6).trans x6
 have g8:=(hce 8).trans x8
 have g26:=(hce 26).trans x26
 clear hce hs hd x0 x1 x3 x6 x8 x26
 subst hcc
 conv=>arg 2; whnf
 simp only [lit58,g0,g1,g3,g6,g8,g26]
 clear g0 g1 g3 g6 g8 g26
 have as1:=as_inner_leaf
 have as2:=as_inner_inner
 have mm:=m_inner_count
 have HI:Hid _:=hI
 have HK:Hid _:=hK
 have HC0:Hid _:=hC0
 have HRd:Hid _:=hRd
 have HC1:Hid _:=hC1
 generalize hU:u'.hd=uh at *
 have HX:Hid (u'.WF∧Rep s u'∧a3≤u'.lo∧u'.hi≤b3∧j2 < u'.cnt∧z=u'.pairs[j2]?):=⟨hw,hp,hlo,hhi,hl,hf⟩
 clear hI hK hC0 hRd hw hp hlo hhi hl hf hC1
 go_wp2_with (first
  | (go_at_call 78; refine (HC0.out _).mono ?_; rintro e w2 ⟨rfl,ht2⟩; obtain ⟨hn2,ht3⟩:=one_cells ht2; have HN2:Hid _:=hn2; have HT2:Hid (Turned [] x w2):=ht3; clear ht2 ht3 hn2 HC0)
  | (go_at_call 53; refine (HRd.out _ HT2.out).mono ?_; rintro e w3 ⟨rfl,ht3⟩; have ht4:Turned [] x w3:=HT2.out.trans ht3; have h3:=ht4.heap HI.out.sp (by simp); have hn3:=ht3.heap HN2.out (by simp); obtain ⟨⟨c0,c1,c2,c3⟩,y0,y1,y2,y3⟩:=cells4 h3; obtain ⟨⟨i0,i1,i2,i3,i4⟩,-⟩:=cells5 hn3; have nlt1:=lt_of_heap h3; have nlt2:=lt_of_heap hn3; have nne:¬ x.heap.size=w.heap.size:=(by have:=lt_of_heap HI.out.sp; omega); have nne2:¬ w.heap.size=x.heap.size:=(fun e=>nne e.symm); have HT3:Hid (Turned [] x w3):=ht4; have HS3:Hid _:=h3; have HN3:Hid _:=hn3; clear ht3 ht4 h3 hn3)
  | (go_at_call 141; refine (cInnerCount _ _ _ _ _ _).mono ?_; rintro e w4 ⟨rfl,ht4⟩; have HT4:Hid _:=ht4; clear ht4; have hs4:=HT4.out.heap (set4 HS3.out (.int .i64 lh) (.int .i64 a2) (.int .i64 b2) (.iface 151 (.agg #[.int .i64 bl,.int .i64 ql,.int .i64 llh,.int .i64 lrh,.int .i64 cl]))).1 (by simp); have hn4:=HT4.out.heap ((set4 HS3.out (.int .i64 lh) (.int .i64 a2) (.int .i64 b2) (.iface 151 (.agg #[.int .i64 bl,.int .i64 ql,.int .i64 llh,.int .i64 lrh,.int .i64 cl]))).2.heap HN3.out (by simpa using nne)) (by simp); obtain ⟨⟨d0,d1,d2,d3⟩,q0,q1,q2,q3⟩:=cells4 hs4; obtain ⟨⟨k0,k1,k2,k3,k4⟩,-⟩:=cells5 hn4; have HS4:Hid _:=hs4; have HN4:Hid _:=hn4; clear hs4 hn4)
  | (go_at_call 78; refine (HC1.out _).mono ?_; rintro e w5 ⟨rfl,ht5⟩; have h5:=ht5.heap HS4.out (by simp); obtain ⟨⟨f0,f1,f2,f3⟩,g0,g1,g2,g3⟩:=cells4 h5; have HT5:Hid _:=ht5; have HS5:Hid _:=h5; clear ht5 h5))
 have h9:=set4 HS5.out (.int .i64 uh) (.int .i64 a3) (.int .i64 b3) .nilIface
 have hT:Turned [w.heap.size] x _:=(((HT3.out.mono (by simp)).trans (set4 HS3.out (.int .i64 lh) (.int .i64 a2) (.int .i64 b2) (.iface 151 (.agg #[.int .i64 bl,.int .i64 ql,.int .i64 llh,.int .i64 lrh,.int .i64 cl]))).2).trans (HT4.out.mono (by simp))).trans ((HT5.out.mono (by simp)).trans h9.2)
 obtain ⟨j1,j2',j3,j4,j5,j6⟩:=HX.out
 exact HK.out _ _ rfl rfl rfl rfl rfl rfl rfl (HI.out.next hT (by rw [hU]; exact h9.1) j1 j2' j3 j4 j5 j6)
set_option maxRecDepth 100000 in
set_option maxHeartbeats 1600000 in
theorem nth_INs (hs:a.tmps.size=58) (hd:a.defers=[]) (x0:a.eval (.tmp 0)=pt tb) (x1:a.eval (.tmp 1)=.pointer none) (x3:a.eval (.tmp 3)=.int .i64 j) (x6:a.eval (.tmp 6)=.pointer (some ⟨w.heap.size,0,none⟩)) (x8:a.eval (.tmp 8)=.pointer (some ⟨w.heap.size+1,0,none⟩)) (x26:a.eval (.tmp 26)=.iface 151 (.agg #[.int .i64 c,.int .i64 q,.int .i64 lh,.int .i64 rh,.int .i64 cn]))
  (hI:NI w z s u a1 b1 (.iface 151 (.agg #[.int .i64 c,.int .i64 q,.int .i64 lh,.int .i64 rh,.int .i64 cn])) j x) (hC0:∀ y,Calls Tryz.prog 78 #[.agg #[.int .i64 c,.int .i64 q,.int .i64 lh,.int .i64 rh,.int .i64 cn],.int .i64 0] y fun e w'=>e=.returned (.agg #[.int .i64 lh,.int .i64 a2,.int .i64 b2,.nilIface])∧Turned [] y w') (hRd:∀ y,Turned [] x y→Calls Tryz.prog 53 #[pt tb,.pointer none,.agg #[.int .i64 lh,.int .i64 a2,.int .i64 b2,.nilIface]] y fun e w'=>e=.returned (.tuple #[.agg #[.int .i64 lh,.int .i64 a2,.int .i64 b2,.iface 151 (.agg #[.int .i64 bl,.int .i64 ql,.int .i64 llh,.int .i64 lrh,.int .i64 cl])],.int .i64 0])∧Turned [] y w') (hle:¬ cl≤(j:Int)) (hlh:lh=u'.hd) (hw:u'.WF) (hp:Rep s u') (hlo:a2≤u'.lo) (hhi:u'.hi≤b2) (hl:j < u'.cnt) (hf:z=u'.pairs[j]?)
  (hK:∀ a' y,a'.tmps.size=58→a'.defers=[]→a'.eval (.tmp 0)=pt tb→a'.eval (.tmp 1)=.pointer none→a'.eval (.tmp 3)=.int .i64 j→a'.eval (.tmp 6)=.pointer (some ⟨w.heap.size,0,none⟩)→a'.eval (.tmp 8)=.pointer (some ⟨w.heap.size+1,0,none⟩)→NI w z s u' a2 b2 (.iface 151 (.agg #[.int .i64 bl,.int .i64 ql,.int .i64 llh,.int .i64 lrh,.int .i64 cl])) j y→K a' y):(atc Tryz.f54.body [1,1,1,1,1,1,1]).wp Tryz.prog (Exit.then K Q) a x:=by
 obtain ⟨cc,hcc,hce⟩:=expand58 hs hd
 have g0:=(hce 0).trans x0
 have g1:=(hce 1).trans x1
 have g3:=(hce 3).trans x3
 have g6:=(hce 6).trans x6
 have g8:=(hce 8).trans x8
 have g26:=(hce 26).trans x26
 clear hce hs hd x0 x1 x3 x6 x8 x26
 subst hcc
 conv=>arg 2; whnf
 simp only [lit58,g0,g1,g3,g6,g8,g26]
 clear g0 g1 g3 g6 g8 g26
 have as1:=as_inner_leaf
 have as2:=as_inner_inner
 have mm:=m_inner_count
 have HI:Hid _:=hI
 have HK:Hid _:=hK
 have HC0:Hid _:=hC0
 have HRd:Hid _:=hRd
 have HLH:Hid _:=hlh
 have HX:Hid (u'.WF∧Rep s u'∧a2≤u'.lo∧u'.hi≤b2∧j < u'.cnt∧z=u'.pairs[j]?):=⟨hw,hp,hlo,hhi,hl,hf⟩
 clear hI hK hC0 hRd hw hp hlo hhi hl hf hlh
 go_wp2_with (first
  | (go_at_call 78; refine (HC0.out _).mono ?_; rintro e w2 ⟨rfl,ht2⟩; obtain ⟨hn2,ht3⟩:=one_cells ht2; have HN2:Hid _:=hn2; have HT2:Hid (Turned [] x w2):=ht3; clear ht2 ht3 hn2 HC0)
  | (go_at_call 53; refine (HRd.out _ HT2.out).mono ?_; rintro e w3 ⟨rfl,ht3⟩; have ht4:Turned [] x w3:=HT2.out.trans ht3; have h3:=ht4.heap HI.out.sp (by simp); have hn3:=ht3.heap HN2.out (by simp); obtain ⟨⟨c0,c1,c2,c3⟩,y0,y1,y2,y3⟩:=cells4 h3; obtain ⟨⟨i0,i1,i2,i3,i4⟩,-⟩:=cells5 hn3; have nlt1:=lt_of_heap h3; have nlt2:=lt_of_heap hn3; have nne:¬ x.heap.size=w.heap.size:=(by have:=lt_of_heap HI.out.sp; omega); have nne2:¬ w.heap.size=x.heap.size:=(fun e=>nne e.symm); have HT3:Hid (Turned [] x w3):=ht4; have HS3:Hid _:=h3; have HN3:Hid _:=hn3; clear ht3 ht4 h3 hn3)
  | (go_at_call 141; refine (cInnerCount _ _ _ _ _ _).mono ?_; rintro e w4 ⟨rfl,ht4⟩; have HT4:Hid _:=ht4; clear ht4))
 have hT:Turned [w.heap.size] x _:=((HT3.out.mono (by simp)).trans (set4 HS3.out (.int .i64 lh) (.int .i64 a2) (.int .i64 b2) (.iface 151 (.agg #[.int .i64 bl,.int .i64 ql,.int .i64 llh,.int .i64 lrh,.int .i64 cl]))).2).trans (HT4.out.mono (by simp))
 obtain ⟨j1,j2',j3,j4,j5,j6⟩:=HX.out
 exact HK.out _ _ rfl rfl rfl rfl rfl rfl rfl (HI.out.next hT (by rw [← HLH.out]; exact HT4.out.heap (set4 HS3.out (.int .i64 lh) (.int .i64 a2) (.int .i64 b2) (.iface 151 (.agg #[.int .i64 bl,.int .i64 ql,.int .i64 llh,.int .i64 lrh,.int .i64 cl]))).1 (by simp)) j1 j2' j3 j4 j5 j6)
end
end Go.Proofs.YtloljphbdfjgdaaGreatDoor

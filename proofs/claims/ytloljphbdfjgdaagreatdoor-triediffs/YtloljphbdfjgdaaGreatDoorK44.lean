/- Drawn regions of package trie's Diff. (Written by tools/gen/gendif.py.) -/
import Derived.Test.YtloljphbdfjgdaaGreatDoorK35
namespace Go.Proofs.YtloljphbdfjgdaaGreatDoor
open Go.RowKit
abbrev dfV (tb:Nat) (fy:FuncId) (cy:Array Value):Value:=.agg #[.pointer (some ⟨tb,0,none⟩),.pointer none,.func (.func fy) #[] cy]
abbrev dfO (tb:Nat) (fy:FuncId) (cy:Array Value):Obj:=.cells #[.pointer (some ⟨tb,0,none⟩),.pointer none,.func (.func fy) #[] cy] 113 (0,0)
abbrev spV (h a b:Int) (n:Value):Value:=.agg #[.int .i64 h,.int .i64 a,.int .i64 b,n]
abbrev spO (h a b:Int) (n:Value):Obj:=.cells #[.int .i64 h,.int .i64 a,.int .i64 b,n] 120 (0,0)
abbrev inV (f q l r c:Int):Value:=.agg #[.int .i64 f,.int .i64 q,.int .i64 l,.int .i64 r,.int .i64 c]
abbrev inO (f q l r c:Int):Obj:=.cells #[.int .i64 f,.int .i64 q,.int .i64 l,.int .i64 r,.int .i64 c] 151 (0,0)
section
variable {w:World} {b tb:Nat} {fy:FuncId} {cy:Array Value} {h x y f q l r c:Int} {n:Value}
theorem load_df (hb:w.heap[b]?=some (dfO tb fy cy)):(Instr.loadAt 113 (pa b 0)).run Tryz.prog w=.ok (dfV tb fy cy) w:=by
 have c0:=cell_at hb 0
 have c1:=cell_at hb 1
 have c2:=cell_at hb 2
 simp at c0 c1 c2
 unfold pa
 go_simp
theorem load_sp (hb:w.heap[b]?=some (spO h x y n)):(Instr.loadAt 120 (pa b 0)).run Tryz.prog w=.ok (spV h x y n) w:=by
 have c0:=cell_at hb 0
 have c1:=cell_at hb 1
 have c2:=cell_at hb 2
 have c3:=cell_at hb 3
 simp at c0 c1 c2 c3
 unfold pa
 go_simp
theorem load_in (hb:w.heap[b]?=some (inO f q l r c)):(Instr.loadAt 151 (pa b 0)).run Tryz.prog w=.ok (inV f q l r c) w:=by
 have c0:=cell_at hb 0
 have c1:=cell_at hb 1
 have c2:=cell_at hb 2
 have c3:=cell_at hb 3
 have c4:=cell_at hb 4
 simp at c0 c1 c2 c3 c4
 unfold pa
 go_simp
end
def alike_r11V (tb qq:Nat) (f q la ra ca lb rb cb:Int) (fy:FuncId) (cy:Array Value):Nat × (Nat→Value)→Nat→Value:=fun _ j=>match j with | 0=>(dfV tb fy cy) | 1=>(inV f q la ra ca) | 2=>(spV la f (f+2 ^ qq - 1) .nilIface) | 3=>(inV f q lb rb cb) | 4=>(spV lb f (f+2 ^ qq - 1) .nilIface) | 5=>(Value.bool true) | 6=>(Value.bool true) | 7=>(dfV tb fy cy) | 8=>(inV f q la ra ca) | 9=>(spV ra (f+2 ^ qq) (f+2 * 2 ^ qq - 1) .nilIface) | 10=>(inV f q lb rb cb) | 11=>(spV rb (f+2 ^ qq) (f+2 * 2 ^ qq - 1) .nilIface) | 12=>(Value.bool true) | 13=>(Value.bool true) | 14=>(Value.bool true) | _=>undef
set_option maxRecDepth 100000 in
set_option maxHeartbeats 1600000 in
theorem alike_r11 {db ba bb tb qq:Nat} {f q la ra ca lb rb cb:Int} {fy:FuncId} {cy:Array Value} {Ph:Nat→(Nat→Value)→World→Prop} {K:Act→World→Prop} {Q:Exit→Act→World→Prop} {a0:Act} {w:World} (hs:a0.tmps.size=66) (x3:a0.eval (.tmp 3)=pa db 0) (x10:a0.eval (.tmp 10)=pa ba 0) (x11:a0.eval (.tmp 11)=pa bb 0) (hc:∀ g u x,Ph g u x→(Instr.loadAt 113 (pa db 0)).run Tryz.prog x=.ok (dfV tb fy cy) x∧(Instr.loadAt 151 (pa ba 0)).run Tryz.prog x=.ok (inV f q la ra ca) x∧(Instr.loadAt 151 (pa bb 0)).run Tryz.prog x=.ok (inV f q lb rb cb) x) (hA:Ph 0 (fun _=>undef) w.drew)
  (hQ2:∀ g u x,Ph g u x→Calls Tryz.prog 78 #[(inV f q la ra ca),.int .i64 0] x fun e w'=>e=.returned (spV la f (f+2 ^ qq - 1) .nilIface)∧Ph g u w')
  (hQ4:∀ g u x,Ph g u x→Calls Tryz.prog 78 #[(inV f q lb rb cb),.int .i64 0] x fun e w'=>e=.returned (spV lb f (f+2 ^ qq - 1) .nilIface)∧Ph g u w')
  (hQ9:∀ g u x,Ph g u x→Calls Tryz.prog 78 #[(inV f q la ra ca),.int .i64 1] x fun e w'=>e=.returned (spV ra (f+2 ^ qq) (f+2 * 2 ^ qq - 1) .nilIface)∧Ph g u w')
  (hQ11:∀ g u x,Ph g u x→Calls Tryz.prog 78 #[(inV f q lb rb cb),.int .i64 1] x fun e w'=>e=.returned (spV rb (f+2 ^ qq) (f+2 * 2 ^ qq - 1) .nilIface)∧Ph g u w')
  (hL0:∀ u x,Ph 0 u x→Calls Tryz.prog 38 #[(dfV tb fy cy),(spV la f (f+2 ^ qq - 1) .nilIface),(spV lb f (f+2 ^ qq - 1) .nilIface)] x fun e w'=>e=.returned (Value.bool true)∧Ph 1 u w')
  (hL1:∀ u x,Ph 1 u x→Calls Tryz.prog 38 #[(dfV tb fy cy),(spV ra (f+2 ^ qq) (f+2 * 2 ^ qq - 1) .nilIface),(spV rb (f+2 ^ qq) (f+2 * 2 ^ qq - 1) .nilIface)] x fun e w'=>e=.returned (Value.bool true)∧Ph 2 u w')
  (hEnd:∀ a' x u,a'.tmps.size=a0.tmps.size→a'.defers=a0.defers→(∀ s,some s∉([some 52,some 53,some 54,some 55,some 56,some 57,some 58,some 59,some 60,some 61,some 62,some 63,some 64,some 65,some 6]:List (Option Nat))→a'.eval (.tmp s)=a0.eval (.tmp s))→a'.eval (.tmp 6)=(Value.bool true)→Ph 2 u x→K a' x):(Code.region 11 (opsR 11 Tryz.f95.body) true).wp Tryz.prog (Exit.then K Q) a0 w:=by
 refine wp_region_ghost3 (G:=Nat × (Nat→Value)) (by kernel_rfl) [some 52,some 53,some 54,some 55,some 56,some 57,some 58,some 59,some 60,some 61,some 62,some 63,some 64,some 65,some 6] (by rw [hs]; kernel_rfl) (alike_r11V tb qq f q la ra ca lb rb cb fy cy) [5,12] ?_ (doneP [5,12]) (StP 2 Ph) ((0,fun _=>undef)) (⟨Nat.zero_le _,hA⟩) (by intro x hx; simp at hx; rcases hx with rfl | rfl <;> rfl) (by decide) ?_ ?_
 ·intro i g b h γ
  have hi:i < 15:=by
   apply Classical.byContradiction
   intro hn
   rw [show (opsR 11 Tryz.f95.body)[i]?=none from Array.getElem?_eq_none (by have:(opsR 11 Tryz.f95.body).size=15:=(by kernel_rfl); omega)] at h
   cases h
  rcases (by omega:i=0∨i=1∨i=2∨i=3∨i=4∨i=5∨i=6∨i=7∨i=8∨i=9∨i=10∨i=11∨i=12∨i=13∨i=14) with rfl | rfl | rfl | rfl | rfl | rfl | rfl | rfl | rfl | rfl | rfl | rfl | rfl | rfl | rfl
  ·exact absurd h (gNo (by kernel_rfl))
  ·exact absurd h (gNo (by kernel_rfl))
  ·exact absurd h (gNo (by kernel_rfl))
  ·exact absurd h (gNo (by kernel_rfl))
  ·exact absurd h (gNo (by kernel_rfl))
  ·exact absurd h (gNo (by kernel_rfl))
  ·exact absurd h (gNo (by kernel_rfl))
  ·rw [show ((opsR 11 Tryz.f95.body)[7]?).bind (fun o:Oper=>o.guard)=some (6,true) from by kernel_rfl] at h
   obtain ⟨rfl,rfl⟩:6=g∧true=b:=by simpa using h
   exact .inl ⟨true,rfl,fun hne=>absurd rfl hne⟩
  ·rw [show ((opsR 11 Tryz.f95.body)[8]?).bind (fun o:Oper=>o.guard)=some (6,true) from by kernel_rfl] at h
   obtain ⟨rfl,rfl⟩:6=g∧true=b:=by simpa using h
   exact .inl ⟨true,rfl,fun hne=>absurd rfl hne⟩
  ·rw [show ((opsR 11 Tryz.f95.body)[9]?).bind (fun o:Oper=>o.guard)=some (6,true) from by kernel_rfl] at h
   obtain ⟨rfl,rfl⟩:6=g∧true=b:=by simpa using h
   exact .inl ⟨true,rfl,fun hne=>absurd rfl hne⟩
  ·rw [show ((opsR 11 Tryz.f95.body)[10]?).bind (fun o:Oper=>o.guard)=some (6,true) from by kernel_rfl] at h
   obtain ⟨rfl,rfl⟩:6=g∧true=b:=by simpa using h
   exact .inl ⟨true,rfl,fun hne=>absurd rfl hne⟩
  ·rw [show ((opsR 11 Tryz.f95.body)[11]?).bind (fun o:Oper=>o.guard)=some (6,true) from by kernel_rfl] at h
   obtain ⟨rfl,rfl⟩:6=g∧true=b:=by simpa using h
   exact .inl ⟨true,rfl,fun hne=>absurd rfl hne⟩
  ·rw [show ((opsR 11 Tryz.f95.body)[12]?).bind (fun o:Oper=>o.guard)=some (6,true) from by kernel_rfl] at h
   obtain ⟨rfl,rfl⟩:6=g∧true=b:=by simpa using h
   exact .inl ⟨true,rfl,fun hne=>absurd rfl hne⟩
  ·exact absurd h (gNo (by kernel_rfl))
  ·exact absurd h (gNo (by kernel_rfl))
 ·intro i hi hgd
  rcases (by simp at hi; omega:i=0∨i=1∨i=2∨i=3∨i=4∨i=5∨i=6∨i=7∨i=8∨i=9∨i=10∨i=11∨i=12∨i=13∨i=14) with rfl | rfl | rfl | rfl | rfl | rfl | rfl | rfl | rfl | rfl | rfl | rfl | rfl | rfl | rfl
  ·refine soft (by decide) ?_
   intro o ac wa g ho hoff hv hS hdn
   exact x_load (op_is rfl ho) (by rw [((hoff 3 (by decide)).trans x3)]; exact (hc _ _ _ hS.ph).1)
  ·refine soft (by decide) ?_
   intro o ac wa g ho hoff hv hS hdn
   exact x_load (op_is rfl ho) (by rw [((hoff 10 (by decide)).trans x10)]; exact (hc _ _ _ hS.ph).2.1)
  ·intro o ac wa g K ho hd _ hoff hv hS _ _ _ hK
   refine l_callE (op_is rfl ho) (xs:=#[(inV f q la ra ca),.int .i64 0]) (by simp only [List.map_toArray,List.map_cons,List.map_nil]; rw [(hv 1 53 rfl (by kernel_rfl))]; rfl) Tryz.func78 (by kernel_rfl) rfl (hQ2 g.1 g.2 wa hS.ph) ?_
   rintro e w2 ⟨rfl,hp⟩
   exact ⟨_,rfl,by rw [hd]; exact hK g w2 ⟨hS.le,hp⟩ (fun x hx=>by have hx2:¬ x=2:=fun e=>absurd (e ▸ hx) (by decide); simp [hx2]) fun _ _ _=>rfl⟩
  ·refine soft (by decide) ?_
   intro o ac wa g ho hoff hv hS hdn
   exact x_load (op_is rfl ho) (by rw [((hoff 11 (by decide)).trans x11)]; exact (hc _ _ _ hS.ph).2.2)
  ·intro o ac wa g K ho hd _ hoff hv hS _ _ _ hK
   refine l_callE (op_is rfl ho) (xs:=#[(inV f q lb rb cb),.int .i64 0]) (by simp only [List.map_toArray,List.map_cons,List.map_nil]; rw [(hv 3 55 rfl (by kernel_rfl))]; rfl) Tryz.func78 (by kernel_rfl) rfl (hQ4 g.1 g.2 wa hS.ph) ?_
   rintro e w2 ⟨rfl,hp⟩
   exact ⟨_,rfl,by rw [hd]; exact hK g w2 ⟨hS.le,hp⟩ (fun x hx=>by have hx2:¬ x=4:=fun e=>absurd (e ▸ hx) (by decide); simp [hx2]) fun _ _ _=>rfl⟩
  ·intro o ac wa g K ho hd _ hoff hv hS hpre hnd hlater hK
   have h1:g.1≤0:=by have:=hnd (by simp); simpa [doneP,List.idxOf,List.findIdx,List.findIdx.go] using this
   have hg:g.1=0:=by omega
   obtain ⟨g1,u⟩:=g
   simp only at hg
   subst hg
   refine l_callE (op_is rfl ho) (xs:=#[(dfV tb fy cy),(spV la f (f+2 ^ qq - 1) .nilIface),(spV lb f (f+2 ^ qq - 1) .nilIface)]) (by simp only [List.map_toArray,List.map_cons,List.map_nil]; rw [(hv 0 52 rfl (by kernel_rfl)),(hv 2 54 rfl (by kernel_rfl)),(hv 4 56 rfl (by kernel_rfl))]; rfl) Tryz.func38 (by kernel_rfl) rfl (hL0 u wa hS.ph) ?_
   rintro e w' ⟨rfl,hp⟩
   refine ⟨_,rfl,?_⟩
   rw [hd]
   refine hK (1,u) w' ⟨by simp,hp⟩ (by intro x hx; simp at hx; rcases hx with rfl | rfl <;> simp [doneP,List.idxOf,List.findIdx,List.findIdx.go]) fun j hj hr=>?_
   match j,hr with
   | 0,_=>rfl
   | 1,_=>rfl
   | 2,_=>rfl
   | 3,_=>rfl
   | 4,_=>rfl
   | 5,_=>exact absurd rfl hj
   | 6,_=>rfl
   | 7,_=>rfl
   | 8,_=>rfl
   | 9,_=>rfl
   | 10,_=>rfl
   | 11,_=>rfl
   | 12,_=>rfl
   | 13,_=>rfl
   | 14,_=>rfl
   | q+15,_=>rfl
  ·refine soft (by decide) ?_
   intro o ac wa g ho hoff hv hS hdn
   exact (x_move (op_is rfl ho)).trans (by rw [(hv 5 57 rfl (by kernel_rfl))]; rfl)
  ·refine soft (by decide) ?_
   intro o ac wa g ho hoff hv hS hdn
   exact x_load (op_is rfl ho) (by rw [((hoff 3 (by decide)).trans x3)]; exact (hc _ _ _ hS.ph).1)
  ·refine soft (by decide) ?_
   intro o ac wa g ho hoff hv hS hdn
   exact x_load (op_is rfl ho) (by rw [((hoff 10 (by decide)).trans x10)]; exact (hc _ _ _ hS.ph).2.1)
  ·intro o ac wa g K ho hd _ hoff hv hS _ _ _ hK
   refine l_callE (op_is rfl ho) (xs:=#[(inV f q la ra ca),.int .i64 1]) (by simp only [List.map_toArray,List.map_cons,List.map_nil]; rw [(hv 8 60 rfl (by kernel_rfl))]; rfl) Tryz.func78 (by kernel_rfl) rfl (hQ9 g.1 g.2 wa hS.ph) ?_
   rintro e w2 ⟨rfl,hp⟩
   exact ⟨_,rfl,by rw [hd]; exact hK g w2 ⟨hS.le,hp⟩ (fun x hx=>by have hx2:¬ x=9:=fun e=>absurd (e ▸ hx) (by decide); simp [hx2]) fun _ _ _=>rfl⟩
  ·refine soft (by decide) ?_
   intro o ac wa g ho hoff hv hS hdn
   exact x_load (op_is rfl ho) (by rw [((hoff 11 (by decide)).trans x11)]; exact (hc _ _ _ hS.ph).2.2)
  ·intro o ac wa g K ho hd _ hoff hv hS _ _ _ hK
   refine l_callE (op_is rfl ho) (xs:=#[(inV f q lb rb cb),.int .i64 1]) (by simp only [List.map_toArray,List.map_cons,List.map_nil]; rw [(hv 10 62 rfl (by kernel_rfl))]; rfl) Tryz.func78 (by kernel_rfl) rfl (hQ11 g.1 g.2 wa hS.ph) ?_
   rintro e w2 ⟨rfl,hp⟩
   exact ⟨_,rfl,by rw [hd]; exact hK g w2 ⟨hS.le,hp⟩ (fun x hx=>by have hx2:¬ x=11:=fun e=>absurd (e ▸ hx) (by decide); simp [hx2]) fun _ _ _=>rfl⟩
  ·intro o ac wa g K ho hd _ hoff hv hS hpre hnd hlater hK
   have h1:g.1≤1:=by have:=hnd (by simp); simpa [doneP,List.idxOf,List.findIdx,List.findIdx.go] using this
   have h2:1≤g.1:=by have:=hpre 5 (by simp) (by kernel_rfl); simp [doneP,List.idxOf,List.findIdx,List.findIdx.go] at this; omega
   have hg:g.1=1:=by omega
   obtain ⟨g1,u⟩:=g
   simp only at hg
   subst hg
   refine l_callE (op_is rfl ho) (xs:=#[(dfV tb fy cy),(spV ra (f+2 ^ qq) (f+2 * 2 ^ qq - 1) .nilIface),(spV rb (f+2 ^ qq) (f+2 * 2 ^ qq - 1) .nilIface)]) (by simp only [List.map_toArray,List.map_cons,List.map_nil]; rw [(hv 7 59 rfl (by kernel_rfl)),(hv 9 61 rfl (by kernel_rfl)),(hv 11 63 rfl (by kernel_rfl))]; rfl) Tryz.func38 (by kernel_rfl) rfl (hL1 u wa hS.ph) ?_
   rintro e w' ⟨rfl,hp⟩
   refine ⟨_,rfl,?_⟩
   rw [hd]
   refine hK (2,u) w' ⟨by simp,hp⟩ (by intro x hx; simp at hx; rcases hx with rfl | rfl <;> simp [doneP,List.idxOf,List.findIdx,List.findIdx.go]) fun j hj hr=>?_
   match j,hr with
   | 0,_=>rfl
   | 1,_=>rfl
   | 2,_=>rfl
   | 3,_=>rfl
   | 4,_=>rfl
   | 5,_=>rfl
   | 6,_=>rfl
   | 7,_=>rfl
   | 8,_=>rfl
   | 9,_=>rfl
   | 10,_=>rfl
   | 11,_=>rfl
   | 12,_=>exact absurd rfl hj
   | 13,_=>rfl
   | 14,_=>rfl
   | q+15,_=>rfl
  ·refine soft (by decide) ?_
   intro o ac wa g ho hoff hv hS hdn
   exact (x_pickG (op_is rfl ho) ((hv 6 58 rfl (by kernel_rfl)))).trans (by rw [if_pos rfl,(hv 12 64 rfl (by kernel_rfl))]; rfl)
  ·refine soft (by decide) ?_
   intro o ac wa g ho hoff hv hS hdn
   exact (x_assign (op_is rfl ho)).trans (by rw [(hv 13 65 rfl (by kernel_rfl))]; rfl)
 ·intro a' w' g hsz hdf hoff hS hdn hval
  obtain ⟨g1,u⟩:=g
  have hg:g1=2:=by have h:=hdn 12 (by simp); simp [doneP,List.idxOf,List.findIdx,List.findIdx.go] at h; have:=hS.le; simp only at this; omega
  subst hg
  exact hEnd a' w' u hsz hdf (fun s hs=>ev_same (hoff s hs)) (hval 14 6 rfl) hS.ph
def halved_r5V (tb qq:Nat) (of_ f q l r c:Int) (fy fm:FuncId) (cy cm:Array Value):Nat × (Nat→Value)→Nat→Value:=fun _ j=>match j with | 0=>(Value.func (.func fm) #[] cm) | 1=>(inV f q l r c) | 2=>(spV l f (f+2 ^ qq - 1) .nilIface) | 3=>(Value.bool true) | 4=>(Value.bool true) | 5=>(dfV tb fy cy) | 6=>(inV f q l r c) | 7=>(spV r (f+2 ^ qq) (f+2 * 2 ^ qq - 1) .nilIface) | 8=>(Value.int IntKind.i64 of_) | 9=>(Value.bool true) | 10=>(Value.bool true) | 11=>(Value.bool true) | _=>undef
set_option maxRecDepth 100000 in
set_option maxHeartbeats 1600000 in
theorem halved_r5 {db nb tb qq:Nat} {of_ f q l r c:Int} {fy fm:FuncId} {cy cm:Array Value} {Ph:Nat→(Nat→Value)→World→Prop} {K:Act→World→Prop} {Q:Exit→Act→World→Prop} {a0:Act} {w:World} (hs:a0.tmps.size=47) (x2:a0.eval (.tmp 2)=.int .i64 of_) (x4:a0.eval (.tmp 4)=.func (.func fm) #[] cm) (x5:a0.eval (.tmp 5)=pa db 0) (x11:a0.eval (.tmp 11)=pa nb 0) (hc:∀ g u x,Ph g u x→(Instr.loadAt 113 (pa db 0)).run Tryz.prog x=.ok (dfV tb fy cy) x∧(Instr.loadAt 151 (pa nb 0)).run Tryz.prog x=.ok (inV f q l r c) x) (hA:Ph 0 (fun _=>undef) w.drew)
  (hQ2:∀ g u x,Ph g u x→Calls Tryz.prog 78 #[(inV f q l r c),.int .i64 0] x fun e w'=>e=.returned (spV l f (f+2 ^ qq - 1) .nilIface)∧Ph g u w')
  (hQ7:∀ g u x,Ph g u x→Calls Tryz.prog 78 #[(inV f q l r c),.int .i64 1] x fun e w'=>e=.returned (spV r (f+2 ^ qq) (f+2 * 2 ^ qq - 1) .nilIface)∧Ph g u w')
  (hEnt:Enterable Tryz.prog fm) (hL0:∀ u x,Ph 0 u x→Calls Tryz.prog fm (#[(spV l f (f+2 ^ qq - 1) .nilIface)] ++ cm) x fun e w'=>e=.returned (Value.bool true)∧Ph 1 u w')
  (hL1:∀ u x,Ph 1 u x→Calls Tryz.prog 67 #[(dfV tb fy cy),(spV r (f+2 ^ qq) (f+2 * 2 ^ qq - 1) .nilIface),.int .i64 of_] x fun e w'=>e=.returned (Value.bool true)∧Ph 2 u w')
  (hEnd:∀ a' x u,a'.tmps.size=a0.tmps.size→a'.defers=a0.defers→(∀ s,some s∉([some 25,some 26,some 27,some 28,some 29,some 30,some 31,some 32,some 33,some 34,some 35,some 10]:List (Option Nat))→a'.eval (.tmp s)=a0.eval (.tmp s))→a'.eval (.tmp 10)=(Value.bool true)→Ph 2 u x→K a' x):(Code.region 5 (opsR 5 Tryz.f96.body) true).wp Tryz.prog (Exit.then K Q) a0 w:=by
 refine wp_region_ghost3 (G:=Nat × (Nat→Value)) (by kernel_rfl) [some 25,some 26,some 27,some 28,some 29,some 30,some 31,some 32,some 33,some 34,some 35,some 10] (by rw [hs]; kernel_rfl) (halved_r5V tb qq of_ f q l r c fy fm cy cm) [3,9] ?_ (doneP [3,9]) (StP 2 Ph) ((0,fun _=>undef)) (⟨Nat.zero_le _,hA⟩) (by intro x hx; simp at hx; rcases hx with rfl | rfl <;> rfl) (by decide) ?_ ?_
 ·intro i g b h γ
  have hi:i < 12:=by
   apply Classical.byContradiction
   intro hn
   rw [show (opsR 5 Tryz.f96.body)[i]?=none from Array.getElem?_eq_none (by have:(opsR 5 Tryz.f96.body).size=12:=(by kernel_rfl); omega)] at h
   cases h
  rcases (by omega:i=0∨i=1∨i=2∨i=3∨i=4∨i=5∨i=6∨i=7∨i=8∨i=9∨i=10∨i=11) with rfl | rfl | rfl | rfl | rfl | rfl | rfl | rfl | rfl | rfl | rfl | rfl
  ·exact absurd h (gNo (by kernel_rfl))
  ·exact absurd h (gNo (by kernel_rfl))
  ·exact absurd h (gNo (by kernel_rfl))
  ·exact absurd h (gNo (by kernel_rfl))
  ·exact absurd h (gNo (by kernel_rfl))
  ·rw [show ((opsR 5 Tryz.f96.body)[5]?).bind (fun o:Oper=>o.guard)=some (4,true) from by kernel_rfl] at h
   obtain ⟨rfl,rfl⟩:4=g∧true=b:=by simpa using h
   exact .inl ⟨true,rfl,fun hne=>absurd rfl hne⟩
  ·rw [show ((opsR 5 Tryz.f96.body)[6]?).bind (fun o:Oper=>o.guard)=some (4,true) from by kernel_rfl] at h
   obtain ⟨rfl,rfl⟩:4=g∧true=b:=by simpa using h
   exact .inl ⟨true,rfl,fun hne=>absurd rfl hne⟩
  ·rw [show ((opsR 5 Tryz.f96.body)[7]?).bind (fun o:Oper=>o.guard)=some (4,true) from by kernel_rfl] at h
   obtain ⟨rfl,rfl⟩:4=g∧true=b:=by simpa using h
   exact .inl ⟨true,rfl,fun hne=>absurd rfl hne⟩
  ·rw [show ((opsR 5 Tryz.f96.body)[8]?).bind (fun o:Oper=>o.guard)=some (4,true) from by kernel_rfl] at h
   obtain ⟨rfl,rfl⟩:4=g∧true=b:=by simpa using h
   exact .inl ⟨true,rfl,fun hne=>absurd rfl hne⟩
  ·rw [show ((opsR 5 Tryz.f96.body)[9]?).bind (fun o:Oper=>o.guard)=some (4,true) from by kernel_rfl] at h
   obtain ⟨rfl,rfl⟩:4=g∧true=b:=by simpa using h
   exact .inl ⟨true,rfl,fun hne=>absurd rfl hne⟩
  ·exact absurd h (gNo (by kernel_rfl))
  ·exact absurd h (gNo (by kernel_rfl))
 ·intro i hi hgd
  rcases (by simp at hi; omega:i=0∨i=1∨i=2∨i=3∨i=4∨i=5∨i=6∨i=7∨i=8∨i=9∨i=10∨i=11) with rfl | rfl | rfl | rfl | rfl | rfl | rfl | rfl | rfl | rfl | rfl | rfl
  ·refine soft (by decide) ?_
   intro o ac wa g ho hoff hv hS hdn
   exact (x_move (op_is rfl ho)).trans (by rw [((hoff 4 (by decide)).trans x4)]; rfl)
  ·refine soft (by decide) ?_
   intro o ac wa g ho hoff hv hS hdn
   exact x_load (op_is rfl ho) (by rw [((hoff 11 (by decide)).trans x11)]; exact (hc _ _ _ hS.ph).2)
  ·intro o ac wa g K ho hd _ hoff hv hS _ _ _ hK
   refine l_callE (op_is rfl ho) (xs:=#[(inV f q l r c),.int .i64 0]) (by simp only [List.map_toArray,List.map_cons,List.map_nil]; rw [(hv 1 26 rfl (by kernel_rfl))]; rfl) Tryz.func78 (by kernel_rfl) rfl (hQ2 g.1 g.2 wa hS.ph) ?_
   rintro e w2 ⟨rfl,hp⟩
   exact ⟨_,rfl,by rw [hd]; exact hK g w2 ⟨hS.le,hp⟩ (fun x hx=>by have hx2:¬ x=2:=fun e=>absurd (e ▸ hx) (by decide); simp [hx2]) fun _ _ _=>rfl⟩
  ·intro o ac wa g K ho hd _ hoff hv hS hpre hnd hlater hK
   have h1:g.1≤0:=by have:=hnd (by simp); simpa [doneP,List.idxOf,List.findIdx,List.findIdx.go] using this
   have hg:g.1=0:=by omega
   obtain ⟨g1,u⟩:=g
   simp only at hg
   subst hg
   refine l_callvE (op_is rfl ho) ((hv 0 25 rfl (by kernel_rfl))) (xs:=#[(spV l f (f+2 ^ qq - 1) .nilIface)]) (by simp only [List.map_toArray,List.map_cons,List.map_nil]; rw [(hv 2 27 rfl (by kernel_rfl))]; rfl) hEnt (hL0 u wa hS.ph) ?_
   rintro e w' ⟨rfl,hp⟩
   refine ⟨_,rfl,?_⟩
   rw [hd]
   refine hK (1,u) w' ⟨by simp,hp⟩ (by intro x hx; simp at hx; rcases hx with rfl | rfl <;> simp [doneP,List.idxOf,List.findIdx,List.findIdx.go]) fun j hj hr=>?_
   match j,hr with
   | 0,_=>rfl
   | 1,_=>rfl
   | 2,_=>rfl
   | 3,_=>exact absurd rfl hj
   | 4,_=>rfl
   | 5,_=>rfl
   | 6,_=>rfl
   | 7,_=>rfl
   | 8,_=>rfl
   | 9,_=>rfl
   | 10,_=>rfl
   | 11,_=>rfl
   | q+12,_=>rfl
  ·refine soft (by decide) ?_
   intro o ac wa g ho hoff hv hS hdn
   exact (x_move (op_is rfl ho)).trans (by rw [(hv 3 28 rfl (by kernel_rfl))]; rfl)
  ·refine soft (by decide) ?_
   intro o ac wa g ho hoff hv hS hdn
   exact x_load (op_is rfl ho) (by rw [((hoff 5 (by decide)).trans x5)]; exact (hc _ _ _ hS.ph).1)
  ·refine soft (by decide) ?_
   intro o ac wa g ho hoff hv hS hdn
   exact x_load (op_is rfl ho) (by rw [((hoff 11 (by decide)).trans x11)]; exact (hc _ _ _ hS.ph).2)
  ·intro o ac wa g K ho hd _ hoff hv hS _ _ _ hK
   refine l_callE (op_is rfl ho) (xs:=#[(inV f q l r c),.int .i64 1]) (by simp only [List.map_toArray,List.map_cons,List.map_nil]; rw [(hv 6 31 rfl (by kernel_rfl))]; rfl) Tryz.func78 (by kernel_rfl) rfl (hQ7 g.1 g.2 wa hS.ph) ?_
   rintro e w2 ⟨rfl,hp⟩
   exact ⟨_,rfl,by rw [hd]; exact hK g w2 ⟨hS.le,hp⟩ (fun x hx=>by have hx2:¬ x=7:=fun e=>absurd (e ▸ hx) (by decide); simp [hx2]) fun _ _ _=>rfl⟩
  ·refine soft (by decide) ?_
   intro o ac wa g ho hoff hv hS hdn
   exact (x_move (op_is rfl ho)).trans (by rw [((hoff 2 (by decide)).trans x2)]; rfl)
  ·intro o ac wa g K ho hd _ hoff hv hS hpre hnd hlater hK
   have h1:g.1≤1:=by have:=hnd (by simp); simpa [doneP,List.idxOf,List.findIdx,List.findIdx.go] using this
   have h2:1≤g.1:=by have:=hpre 3 (by simp) (by kernel_rfl); simp [doneP,List.idxOf,List.findIdx,List.findIdx.go] at this; omega
   have hg:g.1=1:=by omega
   obtain ⟨g1,u⟩:=g
   simp only at hg
   subst hg
   refine l_callE (op_is rfl ho) (xs:=#[(dfV tb fy cy),(spV r (f+2 ^ qq) (f+2 * 2 ^ qq - 1) .nilIface),.int .i64 of_]) (by simp only [List.map_toArray,List.map_cons,List.map_nil]; rw [(hv 5 30 rfl (by kernel_rfl)),(hv 7 32 rfl (by kernel_rfl)),(hv 8 33 rfl (by kernel_rfl))]; rfl) Tryz.func67 (by kernel_rfl) rfl (hL1 u wa hS.ph) ?_
   rintro e w' ⟨rfl,hp⟩
   refine ⟨_,rfl,?_⟩
   rw [hd]
   refine hK (2,u) w' ⟨by simp,hp⟩ (by intro x hx; simp at hx; rcases hx with rfl | rfl <;> simp [doneP,List.idxOf,List.findIdx,List.findIdx.go]) fun j hj hr=>?_
   match j,hr with
   | 0,_=>rfl
   | 1,_=>rfl
   | 2,_=>rfl
   | 3,_=>rfl
   | 4,_=>rfl
   | 5,_=>rfl
   | 6,_=>rfl
   | 7,_=>rfl
   | 8,_=>rfl
   | 9,_=>exact absurd rfl hj
   | 10,_=>rfl
   | 11,_=>rfl
   | q+12,_=>rfl
  ·refine soft (by decide) ?_
   intro o ac wa g ho hoff hv hS hdn
   exact (x_pickG (op_is rfl ho) ((hv 4 29 rfl (by kernel_rfl)))).trans (by rw [if_pos rfl,(hv 9 34 rfl (by kernel_rfl))]; rfl)
  ·refine soft (by decide) ?_
   intro o ac wa g ho hoff hv hS hdn
   exact (x_assign (op_is rfl ho)).trans (by rw [(hv 10 35 rfl (by kernel_rfl))]; rfl)
 ·intro a' w' g hsz hdf hoff hS hdn hval
  obtain ⟨g1,u⟩:=g
  have hg:g1=2:=by have h:=hdn 9 (by simp); simp [doneP,List.idxOf,List.findIdx,List.findIdx.go] at h; have:=hS.le; simp only at this; omega
  subst hg
  exact hEnd a' w' u hsz hdf (fun s hs=>ev_same (hoff s hs)) (hval 11 10 rfl) hS.ph
def halved_r6V (tb qq:Nat) (of_ f q l r c:Int) (fy fm:FuncId) (cy cm:Array Value):Nat × (Nat→Value)→Nat→Value:=fun _ j=>match j with | 0=>(dfV tb fy cy) | 1=>(inV f q l r c) | 2=>(spV l f (f+2 ^ qq - 1) .nilIface) | 3=>(Value.int IntKind.i64 of_) | 4=>(Value.bool true) | 5=>(Value.bool true) | 6=>(Value.func (.func fm) #[] cm) | 7=>(inV f q l r c) | 8=>(spV r (f+2 ^ qq) (f+2 * 2 ^ qq - 1) .nilIface) | 9=>(Value.bool true) | 10=>(Value.bool true) | 11=>(Value.bool true) | _=>undef
set_option maxRecDepth 100000 in
set_option maxHeartbeats 1600000 in
theorem halved_r6 {db nb tb qq:Nat} {of_ f q l r c:Int} {fy fm:FuncId} {cy cm:Array Value} {Ph:Nat→(Nat→Value)→World→Prop} {K:Act→World→Prop} {Q:Exit→Act→World→Prop} {a0:Act} {w:World} (hs:a0.tmps.size=47) (x2:a0.eval (.tmp 2)=.int .i64 of_) (x4:a0.eval (.tmp 4)=.func (.func fm) #[] cm) (x5:a0.eval (.tmp 5)=pa db 0) (x11:a0.eval (.tmp 11)=pa nb 0) (hc:∀ g u x,Ph g u x→(Instr.loadAt 113 (pa db 0)).run Tryz.prog x=.ok (dfV tb fy cy) x∧(Instr.loadAt 151 (pa nb 0)).run Tryz.prog x=.ok (inV f q l r c) x) (hA:Ph 0 (fun _=>undef) w.drew)
  (hQ2:∀ g u x,Ph g u x→Calls Tryz.prog 78 #[(inV f q l r c),.int .i64 0] x fun e w'=>e=.returned (spV l f (f+2 ^ qq - 1) .nilIface)∧Ph g u w')
  (hQ8:∀ g u x,Ph g u x→Calls Tryz.prog 78 #[(inV f q l r c),.int .i64 1] x fun e w'=>e=.returned (spV r (f+2 ^ qq) (f+2 * 2 ^ qq - 1) .nilIface)∧Ph g u w')
  (hL0:∀ u x,Ph 0 u x→Calls Tryz.prog 67 #[(dfV tb fy cy),(spV l f (f+2 ^ qq - 1) .nilIface),.int .i64 of_] x fun e w'=>e=.returned (Value.bool true)∧Ph 1 u w')
  (hEnt:Enterable Tryz.prog fm) (hL1:∀ u x,Ph 1 u x→Calls Tryz.prog fm (#[(spV r (f+2 ^ qq) (f+2 * 2 ^ qq - 1) .nilIface)] ++ cm) x fun e w'=>e=.returned (Value.bool true)∧Ph 2 u w')
  (hEnd:∀ a' x u,a'.tmps.size=a0.tmps.size→a'.defers=a0.defers→(∀ s,some s∉([some 36,some 37,some 38,some 39,some 40,some 41,some 42,some 43,some 44,some 45,some 46,some 10]:List (Option Nat))→a'.eval (.tmp s)=a0.eval (.tmp s))→a'.eval (.tmp 10)=(Value.bool true)→Ph 2 u x→K a' x):(Code.region 6 (opsR 6 Tryz.f96.body) true).wp Tryz.prog (Exit.then K Q) a0 w:=by
 refine wp_region_ghost3 (G:=Nat × (Nat→Value)) (by kernel_rfl) [some 36,some 37,some 38,some 39,some 40,some 41,some 42,some 43,some 44,some 45,some 46,some 10] (by rw [hs]; kernel_rfl) (halved_r6V tb qq of_ f q l r c fy fm cy cm) [4,9] ?_ (doneP [4,9]) (StP 2 Ph) ((0,fun _=>undef)) (⟨Nat.zero_le _,hA⟩) (by intro x hx; simp at hx; rcases hx with rfl | rfl <;> rfl) (by decide) ?_ ?_
 ·intro i g b h γ
  have hi:i < 12:=by
   apply Classical.byContradiction
   intro hn
   rw [show (opsR 6 Tryz.f96.body)[i]?=none from Array.getElem?_eq_none (by have:(opsR 6 Tryz.f96.body).size=12:=(by kernel_rfl); omega)] at h
   cases h
  rcases (by omega:i=0∨i=1∨i=2∨i=3∨i=4∨i=5∨i=6∨i=7∨i=8∨i=9∨i=10∨i=11) with rfl | rfl | rfl | rfl | rfl | rfl | rfl | rfl | rfl | rfl | rfl | rfl
  ·exact absurd h (gNo (by kernel_rfl))
  ·exact absurd h (gNo (by kernel_rfl))
  ·exact absurd h (gNo (by kernel_rfl))
  ·exact absurd h (gNo (by kernel_rfl))
  ·exact absurd h (gNo (by kernel_rfl))
  ·exact absurd h (gNo (by kernel_rfl))
  ·rw [show ((opsR 6 Tryz.f96.body)[6]?).bind (fun o:Oper=>o.guard)=some (5,true) from by kernel_rfl] at h
   obtain ⟨rfl,rfl⟩:5=g∧true=b:=by simpa using h
   exact .inl ⟨true,rfl,fun hne=>absurd rfl hne⟩
  ·rw [show ((opsR 6 Tryz.f96.body)[7]?).bind (fun o:Oper=>o.guard)=some (5,true) from by kernel_rfl] at h
   obtain ⟨rfl,rfl⟩:5=g∧true=b:=by simpa using h
   exact .inl ⟨true,rfl,fun hne=>absurd rfl hne⟩
  ·rw [show ((opsR 6 Tryz.f96.body)[8]?).bind (fun o:Oper=>o.guard)=some (5,true) from by kernel_rfl] at h
   obtain ⟨rfl,rfl⟩:5=g∧true=b:=by simpa using h
   exact .inl ⟨true,rfl,fun hne=>absurd rfl hne⟩
  ·rw [show ((opsR 6 Tryz.f96.body)[9]?).bind (fun o:Oper=>o.guard)=some (5,true) from by kernel_rfl] at h
   obtain ⟨rfl,rfl⟩:5=g∧true=b:=by simpa using h
   exact .inl ⟨true,rfl,fun hne=>absurd rfl hne⟩
  ·exact absurd h (gNo (by kernel_rfl))
  ·exact absurd h (gNo (by kernel_rfl))
 ·intro i hi hgd
  rcases (by simp at hi; omega:i=0∨i=1∨i=2∨i=3∨i=4∨i=5∨i=6∨i=7∨i=8∨i=9∨i=10∨i=11) with rfl | rfl | rfl | rfl | rfl | rfl | rfl | rfl | rfl | rfl | rfl | rfl
  ·refine soft (by decide) ?_
   intro o ac wa g ho hoff hv hS hdn
   exact x_load (op_is rfl ho) (by rw [((hoff 5 (by decide)).trans x5)]; exact (hc _ _ _ hS.ph).1)
  ·refine soft (by decide) ?_
   intro o ac wa g ho hoff hv hS hdn
   exact x_load (op_is rfl ho) (by rw [((hoff 11 (by decide)).trans x11)]; exact (hc _ _ _ hS.ph).2)
  ·intro o ac wa g K ho hd _ hoff hv hS _ _ _ hK
   refine l_callE (op_is rfl ho) (xs:=#[(inV f q l r c),.int .i64 0]) (by simp only [List.map_toArray,List.map_cons,List.map_nil]; rw [(hv 1 37 rfl (by kernel_rfl))]; rfl) Tryz.func78 (by kernel_rfl) rfl (hQ2 g.1 g.2 wa hS.ph) ?_
   rintro e w2 ⟨rfl,hp⟩
   exact ⟨_,rfl,by rw [hd]; exact hK g w2 ⟨hS.le,hp⟩ (fun x hx=>by have hx2:¬ x=2:=fun e=>absurd (e ▸ hx) (by decide); simp [hx2]) fun _ _ _=>rfl⟩
  ·refine soft (by decide) ?_
   intro o ac wa g ho hoff hv hS hdn
   exact (x_move (op_is rfl ho)).trans (by rw [((hoff 2 (by decide)).trans x2)]; rfl)
  ·intro o ac wa g K ho hd _ hoff hv hS hpre hnd hlater hK
   have h1:g.1≤0:=by have:=hnd (by simp); simpa [doneP,List.idxOf,List.findIdx,List.findIdx.go] using this
   have hg:g.1=0:=by omega
   obtain ⟨g1,u⟩:=g
   simp only at hg
   subst hg
   refine l_callE (op_is rfl ho) (xs:=#[(dfV tb fy cy),(spV l f (f+2 ^ qq - 1) .nilIface),.int .i64 of_]) (by simp only [List.map_toArray,List.map_cons,List.map_nil]; rw [(hv 0 36 rfl (by kernel_rfl)),(hv 2 38 rfl (by kernel_rfl)),(hv 3 39 rfl (by kernel_rfl))]; rfl) Tryz.func67 (by kernel_rfl) rfl (hL0 u wa hS.ph) ?_
   rintro e w' ⟨rfl,hp⟩
   refine ⟨_,rfl,?_⟩
   rw [hd]
   refine hK (1,u) w' ⟨by simp,hp⟩ (by intro x hx; simp at hx; rcases hx with rfl | rfl <;> simp [doneP,List.idxOf,List.findIdx,List.findIdx.go]) fun j hj hr=>?_
   match j,hr with
   | 0,_=>rfl
   | 1,_=>rfl
   | 2,_=>rfl
   | 3,_=>rfl
   | 4,_=>exact absurd rfl hj
   | 5,_=>rfl
   | 6,_=>rfl
   | 7,_=>rfl
   | 8,_=>rfl
   | 9,_=>rfl
   | 10,_=>rfl
   | 11,_=>rfl
   | q+12,_=>rfl
  ·refine soft (by decide) ?_
   intro o ac wa g ho hoff hv hS hdn
   exact (x_move (op_is rfl ho)).trans (by rw [(hv 4 40 rfl (by kernel_rfl))]; rfl)
  ·refine soft (by decide) ?_
   intro o ac wa g ho hoff hv hS hdn
   exact (x_move (op_is rfl ho)).trans (by rw [((hoff 4 (by decide)).trans x4)]; rfl)
  ·refine soft (by decide) ?_
   intro o ac wa g ho hoff hv hS hdn
   exact x_load (op_is rfl ho) (by rw [((hoff 11 (by decide)).trans x11)]; exact (hc _ _ _ hS.ph).2)
  ·intro o ac wa g K ho hd _ hoff hv hS _ _ _ hK
   refine l_callE (op_is rfl ho) (xs:=#[(inV f q l r c),.int .i64 1]) (by simp only [List.map_toArray,List.map_cons,List.map_nil]; rw [(hv 7 43 rfl (by kernel_rfl))]; rfl) Tryz.func78 (by kernel_rfl) rfl (hQ8 g.1 g.2 wa hS.ph) ?_
   rintro e w2 ⟨rfl,hp⟩
   exact ⟨_,rfl,by rw [hd]; exact hK g w2 ⟨hS.le,hp⟩ (fun x hx=>by have hx2:¬ x=8:=fun e=>absurd (e ▸ hx) (by decide); simp [hx2]) fun _ _ _=>rfl⟩
  ·intro o ac wa g K ho hd _ hoff hv hS hpre hnd hlater hK
   have h1:g.1≤1:=by have:=hnd (by simp); simpa [doneP,List.idxOf,List.findIdx,List.findIdx.go] using this
   have h2:1≤g.1:=by have:=hpre 4 (by simp) (by kernel_rfl); simp [doneP,List.idxOf,List.findIdx,List.findIdx.go] at this; omega
   have hg:g.1=1:=by omega
   obtain ⟨g1,u⟩:=g
   simp only at hg
   subst hg
   refine l_callvE (op_is rfl ho) ((hv 6 42 rfl (by kernel_rfl))) (xs:=#[(spV r (f+2 ^ qq) (f+2 * 2 ^ qq - 1) .nilIface)]) (by simp only [List.map_toArray,List.map_cons,List.map_nil]; rw [(hv 8 44 rfl (by kernel_rfl))]; rfl) hEnt (hL1 u wa hS.ph) ?_
   rintro e w' ⟨rfl,hp⟩
   refine ⟨_,rfl,?_⟩
   rw [hd]
   refine hK (2,u) w' ⟨by simp,hp⟩ (by intro x hx; simp at hx; rcases hx with rfl | rfl <;> simp [doneP,List.idxOf,List.findIdx,List.findIdx.go]) fun j hj hr=>?_
   match j,hr with
   | 0,_=>rfl
   | 1,_=>rfl
   | 2,_=>rfl
   | 3,_=>rfl
   | 4,_=>rfl
   | 5,_=>rfl
   | 6,_=>rfl
   | 7,_=>rfl
   | 8,_=>rfl
   | 9,_=>exact absurd rfl hj
   | 10,_=>rfl
   | 11,_=>rfl
   | q+12,_=>rfl
  ·refine soft (by decide) ?_
   intro o ac wa g ho hoff hv hS hdn
   exact (x_pickG (op_is rfl ho) ((hv 5 41 rfl (by kernel_rfl)))).trans (by rw [if_pos rfl,(hv 9 45 rfl (by kernel_rfl))]; rfl)
  ·refine soft (by decide) ?_
   intro o ac wa g ho hoff hv hS hdn
   exact (x_assign (op_is rfl ho)).trans (by rw [(hv 10 46 rfl (by kernel_rfl))]; rfl)
 ·intro a' w' g hsz hdf hoff hS hdn hval
  obtain ⟨g1,u⟩:=g
  have hg:g1=2:=by have h:=hdn 9 (by simp); simp [doneP,List.idxOf,List.findIdx,List.findIdx.go] at h; have:=hS.le; simp only at this; omega
  subst hg
  exact hEnd a' w' u hsz hdf (fun s hs=>ev_same (hoff s hs)) (hval 11 10 rfl) hS.ph
def diff_r0V (tb:Nat) (ra rb:Int) (fy:FuncId) (cy:Array Value):Nat × (Nat→Value)→Nat→Value:=fun _ j=>match j with | 0=>(pa tb 0) | 1=>(Value.pointer none) | 2=>(Value.func (.func fy) #[] cy) | 3=>(dfV tb fy cy) | 4=>(Value.int IntKind.i64 ra) | 5=>(spV ra 0 4294967295 .nilIface) | 6=>(Value.int IntKind.i64 rb) | 7=>(spV rb 0 4294967295 .nilIface) | 8=>(Value.bool true) | _=>undef
set_option maxRecDepth 100000 in
set_option maxHeartbeats 1600000 in
theorem diff_r0 {b1 b2 b3 b4 tb:Nat} {ra rb:Int} {fy:FuncId} {cy:Array Value} {Ph:Nat→(Nat→Value)→World→Prop} {K:Act→World→Prop} {Q:Exit→Act→World→Prop} {a0:Act} {w:World} (hs:a0.tmps.size=15) (x0:a0.eval (.tmp 0)=.func (.func fy) #[] cy) (x1:a0.eval (.tmp 1)=pa b1 0) (x2:a0.eval (.tmp 2)=pa b2 0) (x3:a0.eval (.tmp 3)=pa b3 0) (x4:a0.eval (.tmp 4)=pa b4 0) (hc:∀ g u x,Ph g u x→x.cell? ⟨b1,0,none⟩=some (pa tb 0)∧x.cell? ⟨b2,0,none⟩=some (.pointer none)∧x.cell? ⟨b3,0,none⟩=some (.int .i64 ra)∧x.cell? ⟨b4,0,none⟩=some (.int .i64 rb)) (hA:Ph 0 (fun _=>undef) w.drew)
  (hQ5:∀ g u x,Ph g u x→Calls Tryz.prog 39 #[.int .i64 ra] x fun e w'=>e=.returned (spV ra 0 4294967295 .nilIface)∧Ph g u w')
  (hQ7:∀ g u x,Ph g u x→Calls Tryz.prog 39 #[.int .i64 rb] x fun e w'=>e=.returned (spV rb 0 4294967295 .nilIface)∧Ph g u w')
  (hL0:∀ u x,Ph 0 u x→Calls Tryz.prog 38 #[(dfV tb fy cy),(spV ra 0 4294967295 .nilIface),(spV rb 0 4294967295 .nilIface)] x fun e w'=>e=.returned (Value.bool true)∧Ph 1 u w')
  (hEnd:∀ a' x u,a'.tmps.size=a0.tmps.size→a'.defers=a0.defers→(∀ s,some s∉([some 6,some 7,some 8,some 9,some 10,some 11,some 12,some 13,some 14]:List (Option Nat))→a'.eval (.tmp s)=a0.eval (.tmp s))→ Ph 1 u x→K a' x):(Code.region 0 (opsR 0 Tryz.f37.body) true).wp Tryz.prog (Exit.then K Q) a0 w:=by
 refine wp_region_ghost3 (G:=Nat × (Nat→Value)) (by kernel_rfl) [some 6,some 7,some 8,some 9,some 10,some 11,some 12,some 13,some 14] (by rw [hs]; kernel_rfl) (diff_r0V tb ra rb fy cy) [8] ?_ (doneP [8]) (StP 1 Ph) ((0,fun _=>undef)) (⟨Nat.zero_le _,hA⟩) (by intro x hx; simp at hx; subst hx; rfl) (by decide) ?_ ?_
 ·exact fun i g b h _=>absurd h (noG (by kernel_rfl) i g b)
 ·intro i hi hgd
  rcases (by simp at hi; omega:i=0∨i=1∨i=2∨i=3∨i=4∨i=5∨i=6∨i=7∨i=8) with rfl | rfl | rfl | rfl | rfl | rfl | rfl | rfl | rfl
  ·refine soft (by decide) ?_
   intro o ac wa g ho hoff hv hS hdn
   have hc:=(hc _ _ _ hS.ph).1
   exact x_load (op_is rfl ho) (by rw [((hoff 1 (by decide)).trans x1)]; show (Instr.loadAt _ (pa _ _)).run _ _=_; unfold pa; go_simp; first | rfl | skip)
  ·refine soft (by decide) ?_
   intro o ac wa g ho hoff hv hS hdn
   have hc:=(hc _ _ _ hS.ph).2.1
   exact x_load (op_is rfl ho) (by rw [((hoff 2 (by decide)).trans x2)]; show (Instr.loadAt _ (pa _ _)).run _ _=_; unfold pa; go_simp; first | rfl | skip)
  ·refine soft (by decide) ?_
   intro o ac wa g ho hoff hv hS hdn
   exact (x_move (op_is rfl ho)).trans (by rw [((hoff 0 (by decide)).trans x0)]; rfl)
  ·refine soft (by decide) ?_
   intro o ac wa g ho hoff hv hS hdn
   exact x_build (op_is rfl ho) (qs:=#[(0,pa tb 0),(1,.pointer none),(2,.func (.func fy) #[] cy)]) (by simp only [List.map_toArray,List.map_cons,List.map_nil]; rw [(hv 0 6 rfl (by kernel_rfl)),(hv 1 7 rfl (by kernel_rfl)),(hv 2 8 rfl (by kernel_rfl))]; rfl) (by unfold pa; go_simp; rfl)
  ·refine soft (by decide) ?_
   intro o ac wa g ho hoff hv hS hdn
   have hc:=(hc _ _ _ hS.ph).2.2.1
   exact x_load (op_is rfl ho) (by rw [((hoff 3 (by decide)).trans x3)]; show (Instr.loadAt _ (pa _ _)).run _ _=_; unfold pa; go_simp; first | rfl | skip)
  ·intro o ac wa g K ho hd _ hoff hv hS _ _ _ hK
   refine l_callE (op_is rfl ho) (xs:=#[.int .i64 ra]) (by simp only [List.map_toArray,List.map_cons,List.map_nil]; rw [(hv 4 10 rfl (by kernel_rfl))]; rfl) Tryz.func39 (by kernel_rfl) rfl (hQ5 g.1 g.2 wa hS.ph) ?_
   rintro e w2 ⟨rfl,hp⟩
   exact ⟨_,rfl,by rw [hd]; exact hK g w2 ⟨hS.le,hp⟩ (fun x hx=>by have hx2:¬ x=5:=fun e=>absurd (e ▸ hx) (by decide); simp [hx2]) fun _ _ _=>rfl⟩
  ·refine soft (by decide) ?_
   intro o ac wa g ho hoff hv hS hdn
   have hc:=(hc _ _ _ hS.ph).2.2.2
   exact x_load (op_is rfl ho) (by rw [((hoff 4 (by decide)).trans x4)]; show (Instr.loadAt _ (pa _ _)).run _ _=_; unfold pa; go_simp; first | rfl | skip)
  ·intro o ac wa g K ho hd _ hoff hv hS _ _ _ hK
   refine l_callE (op_is rfl ho) (xs:=#[.int .i64 rb]) (by simp only [List.map_toArray,List.map_cons,List.map_nil]; rw [(hv 6 12 rfl (by kernel_rfl))]; rfl) Tryz.func39 (by kernel_rfl) rfl (hQ7 g.1 g.2 wa hS.ph) ?_
   rintro e w2 ⟨rfl,hp⟩
   exact ⟨_,rfl,by rw [hd]; exact hK g w2 ⟨hS.le,hp⟩ (fun x hx=>by have hx2:¬ x=7:=fun e=>absurd (e ▸ hx) (by decide); simp [hx2]) fun _ _ _=>rfl⟩
  ·intro o ac wa g K ho hd _ hoff hv hS hpre hnd hlater hK
   have h1:g.1≤0:=by have:=hnd (by simp); simpa [doneP,List.idxOf,List.findIdx,List.findIdx.go] using this
   have hg:g.1=0:=by omega
   obtain ⟨g1,u⟩:=g
   simp only at hg
   subst hg
   refine l_callE (op_is rfl ho) (xs:=#[(dfV tb fy cy),(spV ra 0 4294967295 .nilIface),(spV rb 0 4294967295 .nilIface)]) (by simp only [List.map_toArray,List.map_cons,List.map_nil]; rw [(hv 3 9 rfl (by kernel_rfl)),(hv 5 11 rfl (by kernel_rfl)),(hv 7 13 rfl (by kernel_rfl))]; rfl) Tryz.func38 (by kernel_rfl) rfl (hL0 u wa hS.ph) ?_
   rintro e w' ⟨rfl,hp⟩
   refine ⟨_,rfl,?_⟩
   rw [hd]
   refine hK (1,u) w' ⟨by simp,hp⟩ (by intro x hx; simp at hx; subst hx; simp [doneP,List.idxOf,List.findIdx,List.findIdx.go]) fun j hj hr=>?_
   match j,hr with
   | 0,_=>rfl
   | 1,_=>rfl
   | 2,_=>rfl
   | 3,_=>rfl
   | 4,_=>rfl
   | 5,_=>rfl
   | 6,_=>rfl
   | 7,_=>rfl
   | 8,_=>exact absurd rfl hj
   | q+9,_=>rfl
 ·intro a' w' g hsz hdf hoff hS hdn hval
  obtain ⟨g1,u⟩:=g
  have hg:g1=1:=by have h:=hdn 8 (by simp); simp [doneP,List.idxOf,List.findIdx,List.findIdx.go] at h; have:=hS.le; simp only at this; omega
  subst hg
  exact hEnd a' w' u hsz hdf (fun s hs=>ev_same (hoff s hs))  hS.ph
def all_r1V (db tb:Nat) (h a b:Int) (nz:Value):Nat × (Nat→Value)→Nat→Value:=fun g j=>match j with | 0=>(pa db 0) | 1=>(pa tb 0) | 2=>(pa db 1) | 3=>(Value.pointer none) | 4=>(spV h a b nz) | 5=>(Value.agg #[.int .i64 0,.int .i64 4294967295]) | 6=>(g.2 6) | _=>undef
set_option maxRecDepth 100000 in
set_option maxHeartbeats 1600000 in
theorem all_r1 {db sb tb:Nat} {h a b:Int} {nz:Value} {Ph:Nat→(Nat→Value)→World→Prop} {K:Act→World→Prop} {Q:Exit→Act→World→Prop} {a0:Act} {w:World} (hs:a0.tmps.size=41) (x3:a0.eval (.tmp 3)=pa db 0) (x4:a0.eval (.tmp 4)=pa sb 0) (hc:∀ g u x,Ph g u x→x.cell? ⟨db,0,none⟩=some (pa tb 0)∧x.cell? ⟨db,1,none⟩=some (.pointer none)∧(Instr.loadAt 120 (pa sb 0)).run Tryz.prog x=.ok (spV h a b nz) x) (hA:Ph 0 (fun _=>undef) w.drew)
  (hQ5:∀ g u x,Ph g u x→Calls Tryz.prog 61 #[] x fun e w'=>e=.returned (Value.agg #[.int .i64 0,.int .i64 4294967295])∧Ph g u w')
  (hL0:∀ u x,Ph 0 u x→Calls Tryz.prog 64 #[pa tb 0,.pointer none,(spV h a b nz),(Value.agg #[.int .i64 0,.int .i64 4294967295])] x fun e w'=>∃ v,e=.returned v∧Ph 1 (upd u 6 v) w')
  (hEnd:∀ a' x u,a'.tmps.size=a0.tmps.size→a'.defers=a0.defers→(∀ s,some s∉([some 10,some 11,some 12,some 13,some 14,some 15,some 16]:List (Option Nat))→a'.eval (.tmp s)=a0.eval (.tmp s))→a'.eval (.tmp 16)=(u 6)→Ph 1 u x→K a' x):(Code.region 1 (opsR 1 Tryz.f67.body) true).wp Tryz.prog (Exit.then K Q) a0 w:=by
 refine wp_region_ghost3 (G:=Nat × (Nat→Value)) (by kernel_rfl) [some 10,some 11,some 12,some 13,some 14,some 15,some 16] (by rw [hs]; kernel_rfl) (all_r1V db tb h a b nz) [6] ?_ (doneP [6]) (StP 1 Ph) ((0,fun _=>undef)) (⟨Nat.zero_le _,hA⟩) (by intro x hx; simp at hx; subst hx; rfl) (by decide) ?_ ?_
 ·exact fun i g b h _=>absurd h (noG (by kernel_rfl) i g b)
 ·intro i hi hgd
  rcases (by simp at hi; omega:i=0∨i=1∨i=2∨i=3∨i=4∨i=5∨i=6) with rfl | rfl | rfl | rfl | rfl | rfl | rfl
  ·refine soft (by decide) ?_
   intro o ac wa g ho hoff hv hS hdn
   exact x_field (op_is rfl ho) (by rw [((hoff 3 (by decide)).trans x3)]; show (Instr.fieldAt _ (pa _ _) _).run _ _=.ok (pa _ _) _; unfold pa; go_simp)
  ·refine soft (by decide) ?_
   intro o ac wa g ho hoff hv hS hdn
   have hc:=(hc _ _ _ hS.ph).1
   exact x_load (op_is rfl ho) (by rw [(hv 0 10 rfl (by kernel_rfl))]; show (Instr.loadAt _ (pa _ _)).run _ _=_; unfold pa; go_simp; first | rfl | skip)
  ·refine soft (by decide) ?_
   intro o ac wa g ho hoff hv hS hdn
   exact x_field (op_is rfl ho) (by rw [((hoff 3 (by decide)).trans x3)]; show (Instr.fieldAt _ (pa _ _) _).run _ _=.ok (pa _ _) _; unfold pa; go_simp)
  ·refine soft (by decide) ?_
   intro o ac wa g ho hoff hv hS hdn
   have hc:=(hc _ _ _ hS.ph).2.1
   exact x_load (op_is rfl ho) (by rw [(hv 2 12 rfl (by kernel_rfl))]; show (Instr.loadAt _ (pa _ _)).run _ _=_; unfold pa; go_simp; first | rfl | skip)
  ·refine soft (by decide) ?_
   intro o ac wa g ho hoff hv hS hdn
   exact x_load (op_is rfl ho) (by rw [((hoff 4 (by decide)).trans x4)]; exact (hc _ _ _ hS.ph).2.2)
  ·intro o ac wa g K ho hd _ hoff hv hS _ _ _ hK
   refine l_callE (op_is rfl ho) (xs:=#[]) (by simp) Tryz.func61 (by kernel_rfl) rfl (hQ5 g.1 g.2 wa hS.ph) ?_
   rintro e w2 ⟨rfl,hp⟩
   exact ⟨_,rfl,by rw [hd]; exact hK g w2 ⟨hS.le,hp⟩ (fun x hx=>by have hx2:¬ x=5:=fun e=>absurd (e ▸ hx) (by decide); simp [hx2]) fun _ _ _=>rfl⟩
  ·intro o ac wa g K ho hd _ hoff hv hS hpre hnd hlater hK
   have h1:g.1≤0:=by have:=hnd (by simp); simpa [doneP,List.idxOf,List.findIdx,List.findIdx.go] using this
   have hg:g.1=0:=by omega
   obtain ⟨g1,u⟩:=g
   simp only at hg
   subst hg
   refine l_callE (op_is rfl ho) (xs:=#[pa tb 0,.pointer none,(spV h a b nz),(Value.agg #[.int .i64 0,.int .i64 4294967295])]) (by simp only [List.map_toArray,List.map_cons,List.map_nil]; rw [(hv 1 11 rfl (by kernel_rfl)),(hv 3 13 rfl (by kernel_rfl)),(hv 4 14 rfl (by kernel_rfl)),(hv 5 15 rfl (by kernel_rfl))]; rfl) Tryz.func64 (by kernel_rfl) rfl (hL0 u wa hS.ph) ?_
   rintro e w' ⟨v,rfl,hp⟩
   refine ⟨_,rfl,?_⟩
   rw [hd]
   refine hK (1,upd u 6 v) w' ⟨by simp,hp⟩ (by intro x hx; simp at hx; subst hx; simp [doneP,List.idxOf,List.findIdx,List.findIdx.go]) fun j hj hr=>?_
   match j,hr with
   | 0,_=>rfl
   | 1,_=>rfl
   | 2,_=>rfl
   | 3,_=>rfl
   | 4,_=>rfl
   | 5,_=>rfl
   | 6,_=>exact absurd rfl hj
   | q+7,_=>rfl
 ·intro a' w' g hsz hdf hoff hS hdn hval
  obtain ⟨g1,u⟩:=g
  have hg:g1=1:=by have h:=hdn 6 (by simp); simp [doneP,List.idxOf,List.findIdx,List.findIdx.go] at h; have:=hS.le; simp only at this; omega
  subst hg
  exact hEnd a' w' u hsz hdf (fun s hs=>ev_same (hoff s hs)) (hval 6 16 rfl) hS.ph
end Go.Proofs.YtloljphbdfjgdaaGreatDoor

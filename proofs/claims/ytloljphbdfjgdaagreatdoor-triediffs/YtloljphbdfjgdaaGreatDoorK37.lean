/- What an iterator gives, gathered: all of it. -/
import Derived.Test.YtloljphbdfjgdaaGreatDoorK36
import Derived.Conc.MuLone
import Derived.Test.YtloljphbdfjgdaaGreatDoorK06
import Derived.Test.YtloljphbdfjgdaaGreatDoorK03
namespace Go.Proofs.YtloljphbdfjgdaaGreatDoor
open Go.RowKit
end Go.Proofs.YtloljphbdfjgdaaGreatDoor
/- What an iterator gives, gathered: all of it. -/
namespace Go.Proofs.YtloljphbdfjgdaaGreatDoor
open Go.RowKit
theorem heap_al (w:World) (o:Obj) (k:Nat):(w.alloc o).heap[k]?=if k=w.heap.size then some o else w.heap[k]?:=by
 by_cases e:k=w.heap.size
 ·rw [if_pos e,e]; exact blk_new w o
 ·rw [if_neg e]
  by_cases z:k < w.heap.size
  ·exact Below.heap_alloc _ _ _ z
  ·rw [Array.getElem?_eq_none (by simp; omega),Array.getElem?_eq_none (by omega)]
theorem size_al (w:World) (o:Obj):(w.alloc o).heap.size=w.heap.size+1:=by simp
section
variable {w:World}
def Gives (w:World) (F:List Nat) (X:World→Prop) (L:List (Int × Int)) (fn:FuncId) (caps:Array Value):Prop :=
 ∀ (w1:World),Turned [] w w1→X w1→∀ (J:Nat→List Nat→World→Prop) (fy:FuncId) (cy:Array Value) (G:List Nat),Taker Tryz.prog L J fy cy→J 0 G w1→(∀ x,x∈G→x∉F∧w.heap.size≤x) →
  Calls Tryz.prog fn (#[.func (.func fy) #[] cy] ++ caps) w1 fun e w2=>e=.returned (.tuple #[])∧Turned (F ++ G) w1 w2∧X w2∧∃ G',J L.length G' w2∧Wider G G' w1
end
end Go.Proofs.YtloljphbdfjgdaaGreatDoor
/- Drawn regions of the statements' 'changed'. (Written by tools/gen/gentrie.py.) -/
namespace Go.Proofs.YtloljphbdfjgdaaGreatDoor
open Go.RowKit
section
variable {At:World→Nat→List Nat→PSt→Prop} (PL:PoolLaws At) {K:Act→World→Prop} {Q:Exit→Act→World→Prop} {a0:Act} {w:World} {p bc eb:Nat} {F:List Nat} {s:PSt} {St:List Nat} {it:Nat} {of key val root old n:Int} {had:Bool} {gv:Value} {ma:Option Addr} {ml mc:Nat}
include PL
def chgV14 (p bc eb:Nat) (St:List Nat) (old n:Int) (had:Bool) (ma:Option Addr) (ml mc:Nat):Option (Option Addr × Nat)→Nat→Value:=fun g i=>match i with | 0=>(pa bc 3) | 1=>(Value.bool false) | 2=>(Value.bool false) | 3=>undef | 4=>undef | 5=>(Value.bool false) | 6=>(Value.bool false) | 7=>(pa eb 2) | 8=>(Value.bool had) | 9=>(Value.bool had) | 10=>(Value.bool false) | 11=>(Value.bool false) | 12=>(Value.bool false) | 13=>(pa eb 1) | 14=>(Value.int IntKind.i64 old) | 15=>(Value.int IntKind.i64 old) | 16=>(Value.bool false) | 17=>(Value.bool false) | 18=>(Value.bool false) | 19=>(pt p) | 20=>(match g with | some y=>Value.slice y.1 St.length y.2 | none=>undef) | 21=>(Value.int IntKind.i64 St.length) | 22=>(Value.int IntKind.i64 n) | 23=>(pa eb 4) | 24=>(Value.slice ma ml mc) | 25=>(Value.int IntKind.i64 ml) | 26=>(Value.int IntKind.i64 (n - ml)) | 27=>(Value.bool false) | 28=>(Value.bool false) | _=>undef
set_option maxRecDepth 100000 in
set_option maxHeartbeats 1600000 in
theorem chg_r14p (hs:a0.tmps.size=178) (x0:a0.eval (.tmp 0)=pt p) (x7:a0.eval (.tmp 7)=pa bc 0) (x11:a0.eval (.tmp 11)=.int .i64 old) (x12:a0.eval (.tmp 12)=.bool had) (x13:a0.eval (.tmp 13)=.int .i64 n) (x14:a0.eval (.tmp 14)=pa eb 0)
  (hA:At w p F s) (hV:PV s St it) (hbc:w.heap[bc]?=some (.cells #[.int .i64 of,.int .i64 key,.int .i64 val,.bool false] 36 (0,0))) (heb:w.heap[eb]?=some (.cells #[.int .i64 root,.int .i64 old,.bool had,gv,.slice ma ml mc] 40 (0,0))) (nbc:bc∉F) (neb:eb∉F) (hn:(St.length:Int)=n - ml) (h0:0≤n) (h1:n≤4096) (h2:ml≤4096)
  (hEnd:∀ a' x,a'.tmps.size=a0.tmps.size→a'.defers=a0.defers→(∀ s,some s∉([some 128,some 129,some 130,some 131,some 132,some 133,some 134,some 135,some 136,some 137,some 138,some 139,some 140,some 141,some 142,some 143,some 144,some 145,some 146,some 147,some 148,some 149,some 150,some 151,some 152,some 153,some 154,some 155,some 156]:List (Option Nat))→a'.eval (.tmp s)=a0.eval (.tmp s))→a'.eval (.tmp 156)=.bool false→At x p F s→Turned F w x→K a' x):(Code.region 14 (opsOf 14 Tryz.f9.body) true).wp Tryz.prog (Exit.then K Q) a0 w:=by
 refine wp_region_ghost3 (G:=Option (Option Addr × Nat)) (by kernel_rfl) [some 128,some 129,some 130,some 131,some 132,some 133,some 134,some 135,some 136,some 137,some 138,some 139,some 140,some 141,some 142,some 143,some 144,some 145,some 146,some 147,some 148,some 149,some 150,some 151,some 152,some 153,some 154,some 155,some 156] (by rw [hs]; kernel_rfl) (chgV14 p bc eb St old n had ma ml mc) [20] ?_ (fun g _=>g.isSome) (fun _ x=>At x p F s∧Turned F w x) (none) (⟨PL.keep hA (Turned.refl [] _).drew (by simp),(Turned.refl _ _).drew⟩) (by simp) (by decide) ?_ ?_
 ·intro i g b h γ
  have hi:i < 29:=by
   apply Classical.byContradiction
   intro hn
   rw [show (opsOf 14 Tryz.f9.body)[i]?=none from Array.getElem?_eq_none (by have:(opsOf 14 Tryz.f9.body).size=29:=(by kernel_rfl); omega)] at h
   cases h
  rcases (by omega:i=0∨i=1∨i=2∨i=3∨i=4∨i=5∨i=6∨i=7∨i=8∨i=9∨i=10∨i=11∨i=12∨i=13∨i=14∨i=15∨i=16∨i=17∨i=18∨i=19∨i=20∨i=21∨i=22∨i=23∨i=24∨i=25∨i=26∨i=27∨i=28) with rfl | rfl | rfl | rfl | rfl | rfl | rfl | rfl | rfl | rfl | rfl | rfl | rfl | rfl | rfl | rfl | rfl | rfl | rfl | rfl | rfl | rfl | rfl | rfl | rfl | rfl | rfl | rfl | rfl
  ·exact absurd h (gNo (by kernel_rfl))
  ·exact absurd h (gNo (by kernel_rfl))
  ·exact absurd h (gNo (by kernel_rfl))
  ·rw [show ((opsOf 14 Tryz.f9.body)[3]?).bind (fun o:Oper=>o.guard)=some (2,true) from by kernel_rfl] at h
   obtain ⟨rfl,rfl⟩:2=g∧true=b:=by simpa using h
   exact .inl ⟨false,rfl,fun _=>⟨rfl,by decide⟩⟩
  ·rw [show ((opsOf 14 Tryz.f9.body)[4]?).bind (fun o:Oper=>o.guard)=some (2,true) from by kernel_rfl] at h
   obtain ⟨rfl,rfl⟩:2=g∧true=b:=by simpa using h
   exact .inl ⟨false,rfl,fun _=>⟨rfl,by decide⟩⟩
  ·exact absurd h (gNo (by kernel_rfl))
  ·exact absurd h (gNo (by kernel_rfl))
  ·rw [show ((opsOf 14 Tryz.f9.body)[7]?).bind (fun o:Oper=>o.guard)=some (6,false) from by kernel_rfl] at h
   obtain ⟨rfl,rfl⟩:6=g∧false=b:=by simpa using h
   exact .inl ⟨false,rfl,fun hne=>absurd rfl hne⟩
  ·rw [show ((opsOf 14 Tryz.f9.body)[8]?).bind (fun o:Oper=>o.guard)=some (6,false) from by kernel_rfl] at h
   obtain ⟨rfl,rfl⟩:6=g∧false=b:=by simpa using h
   exact .inl ⟨false,rfl,fun hne=>absurd rfl hne⟩
  ·rw [show ((opsOf 14 Tryz.f9.body)[9]?).bind (fun o:Oper=>o.guard)=some (6,false) from by kernel_rfl] at h
   obtain ⟨rfl,rfl⟩:6=g∧false=b:=by simpa using h
   exact .inl ⟨false,rfl,fun hne=>absurd rfl hne⟩
  ·rw [show ((opsOf 14 Tryz.f9.body)[10]?).bind (fun o:Oper=>o.guard)=some (6,false) from by kernel_rfl] at h
   obtain ⟨rfl,rfl⟩:6=g∧false=b:=by simpa using h
   exact .inl ⟨false,rfl,fun hne=>absurd rfl hne⟩
  ·exact absurd h (gNo (by kernel_rfl))
  ·exact absurd h (gNo (by kernel_rfl))
  ·rw [show ((opsOf 14 Tryz.f9.body)[13]?).bind (fun o:Oper=>o.guard)=some (12,false) from by kernel_rfl] at h
   obtain ⟨rfl,rfl⟩:12=g∧false=b:=by simpa using h
   exact .inl ⟨false,rfl,fun hne=>absurd rfl hne⟩
  ·rw [show ((opsOf 14 Tryz.f9.body)[14]?).bind (fun o:Oper=>o.guard)=some (12,false) from by kernel_rfl] at h
   obtain ⟨rfl,rfl⟩:12=g∧false=b:=by simpa using h
   exact .inl ⟨false,rfl,fun hne=>absurd rfl hne⟩
  ·rw [show ((opsOf 14 Tryz.f9.body)[15]?).bind (fun o:Oper=>o.guard)=some (12,false) from by kernel_rfl] at h
   obtain ⟨rfl,rfl⟩:12=g∧false=b:=by simpa using h
   exact .inl ⟨false,rfl,fun hne=>absurd rfl hne⟩
  ·rw [show ((opsOf 14 Tryz.f9.body)[16]?).bind (fun o:Oper=>o.guard)=some (12,false) from by kernel_rfl] at h
   obtain ⟨rfl,rfl⟩:12=g∧false=b:=by simpa using h
   exact .inl ⟨false,rfl,fun hne=>absurd rfl hne⟩
  ·exact absurd h (gNo (by kernel_rfl))
  ·exact absurd h (gNo (by kernel_rfl))
  ·rw [show ((opsOf 14 Tryz.f9.body)[19]?).bind (fun o:Oper=>o.guard)=some (18,false) from by kernel_rfl] at h
   obtain ⟨rfl,rfl⟩:18=g∧false=b:=by simpa using h
   exact .inl ⟨false,rfl,fun hne=>absurd rfl hne⟩
  ·rw [show ((opsOf 14 Tryz.f9.body)[20]?).bind (fun o:Oper=>o.guard)=some (18,false) from by kernel_rfl] at h
   obtain ⟨rfl,rfl⟩:18=g∧false=b:=by simpa using h
   exact .inl ⟨false,rfl,fun hne=>absurd rfl hne⟩
  ·rw [show ((opsOf 14 Tryz.f9.body)[21]?).bind (fun o:Oper=>o.guard)=some (18,false) from by kernel_rfl] at h
   obtain ⟨rfl,rfl⟩:18=g∧false=b:=by simpa using h
   exact .inl ⟨false,rfl,fun hne=>absurd rfl hne⟩
  ·rw [show ((opsOf 14 Tryz.f9.body)[22]?).bind (fun o:Oper=>o.guard)=some (18,false) from by kernel_rfl] at h
   obtain ⟨rfl,rfl⟩:18=g∧false=b:=by simpa using h
   exact .inl ⟨false,rfl,fun hne=>absurd rfl hne⟩
  ·rw [show ((opsOf 14 Tryz.f9.body)[23]?).bind (fun o:Oper=>o.guard)=some (18,false) from by kernel_rfl] at h
   obtain ⟨rfl,rfl⟩:18=g∧false=b:=by simpa using h
   exact .inl ⟨false,rfl,fun hne=>absurd rfl hne⟩
  ·rw [show ((opsOf 14 Tryz.f9.body)[24]?).bind (fun o:Oper=>o.guard)=some (18,false) from by kernel_rfl] at h
   obtain ⟨rfl,rfl⟩:18=g∧false=b:=by simpa using h
   exact .inl ⟨false,rfl,fun hne=>absurd rfl hne⟩
  ·rw [show ((opsOf 14 Tryz.f9.body)[25]?).bind (fun o:Oper=>o.guard)=some (18,false) from by kernel_rfl] at h
   obtain ⟨rfl,rfl⟩:18=g∧false=b:=by simpa using h
   exact .inl ⟨false,rfl,fun hne=>absurd rfl hne⟩
  ·rw [show ((opsOf 14 Tryz.f9.body)[26]?).bind (fun o:Oper=>o.guard)=some (18,false) from by kernel_rfl] at h
   obtain ⟨rfl,rfl⟩:18=g∧false=b:=by simpa using h
   exact .inl ⟨false,rfl,fun hne=>absurd rfl hne⟩
  ·rw [show ((opsOf 14 Tryz.f9.body)[27]?).bind (fun o:Oper=>o.guard)=some (18,false) from by kernel_rfl] at h
   obtain ⟨rfl,rfl⟩:18=g∧false=b:=by simpa using h
   exact .inl ⟨false,rfl,fun hne=>absurd rfl hne⟩
  ·exact absurd h (gNo (by kernel_rfl))
 ·intro i hi hgd
  rcases (by simp at hi; omega:i=0∨i=1∨i=2∨i=3∨i=4∨i=5∨i=6∨i=7∨i=8∨i=9∨i=10∨i=11∨i=12∨i=13∨i=14∨i=15∨i=16∨i=17∨i=18∨i=19∨i=20∨i=21∨i=22∨i=23∨i=24∨i=25∨i=26∨i=27∨i=28) with rfl | rfl | rfl | rfl | rfl | rfl | rfl | rfl | rfl | rfl | rfl | rfl | rfl | rfl | rfl | rfl | rfl | rfl | rfl | rfl | rfl | rfl | rfl | rfl | rfl | rfl | rfl | rfl | rfl
  ·refine soft (by decide) ?_
   intro o ac wa g ho hoff hv hS hdn
   exact x_field (op_is rfl ho) (by rw [((hoff 7 (by decide)).trans x7)]; show (Instr.fieldAt _ (pa _ _) _).run _ _=.ok (pa _ _) _; unfold pa; go_simp)
  ·refine soft (by decide) ?_
   intro o ac wa g ho hoff hv hS hdn
   have hc:=cell_at (hS.2.heap hbc nbc) 3
   exact x_load (op_is rfl ho) (by rw [(hv 0 128 rfl (by kernel_rfl))]; show (Instr.loadAt _ (pa _ _)).run _ _=_; unfold pa; go_simp; rfl)
  ·refine soft (by decide) ?_
   intro o ac wa g ho hoff hv hS hdn
   exact (x_move (op_is rfl ho)).trans (by rw [(hv 1 129 rfl (by kernel_rfl))]; rfl)
  ·obtain ⟨γ,hγ⟩:=hgd 2 true (by kernel_rfl)
   have hγ2:(Value.bool false)=Value.bool true:=hγ
   cases hγ2
  ·obtain ⟨γ,hγ⟩:=hgd 2 true (by kernel_rfl)
   have hγ2:(Value.bool false)=Value.bool true:=hγ
   cases hγ2
  ·refine soft (by decide) ?_
   intro o ac wa g ho hoff hv hS hdn
   exact (x_pickG (op_is rfl ho) ((hv 2 130 rfl (by kernel_rfl)))).trans (by rw [if_neg (by decide)]; rfl)
  ·refine soft (by decide) ?_
   intro o ac wa g ho hoff hv hS hdn
   exact (x_move (op_is rfl ho)).trans (by rw [(hv 5 133 rfl (by kernel_rfl))]; rfl)
  ·refine soft (by decide) ?_
   intro o ac wa g ho hoff hv hS hdn
   exact x_field (op_is rfl ho) (by rw [((hoff 14 (by decide)).trans x14)]; show (Instr.fieldAt _ (pa _ _) _).run _ _=.ok (pa _ _) _; unfold pa; go_simp)
  ·refine soft (by decide) ?_
   intro o ac wa g ho hoff hv hS hdn
   have hc:=cell_at (hS.2.heap heb neb) 2
   exact x_load (op_is rfl ho) (by rw [(hv 7 135 rfl (by kernel_rfl))]; show (Instr.loadAt _ (pa _ _)).run _ _=_; unfold pa; go_simp; rfl)
  ·refine soft (by decide) ?_
   intro o ac wa g ho hoff hv hS hdn
   exact (x_move (op_is rfl ho)).trans (by rw [((hoff 12 (by decide)).trans x12)]; rfl)
  ·refine soft (by decide) ?_
   intro o ac wa g ho hoff hv hS hdn
   exact (x_neqB (op_is rfl ho) (hv 8 136 rfl (by kernel_rfl)) (hv 9 137 rfl (by kernel_rfl))).trans (by rw [show (had != had)=false by simp]; rfl)
  ·refine soft (by decide) ?_
   intro o ac wa g ho hoff hv hS hdn
   exact (x_pickG (op_is rfl ho) ((hv 6 134 rfl (by kernel_rfl)))).trans (by rw [if_neg (by decide),(hv 10 138 rfl (by kernel_rfl))]; rfl)
  ·refine soft (by decide) ?_
   intro o ac wa g ho hoff hv hS hdn
   exact (x_move (op_is rfl ho)).trans (by rw [(hv 11 139 rfl (by kernel_rfl))]; rfl)
  ·refine soft (by decide) ?_
   intro o ac wa g ho hoff hv hS hdn
   exact x_field (op_is rfl ho) (by rw [((hoff 14 (by decide)).trans x14)]; show (Instr.fieldAt _ (pa _ _) _).run _ _=.ok (pa _ _) _; unfold pa; go_simp)
  ·refine soft (by decide) ?_
   intro o ac wa g ho hoff hv hS hdn
   have hc:=cell_at (hS.2.heap heb neb) 1
   exact x_load (op_is rfl ho) (by rw [(hv 13 141 rfl (by kernel_rfl))]; show (Instr.loadAt _ (pa _ _)).run _ _=_; unfold pa; go_simp; rfl)
  ·refine soft (by decide) ?_
   intro o ac wa g ho hoff hv hS hdn
   exact (x_move (op_is rfl ho)).trans (by rw [((hoff 11 (by decide)).trans x11)]; rfl)
  ·refine soft (by decide) ?_
   intro o ac wa g ho hoff hv hS hdn
   exact (x_neqN (op_is rfl ho) (hv 14 142 rfl (by kernel_rfl)) (hv 15 143 rfl (by kernel_rfl))).trans (by rw [show (old != old)=false by simp]; rfl)
  ·refine soft (by decide) ?_
   intro o ac wa g ho hoff hv hS hdn
   exact (x_pickG (op_is rfl ho) ((hv 12 140 rfl (by kernel_rfl)))).trans (by rw [if_neg (by decide),(hv 16 144 rfl (by kernel_rfl))]; rfl)
  ·refine soft (by decide) ?_
   intro o ac wa g ho hoff hv hS hdn
   exact (x_move (op_is rfl ho)).trans (by rw [(hv 17 145 rfl (by kernel_rfl))]; rfl)
  ·refine soft (by decide) ?_
   intro o ac wa g ho hoff hv hS hdn
   exact (x_move (op_is rfl ho)).trans (by rw [((hoff 0 (by decide)).trans x0)]; rfl)
  ·intro o ac wa g K ho hd _ hoff hv hS _ hnd _ hK
   obtain rfl:g=none:=by have:=hnd (by simp); cases g <;> simp at this ⊢
   refine l_callE (op_is rfl ho) (xs:=#[pt p]) (by simp only [List.map_toArray,List.map_cons,List.map_nil]; rw [hv 19 147 rfl (by kernel_rfl)]; rfl) Tryz.func29 (by kernel_rfl) rfl (PL.free hS.1 hV.ok hV.top hV.nodup hV.small) ?_
   rintro e w' ⟨⟨a5,c5,rfl⟩,ht,hA'⟩
   refine ⟨_,rfl,?_⟩
   rw [hd]
   refine hK (some (a5,c5)) w' ⟨hA',hS.2.trans ht⟩ (by simp) fun j hj hr=>?_
   have hjl:j≠20:=hj
   match j,hr with
   | 0,_=>rfl
   | 1,_=>rfl
   | 2,_=>rfl
   | 3,_=>rfl
   | 4,_=>rfl
   | 5,_=>rfl
   | 6,_=>rfl
   | 7,_=>rfl
   | 8,_=>rfl
   | 9,_=>rfl
   | 10,_=>rfl
   | 11,_=>rfl
   | 12,_=>rfl
   | 13,_=>rfl
   | 14,_=>rfl
   | 15,_=>rfl
   | 16,_=>rfl
   | 17,_=>rfl
   | 18,_=>rfl
   | 19,_=>rfl
   | 21,_=>rfl
   | 22,_=>rfl
   | 23,_=>rfl
   | 24,_=>rfl
   | 25,_=>rfl
   | 26,_=>rfl
   | 27,_=>rfl
   | 28,_=>rfl
   | 20,_=>exact absurd rfl hjl
   | k+29,_=>rfl
  ·refine soft (by decide) ?_
   intro o ac wa g ho hoff hv hS hdn
   obtain ⟨y,rfl⟩:=Option.isSome_iff_exists.1 (hdn 20 (by simp) (by kernel_rfl))
   exact x_lenG (op_is rfl ho) (hv 20 148 rfl (by kernel_rfl)) undIntsG
  ·refine soft (by decide) ?_
   intro o ac wa g ho hoff hv hS hdn
   exact (x_move (op_is rfl ho)).trans (by rw [((hoff 13 (by decide)).trans x13)]; rfl)
  ·refine soft (by decide) ?_
   intro o ac wa g ho hoff hv hS hdn
   exact x_field (op_is rfl ho) (by rw [((hoff 14 (by decide)).trans x14)]; show (Instr.fieldAt _ (pa _ _) _).run _ _=.ok (pa _ _) _; unfold pa; go_simp)
  ·refine soft (by decide) ?_
   intro o ac wa g ho hoff hv hS hdn
   have hc:=cell_at (hS.2.heap heb neb) 4
   exact x_load (op_is rfl ho) (by rw [(hv 23 151 rfl (by kernel_rfl))]; show (Instr.loadAt _ (pa _ _)).run _ _=_; unfold pa; go_simp; rfl)
  ·refine soft (by decide) ?_
   intro o ac wa g ho hoff hv hS hdn
   exact x_lenG (op_is rfl ho) (hv 24 152 rfl (by kernel_rfl)) undIntsG
  ·refine soft (by decide) ?_
   intro o ac wa g ho hoff hv hS hdn
   exact x_subN (op_is rfl ho) (hv 22 150 rfl (by kernel_rfl)) (hv 25 153 rfl (by kernel_rfl)) (by omega) (by omega)
  ·refine soft (by decide) ?_
   intro o ac wa g ho hoff hv hS hdn
   exact (x_neqN (op_is rfl ho) (hv 21 149 rfl (by kernel_rfl)) (hv 26 154 rfl (by kernel_rfl))).trans (by rw [show ((St.length:Int) != n - ml)=false by simp [hn]]; rfl)
  ·refine soft (by decide) ?_
   intro o ac wa g ho hoff hv hS hdn
   exact (x_pickG (op_is rfl ho) ((hv 18 146 rfl (by kernel_rfl)))).trans (by rw [if_neg (by decide),(hv 27 155 rfl (by kernel_rfl))]; rfl)
 ·intro a' w' g hsz hdf hoff hS hdn hval
  obtain ⟨y,rfl⟩:=Option.isSome_iff_exists.1 (hdn 20 (by simp))
  exact hEnd a' w' hsz hdf (fun s hs=>ev_same (hoff s hs)) (hval 28 156 rfl) hS.1 hS.2
end
end Go.Proofs.YtloljphbdfjgdaaGreatDoor
/- A drawn region of the statements' 'changed': the next version is made. (Written by tools/gen/gentrie16.py.) -/
namespace Go.Proofs.YtloljphbdfjgdaaGreatDoor
open Go.RowKit
theorem PR.isSl {B:Nat} {w:World} {v:Value} {l:List (Int × Int)} (h:PR B w v l):∃ a c,v=.slice a l.length c:=by
 rcases h.form with ⟨rfl,rfl⟩ | ⟨g,c,cs,rfl,_⟩
 ·exact ⟨_,_,rfl⟩
 ·exact ⟨_,_,rfl⟩
structure G16 where
 v:Option Value
 nb:Option Nat
 st:Bool
def done16 (g:G16):Nat→Bool
 | 9=>g.v.isSome
 | 11=>g.nb.isSome
 | 12=>g.st
 | _=>false
def verObj (root:Int) (v:Value):Obj:=.cells #[.int .i64 root,v] 33 (0,0)
structure S16 (w:World) (root:Int) (l:List (Int × Int)) (g:G16) (x:World):Prop where
 turned:Turned [] w x
 v:∀ v,g.v=some v→PR w.heap.size x v l
 nb:∀ nb,g.nb=some nb→w.heap.size≤nb∧x.heap[nb]?=some (if g.st=true then verObj root (g.v.getD undef) else verObj 0 (.slice none 0 0))
section
variable {K:Act→World→Prop} {Q:Exit→Act→World→Prop} {a0:Act} {w:World} {bv bc eb B:Nat} {of key val root root' old:Int} {dr had:Bool} {gv mv lv:Value} {l:List (Int × Int)}
def chgV16 (bv bc eb:Nat) (root key val:Int) (lv:Value) (g:G16):Nat→Value:=fun i=>match i with | 0=>(pa eb 0) | 1=>(Value.int IntKind.i64 root) | 2=>(pa bv 1) | 3=>lv | 4=>(pa bc 1) | 5=>(Value.int IntKind.i64 key) | 6=>(pa bc 2) | 7=>(Value.int IntKind.i64 val) | 8=>(Value.agg #[Value.int IntKind.i64 key,Value.int IntKind.i64 val]) | 9=>(g.v.getD undef) | 10=>(Value.agg #[Value.int IntKind.i64 root,g.v.getD undef]) | 11=>(pa (g.nb.getD 0) 0) | 12=>undef | _=>undef
set_option maxRecDepth 100000 in
set_option maxHeartbeats 1600000 in
theorem chg_r16 (hs:a0.tmps.size=178) (x6:a0.eval (.tmp 6)=pa bv 0) (x7:a0.eval (.tmp 7)=pa bc 0) (x14:a0.eval (.tmp 14)=pa eb 0)
  (hbv:w.heap[bv]?=some (.cells #[.int .i64 root',lv] 33 (0,0))) (hbc:w.heap[bc]?=some (.cells #[.int .i64 of,.int .i64 key,.int .i64 val,.bool dr] 36 (0,0))) (heb:w.heap[eb]?=some (.cells #[.int .i64 root,.int .i64 old,.bool had,gv,mv] 40 (0,0))) (hR:PR B w lv l) (hl:l.length≤1000000)
  (hEnd:∀ a' x v nb,a'.tmps.size=a0.tmps.size→a'.defers=a0.defers→(∀ s,some s∉([some 158,some 159,some 160,some 161,some 162,some 163,some 164,some 165,some 166,some 167,some 168,some 20,none]:List (Option Nat))→a'.eval (.tmp s)=a0.eval (.tmp s))→a'.eval (.tmp 20)=pa nb 0→Turned [] w x→x.heap[nb]?=some (verObj root v)→PR w.heap.size x v (insL l key val)→w.heap.size≤nb→K a' x):(Code.region 16 (opsOf 16 Tryz.f9.body) true).wp Tryz.prog (Exit.then K Q) a0 w:=by
 refine wp_region_ghost3 (G:=G16) (by kernel_rfl) [some 158,some 159,some 160,some 161,some 162,some 163,some 164,some 165,some 166,some 167,some 168,some 20,none] (by rw [hs]; kernel_rfl) (chgV16 bv bc eb root key val lv) [9,11,12] ?_ (done16) (S16 w root (insL l key val)) (⟨none,none,false⟩) (⟨(Turned.refl _ _).drew,fun v hv=>(by cases hv),fun nb hnb=>(by cases hnb)⟩) (by intro x hx; simp at hx; rcases hx with rfl | rfl | rfl <;> rfl) (by decide) ?_ ?_
 ·exact fun i g b h _=>absurd h (noG (by kernel_rfl) i g b)
 ·intro i hi hgd
  rcases (by simp at hi; omega:i=0∨i=1∨i=2∨i=3∨i=4∨i=5∨i=6∨i=7∨i=8∨i=9∨i=10∨i=11∨i=12) with rfl | rfl | rfl | rfl | rfl | rfl | rfl | rfl | rfl | rfl | rfl | rfl | rfl
  ·refine soft (by decide) ?_
   intro o ac wa g ho hoff hv hS hdn
   exact x_field (op_is rfl ho) (by rw [((hoff 14 (by decide)).trans x14)]; show (Instr.fieldAt _ (pa _ _) _).run _ _=.ok (pa _ _) _; unfold pa; go_simp)
  ·refine soft (by decide) ?_
   intro o ac wa g ho hoff hv hS hdn
   have hc:=cell_at (hS.turned.heap heb (by simp)) 0
   exact x_load (op_is rfl ho) (by rw [(hv 0 158 rfl (by kernel_rfl))]; show (Instr.loadAt _ (pa _ _)).run _ _=_; unfold pa; go_simp; rfl)
  ·refine soft (by decide) ?_
   intro o ac wa g ho hoff hv hS hdn
   exact x_field (op_is rfl ho) (by rw [((hoff 6 (by decide)).trans x6)]; show (Instr.fieldAt _ (pa _ _) _).run _ _=.ok (pa _ _) _; unfold pa; go_simp)
  ·refine soft (by decide) ?_
   intro o ac wa g ho hoff hv hS hdn
   have hc:=cell_at (hS.turned.heap hbv (by simp)) 1
   exact x_load (op_is rfl ho) (by rw [(hv 2 160 rfl (by kernel_rfl))]; show (Instr.loadAt _ (pa _ _)).run _ _=_; unfold pa; go_simp; rfl)
  ·refine soft (by decide) ?_
   intro o ac wa g ho hoff hv hS hdn
   exact x_field (op_is rfl ho) (by rw [((hoff 7 (by decide)).trans x7)]; show (Instr.fieldAt _ (pa _ _) _).run _ _=.ok (pa _ _) _; unfold pa; go_simp)
  ·refine soft (by decide) ?_
   intro o ac wa g ho hoff hv hS hdn
   have hc:=cell_at (hS.turned.heap hbc (by simp)) 1
   exact x_load (op_is rfl ho) (by rw [(hv 4 162 rfl (by kernel_rfl))]; show (Instr.loadAt _ (pa _ _)).run _ _=_; unfold pa; go_simp; rfl)
  ·refine soft (by decide) ?_
   intro o ac wa g ho hoff hv hS hdn
   exact x_field (op_is rfl ho) (by rw [((hoff 7 (by decide)).trans x7)]; show (Instr.fieldAt _ (pa _ _) _).run _ _=.ok (pa _ _) _; unfold pa; go_simp)
  ·refine soft (by decide) ?_
   intro o ac wa g ho hoff hv hS hdn
   have hc:=cell_at (hS.turned.heap hbc (by simp)) 2
   exact x_load (op_is rfl ho) (by rw [(hv 6 164 rfl (by kernel_rfl))]; show (Instr.loadAt _ (pa _ _)).run _ _=_; unfold pa; go_simp; rfl)
  ·refine soft (by decide) ?_
   intro o ac wa g ho hoff hv hS hdn
   exact x_build (op_is rfl ho) (qs:=#[(0,Value.int IntKind.i64 key),(1,Value.int IntKind.i64 val)]) (by simp only [List.map_toArray,List.map_cons,List.map_nil]; rw [(hv 5 163 rfl (by kernel_rfl)),(hv 7 165 rfl (by kernel_rfl))]; rfl) (by go_simp; rfl)
  ·intro o ac wa g K ho hd _ hoff hv hS hpre hnd hlater hK
   have hg:g.v=none:=by have:=hnd (by simp); simpa [done16] using this
   have hst:g.st=false:=hlater 12 (by simp) (by kernel_rfl)
   refine l_callE (op_is rfl ho) (xs:=#[lv,.agg #[.int .i64 key,.int .i64 val]]) (by simp only [List.map_toArray,List.map_cons,List.map_nil]; rw [hv 3 161 rfl (by kernel_rfl),hv 8 166 rfl (by kernel_rfl)]; rfl) Tryz.func17 (by kernel_rfl) rfl (cWith (hR.keep hS.turned (by simp)) hl key val) ?_
   rintro e w' ⟨v',rfl,hR',ht⟩
   refine ⟨_,rfl,?_⟩
   rw [hd]
   refine hK { g with v:=some v' } w' ⟨hS.turned.trans ht,fun v hv=>by cases hv; exact hR'.lower hS.turned.size,fun nb hnb=>⟨(hS.nb nb hnb).1,by rw [hst]; have:=(hS.nb nb hnb).2; rw [hst] at this; exact ht.heap this (by simp)⟩⟩ (by simp [done16,hg]) fun j hj hr=>?_
   match j,hr with
   | 0,_=>rfl
   | 1,_=>rfl
   | 2,_=>rfl
   | 3,_=>rfl
   | 4,_=>rfl
   | 5,_=>rfl
   | 6,_=>rfl
   | 7,_=>rfl
   | 8,_=>rfl
   | 9,_=>exact absurd rfl hj
   | 10,hr=>exact absurd (hr.symm.trans (by kernel_rfl:reachB (opsOf 16 Tryz.f9.body) (opsOf 16 Tryz.f9.body).size 10 9=true)) (by decide)
   | 11,_=>rfl
   | 12,hr=>exact absurd (hr.symm.trans (by kernel_rfl:reachB (opsOf 16 Tryz.f9.body) (opsOf 16 Tryz.f9.body).size 12 9=true)) (by decide)
   | k+13,_=>rfl
  ·refine soft (by decide) ?_
   intro o ac wa g ho hoff hv hS hdn
   obtain ⟨v9,h9⟩:=Option.isSome_iff_exists.1 (show g.v.isSome=true from hdn 9 (by simp) (by kernel_rfl))
   obtain ⟨a9,c9,rfl⟩:=(hS.v v9 h9).isSl
   exact x_build (op_is rfl ho) (qs:=#[(0,Value.int IntKind.i64 root),(1,.slice a9 _ c9)]) (by simp only [List.map_toArray,List.map_cons,List.map_nil]; rw [(hv 1 159 rfl (by kernel_rfl)),(hv 9 167 rfl (by kernel_rfl))]; show #[_,(1,g.v.getD undef)]=_; rw [h9]; rfl) (by show _=Result.ok (Value.agg #[_,g.v.getD undef]) _; rw [h9]; go_simp)
  ·intro o ac wa g K ho hd _ hoff hv hS hpre hnd hlater hK
   have hg:g.nb=none:=by have:=hnd (by simp); simpa [done16] using this
   have hst:g.st=false:=hlater 12 (by simp) (by kernel_rfl)
   refine l_val hd (x_alloc (op_is rfl ho) (v:=pa wa.heap.size 0) (w':=wa.alloc (verObj 0 (.slice none 0 0))) (by unfold pa verObj; go_simp)) ?_
   refine hK { g with nb:=some wa.heap.size } _ ⟨hS.turned.alloc _,fun v hv=>(hS.v v hv).keep (F:=[]) ((Turned.refl _ _).alloc _) (by simp),fun nb hnb=>?_⟩ (by simp [done16,hg]) fun j hj hr=>?_
   ·cases hnb
    refine ⟨hS.turned.size,?_⟩
    rw [hst]
    exact blk_new _ _
   ·match j,hr with
    | 0,_=>rfl
    | 1,_=>rfl
    | 2,_=>rfl
    | 3,_=>rfl
    | 4,_=>rfl
    | 5,_=>rfl
    | 6,_=>rfl
    | 7,_=>rfl
    | 8,_=>rfl
    | 9,_=>rfl
    | 10,_=>rfl
    | 11,_=>exact absurd rfl hj
    | 12,hr=>exact absurd (hr.symm.trans (by kernel_rfl:reachB (opsOf 16 Tryz.f9.body) (opsOf 16 Tryz.f9.body).size 12 11=true)) (by decide)
    | k+13,_=>rfl
  ·intro o ac wa g K ho hd _ hoff hv hS hpre hnd hlater hK
   obtain ⟨v,hv9⟩:=Option.isSome_iff_exists.1 (show g.v.isSome=true from hpre 9 (by simp) (by kernel_rfl))
   obtain ⟨nb,hnb⟩:=Option.isSome_iff_exists.1 (show g.nb.isSome=true from hpre 11 (by simp) (by kernel_rfl))
   obtain ⟨a9,c9,rfl⟩:=(hS.v v hv9).isSl
   have hst:g.st=false:=by have:=hnd (by simp); simpa [done16] using this
   have e20:=hv 11 20 rfl (by kernel_rfl)
   have e168:=hv 10 168 rfl (by kernel_rfl)
   have hb:=(hS.nb nb hnb).2
   rw [hst] at hb
   have c0:wa.cell? ⟨nb,0,none⟩=some (.int .i64 0):=cell_at hb 0
   have c1:wa.cell? ⟨nb,1,none⟩=some (.slice none 0 0):=cell_at hb 1
   have z:=froz_at hb
   refine l_skip hd (w':=(wa.setCell ⟨nb,0,none⟩ (.int .i64 root)).setCell ⟨nb,1,none⟩ (.slice a9 (insL l key val).length c9)) (x_store (op_is rfl ho) (by
    rw [e20,e168]
    show (Instr.storeAt _ (pa (g.nb.getD 0) 0) (.agg #[.int .i64 root,g.v.getD undef])).run _ _=_
    rw [hnb,hv9]
    show (Instr.storeAt _ (pa nb 0) (.agg #[.int .i64 root,.slice a9 (insL l key val).length c9])).run _ _=_
    unfold pa
    go_simp)) ?_
   have htn:Turned [nb] wa ((wa.setCell ⟨nb,0,none⟩ (.int .i64 root)).setCell ⟨nb,1,none⟩ (.slice a9 (insL l key val).length c9)):=((Turned.refl _ _).set (.inl (by simp)) _ _).set (.inl (by simp)) _ _
   refine hK { g with st:=true } _ ⟨hS.turned.inner htn (fun x hx=>by simp at hx; subst hx; exact .inr (hS.nb _ hnb).1),fun v' hv'=>(hS.v v' hv').keep htn (fun q hq=>?_),fun nb' hnb'=>?_⟩ (by intro x hx; simp at hx; rcases hx with rfl | rfl | rfl <;> simp [done16]) fun j hj hr=>?_
   ·obtain ⟨cs,hc⟩:=ownPair (hS.v v' hv') hq
    simp only [List.mem_singleton]
    exact type_ne hc hb (by decide)
   ·have:nb'=nb:=by rw [hnb] at hnb'; cases hnb'; rfl
    subst this
    refine ⟨(hS.nb _ hnb).1,?_⟩
    show _=some (if true=true then verObj root (g.v.getD undef) else _)
    rw [if_pos rfl,hv9,blk_set (blk_set hb 0 _) 1 _]
    rfl
   ·match j,hr with
    | 0,_=>rfl
    | 1,_=>rfl
    | 2,_=>rfl
    | 3,_=>rfl
    | 4,_=>rfl
    | 5,_=>rfl
    | 6,_=>rfl
    | 7,_=>rfl
    | 8,_=>rfl
    | 9,_=>rfl
    | 10,_=>rfl
    | 11,_=>rfl
    | 12,_=>exact absurd rfl hj
    | k+13,_=>rfl
 ·intro a' w' g hsz hdf hoff hS hdn hval
  obtain ⟨v,hv9⟩:=Option.isSome_iff_exists.1 (show g.v.isSome=true from hdn 9 (by simp))
  obtain ⟨nb,hnb⟩:=Option.isSome_iff_exists.1 (show g.nb.isSome=true from hdn 11 (by simp))
  have hst:g.st=true:=hdn 12 (by simp)
  have hb:=(hS.nb nb hnb).2
  rw [hst,if_pos rfl,hv9] at hb
  exact hEnd a' w' v nb hsz hdf (fun s hs=>ev_same (hoff s hs)) ((hval 11 20 rfl).trans (by show pa (g.nb.getD 0) 0=_; rw [hnb]; rfl)) hS.turned hb (hS.v v hv9) (hS.nb nb hnb).1
end
end Go.Proofs.YtloljphbdfjgdaaGreatDoor
/- A drawn region of the statements' 'changed': nothing was changed. (Written by tools/gen/gentrie13.py.) -/
namespace Go.Proofs.YtloljphbdfjgdaaGreatDoor
open Go.RowKit
theorem edit_set {w:World} {b:Nat} {x0 x1 x2 x3 x4 y0 y1 y2 y3 y4:Value} (h:w.heap[b]?=some (.cells #[x0,x1,x2,x3,x4] 40 (0,0))) :
  (((((w.setCell ⟨b,0,none⟩ y0).setCell ⟨b,1,none⟩ y1).setCell ⟨b,2,none⟩ y2).setCell ⟨b,3,none⟩ y3).setCell ⟨b,4,none⟩ y4).heap[b]?=some (.cells #[y0,y1,y2,y3,y4] 40 (0,0)):=by
 rw [blk_set (blk_set (blk_set (blk_set (blk_set h 0 y0) 1 y1) 2 y2) 3 y3) 4 y4]
 rfl
theorem edit_turned (w:World) (b:Nat) (y0 y1 y2 y3 y4:Value):Turned [b] w (((((w.setCell ⟨b,0,none⟩ y0).setCell ⟨b,1,none⟩ y1).setCell ⟨b,2,none⟩ y2).setCell ⟨b,3,none⟩ y3).setCell ⟨b,4,none⟩ y4) :=
 ((((((Turned.refl _ _).set (.inl (by simp)) _ _).set (.inl (by simp)) _ _).set (.inl (by simp)) _ _).set (.inl (by simp)) _ _).set (.inl (by simp)) _ _)
def done13 (g:Option (Option Addr × Nat) × Bool):Nat→Bool
 | 4=>g.1.isSome
 | 25=>g.2
 | _=>false
structure S13 (At:World→Nat→List Nat→PSt→Prop) (w:World) (p bz:Nat) (F:List Nat) (s:PSt) (E:Obj) (g:Option (Option Addr × Nat) × Bool) (x:World):Prop where
 at_:At x p F s
 turned:Turned (F ++ [bz]) w x
 set:g.2=true→x.heap[bz]?=some E
 old:g.2=false→x.heap[bz]?=some (.cells #[.int .i64 0,.int .i64 0,.bool false,.slice none 0 0,.slice none 0 0] 40 (0,0))
section
variable {At:World→Nat→List Nat→PSt→Prop} (PL:PoolLaws At) {K:Act→World→Prop} {Q:Exit→Act→World→Prop} {a0:Act} {w:World} {p bz eb:Nat} {F:List Nat} {s:PSt} {St:List Nat} {it:Nat} {old n:Int} {had:Bool} {ga ma:Option Addr} {gc mc:Nat}
include PL
def chgV13 (p eb:Nat) (St:List Nat) (old n:Int) (had:Bool) (ga ma:Option Addr) (gc mc:Nat):Option (Option Addr × Nat) × Bool→Nat→Value:=fun g i=>match i with | 0=>(Value.agg #[.int .i64 0,.int .i64 old,.bool had,.slice ga 0 gc,.slice ma 0 mc]) | 1=>(Value.bool true) | 2=>(Value.bool true) | 3=>(pt p) | 4=>(match g.1 with | some y=>Value.slice y.1 St.length y.2 | none=>undef) | 5=>(Value.int IntKind.i64 St.length) | 6=>(Value.int IntKind.i64 n) | 7=>(Value.bool true) | 8=>(Value.bool true) | 9=>(Value.bool true) | 10=>(pa eb 0) | 11=>(Value.int IntKind.i64 0) | 12=>(Value.bool true) | 13=>(Value.bool true) | 14=>(Value.bool true) | 15=>(pa eb 3) | 16=>(Value.slice ga 0 gc) | 17=>(Value.int IntKind.i64 0) | 18=>(pa eb 4) | 19=>(Value.slice ma 0 mc) | 20=>(Value.int IntKind.i64 0) | 21=>(Value.int IntKind.i64 0) | 22=>(Value.bool true) | 23=>(Value.bool true) | 24=>(Value.pointer none) | 25=>undef | 26=>(Value.bool true) | _=>undef
set_option maxRecDepth 100000 in
set_option maxHeartbeats 1600000 in
theorem chg_r13 (hs:a0.tmps.size=178) (x0:a0.eval (.tmp 0)=pt p) (x9:a0.eval (.tmp 9)=pa bz 0) (x13:a0.eval (.tmp 13)=.int .i64 n) (x14:a0.eval (.tmp 14)=pa eb 0) (x19:a0.eval (.tmp 19)=.bool true)
  (hA:At w p F s) (hV:PV s St it) (hbz:w.heap[bz]?=some (.cells #[.int .i64 0,.int .i64 0,.bool false,.slice none 0 0,.slice none 0 0] 40 (0,0))) (heb:w.heap[eb]?=some (.cells #[.int .i64 0,.int .i64 old,.bool had,.slice ga 0 gc,.slice ma 0 mc] 40 (0,0))) (nbz:bz∉F) (neb:eb∉F) (nez:eb≠bz) (hn:(St.length:Int)=n)
  (hEnd:∀ a' x,a'.tmps.size=a0.tmps.size→a'.defers=a0.defers→(∀ s,some s∉([some 104,some 105,some 106,some 107,some 108,some 109,some 110,some 111,some 112,some 113,some 114,some 115,some 116,some 117,some 118,some 119,some 120,some 121,some 122,some 123,some 124,some 125,some 126,some 127,some 8,none,some 10]:List (Option Nat))→a'.eval (.tmp s)=a0.eval (.tmp s))→a'.eval (.tmp 8)=.pointer none→a'.eval (.tmp 10)=.bool true→At x p F s→Turned (F ++ [bz]) w x→x.heap[bz]?=some (.cells #[.int .i64 0,.int .i64 old,.bool had,.slice ga 0 gc,.slice ma 0 mc] 40 (0,0))→K a' x):(Code.region 13 (opsOf 13 Tryz.f9.body) true).wp Tryz.prog (Exit.then K Q) a0 w:=by
 refine wp_region_ghost3 (G:=Option (Option Addr × Nat) × Bool) (by kernel_rfl) [some 104,some 105,some 106,some 107,some 108,some 109,some 110,some 111,some 112,some 113,some 114,some 115,some 116,some 117,some 118,some 119,some 120,some 121,some 122,some 123,some 124,some 125,some 126,some 127,some 8,none,some 10] (by rw [hs]; kernel_rfl) (chgV13 p eb St old n had ga ma gc mc) [4,25] ?_ (done13) (S13 At w p bz F s (.cells #[.int .i64 0,.int .i64 old,.bool had,.slice ga 0 gc,.slice ma 0 mc] 40 (0,0))) ((none,false)) (⟨PL.keep hA (Turned.refl [] _).drew (by simp),(Turned.refl _ _).drew,(fun h=>by cases h),fun _=>hbz⟩) (by intro x hx; simp at hx; rcases hx with rfl | rfl <;> rfl) (by decide) ?_ ?_
 ·intro i g b h γ
  have hi:i < 27:=by
   apply Classical.byContradiction
   intro hn
   rw [show (opsOf 13 Tryz.f9.body)[i]?=none from Array.getElem?_eq_none (by have:(opsOf 13 Tryz.f9.body).size=27:=(by kernel_rfl); omega)] at h
   cases h
  rcases (by omega:i=0∨i=1∨i=2∨i=3∨i=4∨i=5∨i=6∨i=7∨i=8∨i=9∨i=10∨i=11∨i=12∨i=13∨i=14∨i=15∨i=16∨i=17∨i=18∨i=19∨i=20∨i=21∨i=22∨i=23∨i=24∨i=25∨i=26) with rfl | rfl | rfl | rfl | rfl | rfl | rfl | rfl | rfl | rfl | rfl | rfl | rfl | rfl | rfl | rfl | rfl | rfl | rfl | rfl | rfl | rfl | rfl | rfl | rfl | rfl | rfl
  ·exact absurd h (gNo (by kernel_rfl))
  ·exact absurd h (gNo (by kernel_rfl))
  ·exact absurd h (gNo (by kernel_rfl))
  ·rw [show ((opsOf 13 Tryz.f9.body)[3]?).bind (fun o:Oper=>o.guard)=some (2,true) from by kernel_rfl] at h
   obtain ⟨rfl,rfl⟩:2=g∧true=b:=by simpa using h
   exact .inl ⟨true,rfl,fun hne=>absurd rfl hne⟩
  ·rw [show ((opsOf 13 Tryz.f9.body)[4]?).bind (fun o:Oper=>o.guard)=some (2,true) from by kernel_rfl] at h
   obtain ⟨rfl,rfl⟩:2=g∧true=b:=by simpa using h
   exact .inl ⟨true,rfl,fun hne=>absurd rfl hne⟩
  ·rw [show ((opsOf 13 Tryz.f9.body)[5]?).bind (fun o:Oper=>o.guard)=some (2,true) from by kernel_rfl] at h
   obtain ⟨rfl,rfl⟩:2=g∧true=b:=by simpa using h
   exact .inl ⟨true,rfl,fun hne=>absurd rfl hne⟩
  ·rw [show ((opsOf 13 Tryz.f9.body)[6]?).bind (fun o:Oper=>o.guard)=some (2,true) from by kernel_rfl] at h
   obtain ⟨rfl,rfl⟩:2=g∧true=b:=by simpa using h
   exact .inl ⟨true,rfl,fun hne=>absurd rfl hne⟩
  ·rw [show ((opsOf 13 Tryz.f9.body)[7]?).bind (fun o:Oper=>o.guard)=some (2,true) from by kernel_rfl] at h
   obtain ⟨rfl,rfl⟩:2=g∧true=b:=by simpa using h
   exact .inl ⟨true,rfl,fun hne=>absurd rfl hne⟩
  ·exact absurd h (gNo (by kernel_rfl))
  ·exact absurd h (gNo (by kernel_rfl))
  ·rw [show ((opsOf 13 Tryz.f9.body)[10]?).bind (fun o:Oper=>o.guard)=some (9,true) from by kernel_rfl] at h
   obtain ⟨rfl,rfl⟩:9=g∧true=b:=by simpa using h
   exact .inl ⟨true,rfl,fun hne=>absurd rfl hne⟩
  ·rw [show ((opsOf 13 Tryz.f9.body)[11]?).bind (fun o:Oper=>o.guard)=some (9,true) from by kernel_rfl] at h
   obtain ⟨rfl,rfl⟩:9=g∧true=b:=by simpa using h
   exact .inl ⟨true,rfl,fun hne=>absurd rfl hne⟩
  ·rw [show ((opsOf 13 Tryz.f9.body)[12]?).bind (fun o:Oper=>o.guard)=some (9,true) from by kernel_rfl] at h
   obtain ⟨rfl,rfl⟩:9=g∧true=b:=by simpa using h
   exact .inl ⟨true,rfl,fun hne=>absurd rfl hne⟩
  ·exact absurd h (gNo (by kernel_rfl))
  ·exact absurd h (gNo (by kernel_rfl))
  ·rw [show ((opsOf 13 Tryz.f9.body)[15]?).bind (fun o:Oper=>o.guard)=some (14,true) from by kernel_rfl] at h
   obtain ⟨rfl,rfl⟩:14=g∧true=b:=by simpa using h
   exact .inl ⟨true,rfl,fun hne=>absurd rfl hne⟩
  ·rw [show ((opsOf 13 Tryz.f9.body)[16]?).bind (fun o:Oper=>o.guard)=some (14,true) from by kernel_rfl] at h
   obtain ⟨rfl,rfl⟩:14=g∧true=b:=by simpa using h
   exact .inl ⟨true,rfl,fun hne=>absurd rfl hne⟩
  ·rw [show ((opsOf 13 Tryz.f9.body)[17]?).bind (fun o:Oper=>o.guard)=some (14,true) from by kernel_rfl] at h
   obtain ⟨rfl,rfl⟩:14=g∧true=b:=by simpa using h
   exact .inl ⟨true,rfl,fun hne=>absurd rfl hne⟩
  ·rw [show ((opsOf 13 Tryz.f9.body)[18]?).bind (fun o:Oper=>o.guard)=some (14,true) from by kernel_rfl] at h
   obtain ⟨rfl,rfl⟩:14=g∧true=b:=by simpa using h
   exact .inl ⟨true,rfl,fun hne=>absurd rfl hne⟩
  ·rw [show ((opsOf 13 Tryz.f9.body)[19]?).bind (fun o:Oper=>o.guard)=some (14,true) from by kernel_rfl] at h
   obtain ⟨rfl,rfl⟩:14=g∧true=b:=by simpa using h
   exact .inl ⟨true,rfl,fun hne=>absurd rfl hne⟩
  ·rw [show ((opsOf 13 Tryz.f9.body)[20]?).bind (fun o:Oper=>o.guard)=some (14,true) from by kernel_rfl] at h
   obtain ⟨rfl,rfl⟩:14=g∧true=b:=by simpa using h
   exact .inl ⟨true,rfl,fun hne=>absurd rfl hne⟩
  ·rw [show ((opsOf 13 Tryz.f9.body)[21]?).bind (fun o:Oper=>o.guard)=some (14,true) from by kernel_rfl] at h
   obtain ⟨rfl,rfl⟩:14=g∧true=b:=by simpa using h
   exact .inl ⟨true,rfl,fun hne=>absurd rfl hne⟩
  ·rw [show ((opsOf 13 Tryz.f9.body)[22]?).bind (fun o:Oper=>o.guard)=some (14,true) from by kernel_rfl] at h
   obtain ⟨rfl,rfl⟩:14=g∧true=b:=by simpa using h
   exact .inl ⟨true,rfl,fun hne=>absurd rfl hne⟩
  ·exact absurd h (gNo (by kernel_rfl))
  ·exact absurd h (gNo (by kernel_rfl))
  ·exact absurd h (gNo (by kernel_rfl))
  ·exact absurd h (gNo (by kernel_rfl))
 ·intro i hi hgd
  rcases (by simp at hi; omega:i=0∨i=1∨i=2∨i=3∨i=4∨i=5∨i=6∨i=7∨i=8∨i=9∨i=10∨i=11∨i=12∨i=13∨i=14∨i=15∨i=16∨i=17∨i=18∨i=19∨i=20∨i=21∨i=22∨i=23∨i=24∨i=25∨i=26) with rfl | rfl | rfl | rfl | rfl | rfl | rfl | rfl | rfl | rfl | rfl | rfl | rfl | rfl | rfl | rfl | rfl | rfl | rfl | rfl | rfl | rfl | rfl | rfl | rfl | rfl | rfl
  ·refine soft (by decide) ?_
   intro o ac wa g ho hoff hv hS hdn
   have hc0:=cell_at (hS.turned.heap heb (by simp; exact ⟨neb,nez⟩)) 0
   have hc1:=cell_at (hS.turned.heap heb (by simp; exact ⟨neb,nez⟩)) 1
   have hc2:=cell_at (hS.turned.heap heb (by simp; exact ⟨neb,nez⟩)) 2
   have hc3:=cell_at (hS.turned.heap heb (by simp; exact ⟨neb,nez⟩)) 3
   have hc4:=cell_at (hS.turned.heap heb (by simp; exact ⟨neb,nez⟩)) 4
   exact x_load (op_is rfl ho) (by rw [((hoff 14 (by decide)).trans x14)]; show (Instr.loadAt _ (pa _ _)).run _ _=_; unfold pa; simp at hc0 hc1 hc2 hc3 hc4; go_simp; rfl)
  ·refine soft (by decide) ?_
   intro o ac wa g ho hoff hv hS hdn
   exact (x_move (op_is rfl ho)).trans (by rw [((hoff 19 (by decide)).trans x19)]; rfl)
  ·refine soft (by decide) ?_
   intro o ac wa g ho hoff hv hS hdn
   exact (x_move (op_is rfl ho)).trans (by rw [(hv 1 105 rfl (by kernel_rfl))]; rfl)
  ·refine soft (by decide) ?_
   intro o ac wa g ho hoff hv hS hdn
   exact (x_move (op_is rfl ho)).trans (by rw [((hoff 0 (by decide)).trans x0)]; rfl)
  ·intro o ac wa g K ho hd _ hoff hv hS hpre hnd hlater hK
   have hg:g.1=none:=by have:=hnd (by simp); simpa [done13] using this
   have hst:g.2=false:=hlater 25 (by simp) (by kernel_rfl)
   refine l_callE (op_is rfl ho) (xs:=#[pt p]) (by simp only [List.map_toArray,List.map_cons,List.map_nil]; rw [hv 3 107 rfl (by kernel_rfl)]; rfl) Tryz.func29 (by kernel_rfl) rfl (PL.free hS.at_ hV.ok hV.top hV.nodup hV.small) ?_
   rintro e w' ⟨⟨a5,c5,rfl⟩,ht,hA'⟩
   refine ⟨_,rfl,?_⟩
   rw [hd]
   refine hK (some (a5,c5),g.2) w' ⟨hA',hS.turned.trans (ht.mono (by simp; exact fun x hx=>.inl hx)),(fun h=>by rw [hst] at h; cases h),fun h=>ht.heap (hS.old h) nbz⟩ (by intro x hx; simp at hx; rcases hx with rfl | rfl <;> simp [done13,hst]) fun j hj hr=>?_
   match j,hr with
   | 0,_=>rfl
   | 1,_=>rfl
   | 2,_=>rfl
   | 3,_=>rfl
   | 4,_=>exact absurd rfl hj
   | 5,_=>rfl
   | 6,_=>rfl
   | 7,_=>rfl
   | 8,_=>rfl
   | 9,_=>rfl
   | 10,_=>rfl
   | 11,_=>rfl
   | 12,_=>rfl
   | 13,_=>rfl
   | 14,_=>rfl
   | 15,_=>rfl
   | 16,_=>rfl
   | 17,_=>rfl
   | 18,_=>rfl
   | 19,_=>rfl
   | 20,_=>rfl
   | 21,_=>rfl
   | 22,_=>rfl
   | 23,_=>rfl
   | 24,_=>rfl
   | 25,_=>rfl
   | 26,_=>rfl
   | k+27,_=>rfl
  ·refine soft (by decide) ?_
   intro o ac wa g ho hoff hv hS hdn
   obtain ⟨y,hy⟩:=Option.isSome_iff_exists.1 (show g.1.isSome=true from hdn 4 (by simp) (by kernel_rfl))
   exact x_lenG (op_is rfl ho) ((hv 4 108 rfl (by kernel_rfl)).trans (by show (match g.1 with | some y=>Value.slice y.1 St.length y.2 | none=>undef)=_; rw [hy])) undIntsG
  ·refine soft (by decide) ?_
   intro o ac wa g ho hoff hv hS hdn
   exact (x_move (op_is rfl ho)).trans (by rw [((hoff 13 (by decide)).trans x13)]; rfl)
  ·refine soft (by decide) ?_
   intro o ac wa g ho hoff hv hS hdn
   exact (x_eqlN (op_is rfl ho) (hv 5 109 rfl (by kernel_rfl)) (hv 6 110 rfl (by kernel_rfl))).trans (by rw [show ((St.length:Int) == n)=true by simp [hn]]; rfl)
  ·refine soft (by decide) ?_
   intro o ac wa g ho hoff hv hS hdn
   exact (x_pickG (op_is rfl ho) ((hv 2 106 rfl (by kernel_rfl)))).trans (by rw [if_pos rfl,(hv 7 111 rfl (by kernel_rfl))]; rfl)
  ·refine soft (by decide) ?_
   intro o ac wa g ho hoff hv hS hdn
   exact (x_move (op_is rfl ho)).trans (by rw [(hv 8 112 rfl (by kernel_rfl))]; rfl)
  ·refine soft (by decide) ?_
   intro o ac wa g ho hoff hv hS hdn
   exact x_field (op_is rfl ho) (by rw [((hoff 14 (by decide)).trans x14)]; show (Instr.fieldAt _ (pa _ _) _).run _ _=.ok (pa _ _) _; unfold pa; go_simp)
  ·refine soft (by decide) ?_
   intro o ac wa g ho hoff hv hS hdn
   have hc:=cell_at (hS.turned.heap heb (by simp; exact ⟨neb,nez⟩)) 0
   exact x_load (op_is rfl ho) (by rw [(hv 10 114 rfl (by kernel_rfl))]; show (Instr.loadAt _ (pa _ _)).run _ _=_; unfold pa; go_simp; rfl)
  ·refine soft (by decide) ?_
   intro o ac wa g ho hoff hv hS hdn
   exact (x_eqlN (op_is rfl ho) (hv 11 115 rfl (by kernel_rfl)) rfl).trans rfl
  ·refine soft (by decide) ?_
   intro o ac wa g ho hoff hv hS hdn
   exact (x_pickG (op_is rfl ho) ((hv 9 113 rfl (by kernel_rfl)))).trans (by rw [if_pos rfl,(hv 12 116 rfl (by kernel_rfl))]; rfl)
  ·refine soft (by decide) ?_
   intro o ac wa g ho hoff hv hS hdn
   exact (x_move (op_is rfl ho)).trans (by rw [(hv 13 117 rfl (by kernel_rfl))]; rfl)
  ·refine soft (by decide) ?_
   intro o ac wa g ho hoff hv hS hdn
   exact x_field (op_is rfl ho) (by rw [((hoff 14 (by decide)).trans x14)]; show (Instr.fieldAt _ (pa _ _) _).run _ _=.ok (pa _ _) _; unfold pa; go_simp)
  ·refine soft (by decide) ?_
   intro o ac wa g ho hoff hv hS hdn
   have hc:=cell_at (hS.turned.heap heb (by simp; exact ⟨neb,nez⟩)) 3
   exact x_load (op_is rfl ho) (by rw [(hv 15 119 rfl (by kernel_rfl))]; show (Instr.loadAt _ (pa _ _)).run _ _=_; unfold pa; go_simp; rfl)
  ·refine soft (by decide) ?_
   intro o ac wa g ho hoff hv hS hdn
   exact x_lenG (n:=0) (op_is rfl ho) (hv 16 120 rfl (by kernel_rfl)) undIntsG
  ·refine soft (by decide) ?_
   intro o ac wa g ho hoff hv hS hdn
   exact x_field (op_is rfl ho) (by rw [((hoff 14 (by decide)).trans x14)]; show (Instr.fieldAt _ (pa _ _) _).run _ _=.ok (pa _ _) _; unfold pa; go_simp)
  ·refine soft (by decide) ?_
   intro o ac wa g ho hoff hv hS hdn
   have hc:=cell_at (hS.turned.heap heb (by simp; exact ⟨neb,nez⟩)) 4
   exact x_load (op_is rfl ho) (by rw [(hv 18 122 rfl (by kernel_rfl))]; show (Instr.loadAt _ (pa _ _)).run _ _=_; unfold pa; go_simp; rfl)
  ·refine soft (by decide) ?_
   intro o ac wa g ho hoff hv hS hdn
   exact x_lenG (n:=0) (op_is rfl ho) (hv 19 123 rfl (by kernel_rfl)) undIntsG
  ·refine soft (by decide) ?_
   intro o ac wa g ho hoff hv hS hdn
   exact x_addN (a:=0) (b:=0) (op_is rfl ho) (hv 17 121 rfl (by kernel_rfl)) (hv 20 124 rfl (by kernel_rfl)) (by decide) (by decide)
  ·refine soft (by decide) ?_
   intro o ac wa g ho hoff hv hS hdn
   exact (x_eqlN (op_is rfl ho) (hv 21 125 rfl (by kernel_rfl)) rfl).trans rfl
  ·refine soft (by decide) ?_
   intro o ac wa g ho hoff hv hS hdn
   exact (x_pickG (op_is rfl ho) ((hv 14 118 rfl (by kernel_rfl)))).trans (by rw [if_pos rfl,(hv 22 126 rfl (by kernel_rfl))]; rfl)
  ·refine soft (by decide) ?_
   intro o ac wa g ho hoff hv hS hdn
   exact (x_assign (op_is rfl ho)).trans (rfl)
  ·intro o ac wa g K ho hd _ hoff hv hS hpre hnd hlater hK
   have hst:g.2=false:=by have:=hnd (by simp); simpa [done13] using this
   have e9:=(hoff 9 (by decide)).trans x9
   have e104:=hv 0 104 rfl (by kernel_rfl)
   have hz:=hS.old hst
   have c0:wa.cell? ⟨bz,0,none⟩=some (.int .i64 0):=cell_at hz 0
   have c1:wa.cell? ⟨bz,1,none⟩=some (.int .i64 0):=cell_at hz 1
   have c2:wa.cell? ⟨bz,2,none⟩=some (.bool false):=cell_at hz 2
   have c3:wa.cell? ⟨bz,3,none⟩=some (.slice none 0 0):=cell_at hz 3
   have c4:wa.cell? ⟨bz,4,none⟩=some (.slice none 0 0):=cell_at hz 4
   have z:=froz_at hz
   have htn:=edit_turned wa bz (.int .i64 0) (.int .i64 old) (.bool had) (.slice ga 0 gc) (.slice ma 0 mc)
   have hen:=edit_set (y0:=.int .i64 0) (y1:=.int .i64 old) (y2:=.bool had) (y3:=.slice ga 0 gc) (y4:=.slice ma 0 mc) hz
   refine l_skip hd (x_store (op_is rfl ho) (by
    rw [e9,e104]
    show (Instr.storeAt _ (pa bz 0) (.agg #[.int .i64 0,.int .i64 old,.bool had,.slice ga 0 gc,.slice ma 0 mc])).run _ _=.ok () (((((wa.setCell ⟨bz,0,none⟩ (.int .i64 0)).setCell ⟨bz,1,none⟩ (.int .i64 old)).setCell ⟨bz,2,none⟩ (.bool had)).setCell ⟨bz,3,none⟩ (.slice ga 0 gc)).setCell ⟨bz,4,none⟩ (.slice ma 0 mc))
    unfold pa
    go_simp)) ?_
   refine hK (g.1,true) _ ⟨PL.keep hS.at_ htn (by simpa using nbz),hS.turned.trans (htn.mono (by simp)),fun _=>hen,fun h=>by cases h⟩ (by intro x hx; simp at hx; rcases hx with rfl | rfl <;> simp [done13]) fun j hj hr=>?_
   match j,hr with
   | 0,_=>rfl
   | 1,_=>rfl
   | 2,_=>rfl
   | 3,_=>rfl
   | 4,_=>rfl
   | 5,_=>rfl
   | 6,_=>rfl
   | 7,_=>rfl
   | 8,_=>rfl
   | 9,_=>rfl
   | 10,_=>rfl
   | 11,_=>rfl
   | 12,_=>rfl
   | 13,_=>rfl
   | 14,_=>rfl
   | 15,_=>rfl
   | 16,_=>rfl
   | 17,_=>rfl
   | 18,_=>rfl
   | 19,_=>rfl
   | 20,_=>rfl
   | 21,_=>rfl
   | 22,_=>rfl
   | 23,_=>rfl
   | 24,_=>rfl
   | 25,_=>exact absurd rfl hj
   | 26,_=>rfl
   | k+27,_=>rfl
  ·refine soft (by decide) ?_
   intro o ac wa g ho hoff hv hS hdn
   exact (x_assign (op_is rfl ho)).trans (by rw [(hv 23 127 rfl (by kernel_rfl))]; rfl)
 ·intro a' w' g hsz hdf hoff hS hdn hval
  exact hEnd a' w' hsz hdf (fun s hs=>ev_same (hoff s hs)) (hval 24 8 rfl) (hval 26 10 rfl) hS.at_ hS.turned (hS.set (hdn 25 (by simp)))
end
end Go.Proofs.YtloljphbdfjgdaaGreatDoor
/- A frame, spelled out. -/
namespace Go.Proofs.YtloljphbdfjgdaaGreatDoor
open Go.RowKit
def lit178 (c:Nat→Value):Array Value:=#[c 0,c 1,c 2,c 3,c 4,c 5,c 6,c 7,c 8,c 9,c 10,c 11,c 12,c 13,c 14,c 15,c 16,c 17,c 18,c 19,c 20,c 21,c 22,c 23,c 24,c 25,c 26,c 27,c 28,c 29,c 30,c 31,c 32,c 33,c 34,c 35,c 36,c 37,c 38,c 39,c 40,c 41,c 42,c 43,c 44,c 45,c 46,c 47,c 48,c 49,c 50,c 51,c 52,c 53,c 54,c 55,c 56,c 57,c 58,c 59,c 60,c 61,c 62,c 63,c 64,c 65,c 66,c 67,c 68,c 69,c 70,c 71,c 72,c 73,c 74,c 75,c 76,c 77,c 78,c 79,c 80,c 81,c 82,c 83,c 84,c 85,c 86,c 87,c 88,c 89,c 90,c 91,c 92,c 93,c 94,c 95,c 96,c 97,c 98,c 99,c 100,c 101,c 102,c 103,c 104,c 105,c 106,c 107,c 108,c 109,c 110,c 111,c 112,c 113,c 114,c 115,c 116,c 117,c 118,c 119,c 120,c 121,c 122,c 123,c 124,c 125,c 126,c 127,c 128,c 129,c 130,c 131,c 132,c 133,c 134,c 135,c 136,c 137,c 138,c 139,c 140,c 141,c 142,c 143,c 144,c 145,c 146,c 147,c 148,c 149,c 150,c 151,c 152,c 153,c 154,c 155,c 156,c 157,c 158,c 159,c 160,c 161,c 162,c 163,c 164,c 165,c 166,c 167,c 168,c 169,c 170,c 171,c 172,c 173,c 174,c 175,c 176,c 177]
set_option maxRecDepth 100000 in
theorem lit178_eq (c:Nat→Value):lit178 c=((List.range 178).map c).toArray:=by rfl
theorem expand178 {a:Act} (hs:a.tmps.size=178) (hd:a.defers=[]):∃ c:Nat→Value,a=⟨lit178 c,[]⟩∧∀ s,c s=a.eval (.tmp s):=by
 refine ⟨fun s=>a.tmps.getD s undef,?_,fun s=>rfl⟩
 obtain ⟨t,d⟩:=a
 simp only at hs hd
 subst hd
 congr 1
 rw [lit178_eq]
 refine Array.ext (by simp [hs]) fun i h1 h2=>?_
 simp [Array.getD,h1]
end Go.Proofs.YtloljphbdfjgdaaGreatDoor

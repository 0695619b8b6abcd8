/- Drawn regions of the statements' 'tells' that only read. (Written by tools/gen/gentells15.py.) -/
import Derived.Test.YtcinlaacgbfojaaGreatDoorJ39
import Derived.Test.YtcinlaacgbfojaaGreatDoorJ14
namespace Go.Proofs.YtcinlaacgbfojaaGreatDoor
open Go.RowKit
theorem x_neqPr {ρ:Operand→Value} {o:Oper} {w:World} {x y:Operand} {t:TypeId} {a b:Int} (h:o.op=.binOp .neq 28 x y t) (hx:ρ x=.agg #[.int .i64 a,.int .i64 b]) (hy:ρ y=.agg #[.int .i64 a,.int .i64 b]):(execOp ρ o).run Tryz.prog w=.ok (.value (.bool false)) w :=
 x_bin h hx hy (by go_simp) (by go_simp)
theorem x_lssN {ρ:Operand→Value} {o:Oper} {w:World} {x y:Operand} {t:TypeId} {a b:Int} (h:o.op=.binOp .lss 3 x y t) (hx:ρ x=.int .i64 a) (hy:ρ y=.int .i64 b):(execOp ρ o).run Tryz.prog w=.ok (.value (.bool (decide (a < b)))) w :=
 x_bin h hx hy (by go_simp) (by go_simp)
section
variable {At:World→Nat→List Nat→PSt→Prop} {Tb:World→Nat→Nat→Prop} (PL:PoolLaws At) (TL:TrieLaws At Tb) {K:Act→World→Prop} {Q:Exit→Act→World→Prop} {a0:Act} {W w:World} {S p tb lg lc i b24 b26:Nat} {F:List Nat} {s:PSt} {tr:Option Tr} {k v u1 u2:Int}
include PL TL
def telr15V (lg lc i:Nat) (tr:Option Tr) (k v:Int):Nat→Value:=fun j=>match j with | 0=>(Value.bool true) | 1=>(Value.bool false) | 2=>(Value.bool false) | 3=>(Value.int IntKind.i64 v) | 4=>(Value.slice (some ⟨lg,0,none⟩) (prs tr).length lc) | 5=>(Value.int IntKind.i64 i) | 6=>(pa lg (i * 2)) | 7=>(pa lg (i * 2+1)) | 8=>(Value.int IntKind.i64 v) | 9=>(Value.bool false) | 10=>(Value.bool false) | 11=>(Value.bool false) | 12=>(Value.int IntKind.i64 0) | 13=>(Value.int IntKind.i64 0) | 14=>(Value.int IntKind.i64 0) | 15=>(Value.int IntKind.i64 0) | 16=>(Value.int IntKind.i64 0) | 17=>(Value.int IntKind.i64 0) | 18=>(Value.int IntKind.i64 0) | 19=>(Value.int IntKind.i64 0) | 20=>(Value.bool false) | 21=>(Value.bool false) | 22=>(Value.bool false) | 23=>(Value.int IntKind.i64 i) | 24=>(Value.int IntKind.i64 i) | 25=>(Value.bool false) | 26=>(Value.bool false) | 27=>(Value.bool false) | 28=>(Value.agg #[.int .i64 k,.int .i64 v]) | 29=>(Value.slice (some ⟨lg,0,none⟩) (prs tr).length lc) | 30=>(Value.int IntKind.i64 i) | 31=>(pa lg (i * 2)) | 32=>(Value.agg #[.int .i64 k,.int .i64 v]) | 33=>(Value.bool false) | 34=>(Value.bool false) | _=>undef
set_option maxRecDepth 100000 in
set_option maxHeartbeats 1600000 in
theorem tel_r15 (hs:a0.tmps.size=299) (x9:a0.eval (.tmp 9)=(Value.slice (some ⟨lg,0,none⟩) (prs tr).length lc)) (x18:a0.eval (.tmp 18)=.int .i64 i) (x19:a0.eval (.tmp 19)=.int .i64 v) (x20:a0.eval (.tmp 20)=.bool true) (x21:a0.eval (.tmp 21)=.int .i64 0) (x22:a0.eval (.tmp 22)=.int .i64 i) (x23:a0.eval (.tmp 23)=.int .i64 0) (x24:a0.eval (.tmp 24)=pa b24 0) (x25:a0.eval (.tmp 25)=.int .i64 0) (hW:TW At Tb W S p tb F s tr lg lc w) (hix:i < (prs tr).length) (hk:k=(prs tr)[i].1) (hv_:v=(prs tr)[i].2) (h24:w.heap[b24]?=some (pairObj k v))
  (hEnd:∀ a' x,a'.tmps.size=a0.tmps.size→a'.defers=a0.defers→(∀ s,some s∉([some 150,some 151,some 152,some 153,some 154,some 155,some 156,some 157,some 158,some 159,some 160,some 161,some 162,some 163,some 164,some 165,some 166,some 167,some 168,some 169,some 170,some 171,some 172,some 173,some 174,some 175,some 176,some 177,some 178,some 179,some 180,some 181,some 182,some 183,some 184]:List (Option Nat))→a'.eval (.tmp s)=a0.eval (.tmp s))→a'.eval (.tmp 184)=.bool false→TW At Tb W S p tb F s tr lg lc x→Turned [] w x→K a' x):(Code.region 15 (opsOf 15 Tryz.f14.body) true).wp Tryz.prog (Exit.then K Q) a0 w:=by
 have hi2:(i:Int) < ((prs tr).length:Int):=by omega
 refine wp_region_ghost3 (G:=Unit) (by kernel_rfl) [some 150,some 151,some 152,some 153,some 154,some 155,some 156,some 157,some 158,some 159,some 160,some 161,some 162,some 163,some 164,some 165,some 166,some 167,some 168,some 169,some 170,some 171,some 172,some 173,some 174,some 175,some 176,some 177,some 178,some 179,some 180,some 181,some 182,some 183,some 184] (by rw [hs]; kernel_rfl) (fun _=>telr15V lg lc i tr k v) [] ?_ (fun _ _=>false) (fun _ x=>TW At Tb W S p tb F s tr lg lc x∧Turned [] w x) (()) (⟨hW.fresh PL TL (Turned.refl [] _).drew,(Turned.refl _ _).drew⟩) (by simp) (by decide) ?_ ?_
 ·intro i g b h γ
  have hi:i < 35:=by
   apply Classical.byContradiction
   intro hn
   rw [show (opsOf 15 Tryz.f14.body)[i]?=none from Array.getElem?_eq_none (by have:(opsOf 15 Tryz.f14.body).size=35:=(by kernel_rfl); omega)] at h
   cases h
  rcases (by omega:i=0∨i=1∨i=2∨i=3∨i=4∨i=5∨i=6∨i=7∨i=8∨i=9∨i=10∨i=11∨i=12∨i=13∨i=14∨i=15∨i=16∨i=17∨i=18∨i=19∨i=20∨i=21∨i=22∨i=23∨i=24∨i=25∨i=26∨i=27∨i=28∨i=29∨i=30∨i=31∨i=32∨i=33∨i=34) with rfl | rfl | rfl | rfl | rfl | rfl | rfl | rfl | rfl | rfl | rfl | rfl | rfl | rfl | rfl | rfl | rfl | rfl | rfl | rfl | rfl | rfl | rfl | rfl | rfl | rfl | rfl | rfl | rfl | rfl | rfl | rfl | rfl | rfl | rfl
  ·exact absurd h (gNo (by kernel_rfl))
  ·exact absurd h (gNo (by kernel_rfl))
  ·exact absurd h (gNo (by kernel_rfl))
  ·rw [show ((opsOf 15 Tryz.f14.body)[3]?).bind (fun o:Oper=>o.guard)=some (2,false) from by kernel_rfl] at h
   obtain ⟨rfl,rfl⟩:2=g∧false=b:=by simpa using h
   exact .inl ⟨false,rfl,fun hne=>absurd rfl hne⟩
  ·rw [show ((opsOf 15 Tryz.f14.body)[4]?).bind (fun o:Oper=>o.guard)=some (2,false) from by kernel_rfl] at h
   obtain ⟨rfl,rfl⟩:2=g∧false=b:=by simpa using h
   exact .inl ⟨false,rfl,fun hne=>absurd rfl hne⟩
  ·rw [show ((opsOf 15 Tryz.f14.body)[5]?).bind (fun o:Oper=>o.guard)=some (2,false) from by kernel_rfl] at h
   obtain ⟨rfl,rfl⟩:2=g∧false=b:=by simpa using h
   exact .inl ⟨false,rfl,fun hne=>absurd rfl hne⟩
  ·rw [show ((opsOf 15 Tryz.f14.body)[6]?).bind (fun o:Oper=>o.guard)=some (2,false) from by kernel_rfl] at h
   obtain ⟨rfl,rfl⟩:2=g∧false=b:=by simpa using h
   exact .inl ⟨false,rfl,fun hne=>absurd rfl hne⟩
  ·rw [show ((opsOf 15 Tryz.f14.body)[7]?).bind (fun o:Oper=>o.guard)=some (2,false) from by kernel_rfl] at h
   obtain ⟨rfl,rfl⟩:2=g∧false=b:=by simpa using h
   exact .inl ⟨false,rfl,fun hne=>absurd rfl hne⟩
  ·rw [show ((opsOf 15 Tryz.f14.body)[8]?).bind (fun o:Oper=>o.guard)=some (2,false) from by kernel_rfl] at h
   obtain ⟨rfl,rfl⟩:2=g∧false=b:=by simpa using h
   exact .inl ⟨false,rfl,fun hne=>absurd rfl hne⟩
  ·rw [show ((opsOf 15 Tryz.f14.body)[9]?).bind (fun o:Oper=>o.guard)=some (2,false) from by kernel_rfl] at h
   obtain ⟨rfl,rfl⟩:2=g∧false=b:=by simpa using h
   exact .inl ⟨false,rfl,fun hne=>absurd rfl hne⟩
  ·exact absurd h (gNo (by kernel_rfl))
  ·exact absurd h (gNo (by kernel_rfl))
  ·rw [show ((opsOf 15 Tryz.f14.body)[12]?).bind (fun o:Oper=>o.guard)=some (11,false) from by kernel_rfl] at h
   obtain ⟨rfl,rfl⟩:11=g∧false=b:=by simpa using h
   exact .inl ⟨false,rfl,fun hne=>absurd rfl hne⟩
  ·rw [show ((opsOf 15 Tryz.f14.body)[13]?).bind (fun o:Oper=>o.guard)=some (11,false) from by kernel_rfl] at h
   obtain ⟨rfl,rfl⟩:11=g∧false=b:=by simpa using h
   exact .inl ⟨false,rfl,fun hne=>absurd rfl hne⟩
  ·rw [show ((opsOf 15 Tryz.f14.body)[14]?).bind (fun o:Oper=>o.guard)=some (11,false) from by kernel_rfl] at h
   obtain ⟨rfl,rfl⟩:11=g∧false=b:=by simpa using h
   exact .inl ⟨false,rfl,fun hne=>absurd rfl hne⟩
  ·rw [show ((opsOf 15 Tryz.f14.body)[15]?).bind (fun o:Oper=>o.guard)=some (11,false) from by kernel_rfl] at h
   obtain ⟨rfl,rfl⟩:11=g∧false=b:=by simpa using h
   exact .inl ⟨false,rfl,fun hne=>absurd rfl hne⟩
  ·rw [show ((opsOf 15 Tryz.f14.body)[16]?).bind (fun o:Oper=>o.guard)=some (11,false) from by kernel_rfl] at h
   obtain ⟨rfl,rfl⟩:11=g∧false=b:=by simpa using h
   exact .inl ⟨false,rfl,fun hne=>absurd rfl hne⟩
  ·rw [show ((opsOf 15 Tryz.f14.body)[17]?).bind (fun o:Oper=>o.guard)=some (11,false) from by kernel_rfl] at h
   obtain ⟨rfl,rfl⟩:11=g∧false=b:=by simpa using h
   exact .inl ⟨false,rfl,fun hne=>absurd rfl hne⟩
  ·rw [show ((opsOf 15 Tryz.f14.body)[18]?).bind (fun o:Oper=>o.guard)=some (11,false) from by kernel_rfl] at h
   obtain ⟨rfl,rfl⟩:11=g∧false=b:=by simpa using h
   exact .inl ⟨false,rfl,fun hne=>absurd rfl hne⟩
  ·rw [show ((opsOf 15 Tryz.f14.body)[19]?).bind (fun o:Oper=>o.guard)=some (11,false) from by kernel_rfl] at h
   obtain ⟨rfl,rfl⟩:11=g∧false=b:=by simpa using h
   exact .inl ⟨false,rfl,fun hne=>absurd rfl hne⟩
  ·rw [show ((opsOf 15 Tryz.f14.body)[20]?).bind (fun o:Oper=>o.guard)=some (11,false) from by kernel_rfl] at h
   obtain ⟨rfl,rfl⟩:11=g∧false=b:=by simpa using h
   exact .inl ⟨false,rfl,fun hne=>absurd rfl hne⟩
  ·exact absurd h (gNo (by kernel_rfl))
  ·exact absurd h (gNo (by kernel_rfl))
  ·rw [show ((opsOf 15 Tryz.f14.body)[23]?).bind (fun o:Oper=>o.guard)=some (22,false) from by kernel_rfl] at h
   obtain ⟨rfl,rfl⟩:22=g∧false=b:=by simpa using h
   exact .inl ⟨false,rfl,fun hne=>absurd rfl hne⟩
  ·rw [show ((opsOf 15 Tryz.f14.body)[24]?).bind (fun o:Oper=>o.guard)=some (22,false) from by kernel_rfl] at h
   obtain ⟨rfl,rfl⟩:22=g∧false=b:=by simpa using h
   exact .inl ⟨false,rfl,fun hne=>absurd rfl hne⟩
  ·rw [show ((opsOf 15 Tryz.f14.body)[25]?).bind (fun o:Oper=>o.guard)=some (22,false) from by kernel_rfl] at h
   obtain ⟨rfl,rfl⟩:22=g∧false=b:=by simpa using h
   exact .inl ⟨false,rfl,fun hne=>absurd rfl hne⟩
  ·exact absurd h (gNo (by kernel_rfl))
  ·exact absurd h (gNo (by kernel_rfl))
  ·rw [show ((opsOf 15 Tryz.f14.body)[28]?).bind (fun o:Oper=>o.guard)=some (27,false) from by kernel_rfl] at h
   obtain ⟨rfl,rfl⟩:27=g∧false=b:=by simpa using h
   exact .inl ⟨false,rfl,fun hne=>absurd rfl hne⟩
  ·rw [show ((opsOf 15 Tryz.f14.body)[29]?).bind (fun o:Oper=>o.guard)=some (27,false) from by kernel_rfl] at h
   obtain ⟨rfl,rfl⟩:27=g∧false=b:=by simpa using h
   exact .inl ⟨false,rfl,fun hne=>absurd rfl hne⟩
  ·rw [show ((opsOf 15 Tryz.f14.body)[30]?).bind (fun o:Oper=>o.guard)=some (27,false) from by kernel_rfl] at h
   obtain ⟨rfl,rfl⟩:27=g∧false=b:=by simpa using h
   exact .inl ⟨false,rfl,fun hne=>absurd rfl hne⟩
  ·rw [show ((opsOf 15 Tryz.f14.body)[31]?).bind (fun o:Oper=>o.guard)=some (27,false) from by kernel_rfl] at h
   obtain ⟨rfl,rfl⟩:27=g∧false=b:=by simpa using h
   exact .inl ⟨false,rfl,fun hne=>absurd rfl hne⟩
  ·rw [show ((opsOf 15 Tryz.f14.body)[32]?).bind (fun o:Oper=>o.guard)=some (27,false) from by kernel_rfl] at h
   obtain ⟨rfl,rfl⟩:27=g∧false=b:=by simpa using h
   exact .inl ⟨false,rfl,fun hne=>absurd rfl hne⟩
  ·rw [show ((opsOf 15 Tryz.f14.body)[33]?).bind (fun o:Oper=>o.guard)=some (27,false) from by kernel_rfl] at h
   obtain ⟨rfl,rfl⟩:27=g∧false=b:=by simpa using h
   exact .inl ⟨false,rfl,fun hne=>absurd rfl hne⟩
  ·exact absurd h (gNo (by kernel_rfl))
 ·intro i hi hgd
  rcases (by simp at hi; omega:i=0∨i=1∨i=2∨i=3∨i=4∨i=5∨i=6∨i=7∨i=8∨i=9∨i=10∨i=11∨i=12∨i=13∨i=14∨i=15∨i=16∨i=17∨i=18∨i=19∨i=20∨i=21∨i=22∨i=23∨i=24∨i=25∨i=26∨i=27∨i=28∨i=29∨i=30∨i=31∨i=32∨i=33∨i=34) with rfl | rfl | rfl | rfl | rfl | rfl | rfl | rfl | rfl | rfl | rfl | rfl | rfl | rfl | rfl | rfl | rfl | rfl | rfl | rfl | rfl | rfl | rfl | rfl | rfl | rfl | rfl | rfl | rfl | rfl | rfl | rfl | rfl | rfl | rfl
  ·refine soft (by decide) ?_
   intro o ac wa g ho hoff hv hS hdn
   exact (x_move (op_is rfl ho)).trans (by rw [((hoff 20 (by decide)).trans x20)]; rfl)
  ·refine soft (by decide) ?_
   intro o ac wa g ho hoff hv hS hdn
   exact (x_notG (op_is rfl ho) ((hv 0 150 rfl (by kernel_rfl)))).trans rfl
  ·refine soft (by decide) ?_
   intro o ac wa g ho hoff hv hS hdn
   exact (x_move (op_is rfl ho)).trans (by rw [(hv 1 151 rfl (by kernel_rfl))]; rfl)
  ·refine soft (by decide) ?_
   intro o ac wa g ho hoff hv hS hdn
   exact (x_move (op_is rfl ho)).trans (by rw [((hoff 19 (by decide)).trans x19)]; rfl)
  ·refine soft (by decide) ?_
   intro o ac wa g ho hoff hv hS hdn
   exact (x_move (op_is rfl ho)).trans (by rw [((hoff 9 (by decide)).trans x9)]; rfl)
  ·refine soft (by decide) ?_
   intro o ac wa g ho hoff hv hS hdn
   exact (x_move (op_is rfl ho)).trans (by rw [((hoff 18 (by decide)).trans x18)]; rfl)
  ·refine soft (by decide) ?_
   intro o ac wa g ho hoff hv hS hdn
   exact x_index (op_is rfl ho) (by rw [(hv 4 154 rfl (by kernel_rfl)),(hv 5 155 rfl (by kernel_rfl))]; show (Instr.indexAt _ (Value.slice _ _ _) (Value.int _ _)).run _ _=.ok (pa _ _) _; unfold pa; go_simp; try rfl)
  ·refine soft (by decide) ?_
   intro o ac wa g ho hoff hv hS hdn
   exact x_field (op_is rfl ho) (by rw [(hv 6 156 rfl (by kernel_rfl))]; show (Instr.fieldAt _ (pa _ _) _).run _ _=.ok (pa _ _) _; unfold pa; go_simp)
  ·refine soft (by decide) ?_
   intro o ac wa g ho hoff hv hS hdn
   have hc:=(hS.1.cells hix).2.trans (by rw [← hv_])
   exact x_load (op_is rfl ho) (by rw [(hv 7 157 rfl (by kernel_rfl))]; show (Instr.loadAt _ (pa _ _)).run _ _=_; unfold pa; go_simp; rfl)
  ·refine soft (by decide) ?_
   intro o ac wa g ho hoff hv hS hdn
   exact (x_neqN (op_is rfl ho) (hv 3 153 rfl (by kernel_rfl)) (hv 8 158 rfl (by kernel_rfl))).trans (by rw [show (v != v)=false by simp]; rfl)
  ·refine soft (by decide) ?_
   intro o ac wa g ho hoff hv hS hdn
   exact (x_pickG (op_is rfl ho) ((hv 2 152 rfl (by kernel_rfl)))).trans (by rw [if_neg (by decide),(hv 9 159 rfl (by kernel_rfl))]; rfl)
  ·refine soft (by decide) ?_
   intro o ac wa g ho hoff hv hS hdn
   exact (x_move (op_is rfl ho)).trans (by rw [(hv 10 160 rfl (by kernel_rfl))]; rfl)
  ·refine soft (by decide) ?_
   intro o ac wa g ho hoff hv hS hdn
   exact (x_move (op_is rfl ho)).trans (by rw [((hoff 21 (by decide)).trans x21)]; rfl)
  ·intro o ac wa g K ho hd _ hoff hv hS _ _ _ hK
   refine l_callE (op_is rfl ho) (xs:=#[.int .i64 0]) (by simp only [List.map_toArray,List.map_cons,List.map_nil]; rw [(hv 12 162 rfl (by kernel_rfl))]; rfl) Tryz.func8 (by kernel_rfl) rfl (cNum 0 wa) ?_
   rintro e w2 ⟨rfl,hw⟩
   obtain rfl:=hw.symm
   exact ⟨_,rfl,by rw [hd]; exact hK g _ hS (fun x hx=>by have hx2:¬ x=13:=fun e=>absurd (e ▸ hx) (by decide); simp [hx2]) fun _ _ _=>rfl⟩
  ·refine soft (by decide) ?_
   intro o ac wa g ho hoff hv hS hdn
   exact (x_move (op_is rfl ho)).trans (by rw [((hoff 23 (by decide)).trans x23)]; rfl)
  ·intro o ac wa g K ho hd _ hoff hv hS _ _ _ hK
   refine l_callE (op_is rfl ho) (xs:=#[.int .i64 0]) (by simp only [List.map_toArray,List.map_cons,List.map_nil]; rw [(hv 14 164 rfl (by kernel_rfl))]; rfl) Tryz.func8 (by kernel_rfl) rfl (cNum 0 wa) ?_
   rintro e w2 ⟨rfl,hw⟩
   obtain rfl:=hw.symm
   exact ⟨_,rfl,by rw [hd]; exact hK g _ hS (fun x hx=>by have hx2:¬ x=15:=fun e=>absurd (e ▸ hx) (by decide); simp [hx2]) fun _ _ _=>rfl⟩
  ·refine soft (by decide) ?_
   intro o ac wa g ho hoff hv hS hdn
   exact x_addN (a:=0) (b:=0) (op_is rfl ho) (hv 13 163 rfl (by kernel_rfl)) (hv 15 165 rfl (by kernel_rfl)) (by omega) (by omega)
  ·refine soft (by decide) ?_
   intro o ac wa g ho hoff hv hS hdn
   exact (x_move (op_is rfl ho)).trans (by rw [((hoff 25 (by decide)).trans x25)]; rfl)
  ·intro o ac wa g K ho hd _ hoff hv hS _ _ _ hK
   refine l_callE (op_is rfl ho) (xs:=#[.int .i64 0]) (by simp only [List.map_toArray,List.map_cons,List.map_nil]; rw [(hv 17 167 rfl (by kernel_rfl))]; rfl) Tryz.func8 (by kernel_rfl) rfl (cNum 0 wa) ?_
   rintro e w2 ⟨rfl,hw⟩
   obtain rfl:=hw.symm
   exact ⟨_,rfl,by rw [hd]; exact hK g _ hS (fun x hx=>by have hx2:¬ x=18:=fun e=>absurd (e ▸ hx) (by decide); simp [hx2]) fun _ _ _=>rfl⟩
  ·refine soft (by decide) ?_
   intro o ac wa g ho hoff hv hS hdn
   exact x_addN (a:=0) (b:=0) (op_is rfl ho) (hv 16 166 rfl (by kernel_rfl)) (hv 18 168 rfl (by kernel_rfl)) (by omega) (by omega)
  ·refine soft (by decide) ?_
   intro o ac wa g ho hoff hv hS hdn
   exact (x_neqN (op_is rfl ho) (hv 19 169 rfl (by kernel_rfl)) rfl).trans rfl
  ·refine soft (by decide) ?_
   intro o ac wa g ho hoff hv hS hdn
   exact (x_pickG (op_is rfl ho) ((hv 11 161 rfl (by kernel_rfl)))).trans (by rw [if_neg (by decide),(hv 20 170 rfl (by kernel_rfl))]; rfl)
  ·refine soft (by decide) ?_
   intro o ac wa g ho hoff hv hS hdn
   exact (x_move (op_is rfl ho)).trans (by rw [(hv 21 171 rfl (by kernel_rfl))]; rfl)
  ·refine soft (by decide) ?_
   intro o ac wa g ho hoff hv hS hdn
   exact (x_move (op_is rfl ho)).trans (by rw [((hoff 22 (by decide)).trans x22)]; rfl)
  ·refine soft (by decide) ?_
   intro o ac wa g ho hoff hv hS hdn
   exact (x_move (op_is rfl ho)).trans (by rw [((hoff 18 (by decide)).trans x18)]; rfl)
  ·refine soft (by decide) ?_
   intro o ac wa g ho hoff hv hS hdn
   exact (x_neqN (op_is rfl ho) (hv 23 173 rfl (by kernel_rfl)) (hv 24 174 rfl (by kernel_rfl))).trans (by rw [show ((i:Int) != (i:Int))=false by simp]; rfl)
  ·refine soft (by decide) ?_
   intro o ac wa g ho hoff hv hS hdn
   exact (x_pickG (op_is rfl ho) ((hv 22 172 rfl (by kernel_rfl)))).trans (by rw [if_neg (by decide),(hv 25 175 rfl (by kernel_rfl))]; rfl)
  ·refine soft (by decide) ?_
   intro o ac wa g ho hoff hv hS hdn
   exact (x_move (op_is rfl ho)).trans (by rw [(hv 26 176 rfl (by kernel_rfl))]; rfl)
  ·refine soft (by decide) ?_
   intro o ac wa g ho hoff hv hS hdn
   have hc0:=cell_at (hS.2.heap h24 (by simp)) 0
   have hc1:=cell_at (hS.2.heap h24 (by simp)) 1
   exact x_load (op_is rfl ho) (by rw [((hoff 24 (by decide)).trans x24)]; show (Instr.loadAt _ (pa _ _)).run _ _=_; unfold pa; go_simp; rfl)
  ·refine soft (by decide) ?_
   intro o ac wa g ho hoff hv hS hdn
   exact (x_move (op_is rfl ho)).trans (by rw [((hoff 9 (by decide)).trans x9)]; rfl)
  ·refine soft (by decide) ?_
   intro o ac wa g ho hoff hv hS hdn
   exact (x_move (op_is rfl ho)).trans (by rw [((hoff 18 (by decide)).trans x18)]; rfl)
  ·refine soft (by decide) ?_
   intro o ac wa g ho hoff hv hS hdn
   exact x_index (op_is rfl ho) (by rw [(hv 29 179 rfl (by kernel_rfl)),(hv 30 180 rfl (by kernel_rfl))]; show (Instr.indexAt _ (Value.slice _ _ _) (Value.int _ _)).run _ _=.ok (pa _ _) _; unfold pa; go_simp; try rfl)
  ·refine soft (by decide) ?_
   intro o ac wa g ho hoff hv hS hdn
   have hc0:=(hS.1.cells hix).1.trans (by rw [← hk])
   have hc1:=(hS.1.cells hix).2.trans (by rw [← hv_])
   exact x_load (op_is rfl ho) (by rw [(hv 31 181 rfl (by kernel_rfl))]; show (Instr.loadAt _ (pa _ _)).run _ _=_; unfold pa; go_simp; rfl)
  ·refine soft (by decide) ?_
   intro o ac wa g ho hoff hv hS hdn
   exact (x_neqPr (op_is rfl ho) (hv 28 178 rfl (by kernel_rfl)) (hv 32 182 rfl (by kernel_rfl))).trans rfl
  ·refine soft (by decide) ?_
   intro o ac wa g ho hoff hv hS hdn
   exact (x_pickG (op_is rfl ho) ((hv 27 177 rfl (by kernel_rfl)))).trans (by rw [if_neg (by decide),(hv 33 183 rfl (by kernel_rfl))]; rfl)
 ·intro a' w' g hsz hdf hoff hS hdn hval
  exact hEnd a' w' hsz hdf (fun s hs=>ev_same (hoff s hs)) (hval 34 184 rfl) hS.1 hS.2
def telr17aV (lg lc i:Nat) (tr:Option Tr) (u1 u2:Int):Nat→Value:=fun j=>match j with | 0=>(Value.int IntKind.i64 i) | 1=>(Value.int IntKind.i64 ((i:Int)+1)) | 2=>(Value.slice (some ⟨lg,0,none⟩) (prs tr).length lc) | 3=>(Value.int IntKind.i64 (prs tr).length) | 4=>(Value.bool true) | 5=>(Value.bool true) | 6=>(Value.int IntKind.i64 0) | 7=>(Value.int IntKind.i64 0) | 8=>(Value.bool false) | 9=>(Value.bool false) | 10=>(Value.agg #[.int .i64 u1,.int .i64 u2]) | 11=>(Value.slice (some ⟨lg,0,none⟩) (prs tr).length lc) | 12=>(Value.int IntKind.i64 i) | 13=>(Value.int IntKind.i64 ((i:Int)+1)) | 14=>(pa lg ((i+1) * 2)) | 15=>(Value.agg #[.int .i64 u1,.int .i64 u2]) | 16=>(Value.bool false) | 17=>(Value.bool false) | 18=>(Value.bool false) | 19=>(Value.bool false) | 20=>(Value.int IntKind.i64 i) | 21=>(Value.int IntKind.i64 ((i:Int)+1)) | 22=>(Value.slice (some ⟨lg,0,none⟩) (prs tr).length lc) | 23=>(Value.int IntKind.i64 (prs tr).length) | 24=>(Value.bool false) | 25=>(Value.bool false) | 26=>undef | 27=>undef | 28=>undef | 29=>(Value.bool false) | 30=>(Value.bool false) | _=>undef
set_option maxRecDepth 100000 in
set_option maxHeartbeats 1600000 in
theorem tel_r17a (hs:a0.tmps.size=299) (x9:a0.eval (.tmp 9)=(Value.slice (some ⟨lg,0,none⟩) (prs tr).length lc)) (x18:a0.eval (.tmp 18)=.int .i64 i) (x26:a0.eval (.tmp 26)=pa b26 0) (x27:a0.eval (.tmp 27)=.int .i64 0) (hW:TW At Tb W S p tb F s tr lg lc w) (hl:(prs tr).length≤1000000) (hjx:i+1 < (prs tr).length) (hu1:u1=(prs tr)[i+1].1) (hu2:u2=(prs tr)[i+1].2) (h26:w.heap[b26]?=some (pairObj u1 u2))
  (hEnd:∀ a' x,a'.tmps.size=a0.tmps.size→a'.defers=a0.defers→(∀ s,some s∉([some 185,some 186,some 187,some 188,some 189,some 190,some 191,some 192,some 193,some 194,some 195,some 196,some 197,some 198,some 199,some 200,some 201,some 202,some 203,some 204,some 205,some 206,some 207,some 208,some 209,some 210,some 211,some 212,some 213,some 214,some 215]:List (Option Nat))→a'.eval (.tmp s)=a0.eval (.tmp s))→a'.eval (.tmp 215)=.bool false→TW At Tb W S p tb F s tr lg lc x→Turned [] w x→K a' x):(Code.region 17 (opsOf 17 Tryz.f14.body) true).wp Tryz.prog (Exit.then K Q) a0 w:=by
 have hj2:((i+1:Nat):Int) < ((prs tr).length:Int):=by omega
 have hj3:(i:Int)+1 < ((prs tr).length:Int):=by omega
 have hj4:(0:Int)≤(i:Int)+1:=by omega
 refine wp_region_ghost3 (G:=Unit) (by kernel_rfl) [some 185,some 186,some 187,some 188,some 189,some 190,some 191,some 192,some 193,some 194,some 195,some 196,some 197,some 198,some 199,some 200,some 201,some 202,some 203,some 204,some 205,some 206,some 207,some 208,some 209,some 210,some 211,some 212,some 213,some 214,some 215] (by rw [hs]; kernel_rfl) (fun _=>telr17aV lg lc i tr u1 u2) [] ?_ (fun _ _=>false) (fun _ x=>TW At Tb W S p tb F s tr lg lc x∧Turned [] w x) (()) (⟨hW.fresh PL TL (Turned.refl [] _).drew,(Turned.refl _ _).drew⟩) (by simp) (by decide) ?_ ?_
 ·intro i g b h γ
  have hi:i < 31:=by
   apply Classical.byContradiction
   intro hn
   rw [show (opsOf 17 Tryz.f14.body)[i]?=none from Array.getElem?_eq_none (by have:(opsOf 17 Tryz.f14.body).size=31:=(by kernel_rfl); omega)] at h
   cases h
  rcases (by omega:i=0∨i=1∨i=2∨i=3∨i=4∨i=5∨i=6∨i=7∨i=8∨i=9∨i=10∨i=11∨i=12∨i=13∨i=14∨i=15∨i=16∨i=17∨i=18∨i=19∨i=20∨i=21∨i=22∨i=23∨i=24∨i=25∨i=26∨i=27∨i=28∨i=29∨i=30) with rfl | rfl | rfl | rfl | rfl | rfl | rfl | rfl | rfl | rfl | rfl | rfl | rfl | rfl | rfl | rfl | rfl | rfl | rfl | rfl | rfl | rfl | rfl | rfl | rfl | rfl | rfl | rfl | rfl | rfl | rfl
  ·exact absurd h (gNo (by kernel_rfl))
  ·exact absurd h (gNo (by kernel_rfl))
  ·exact absurd h (gNo (by kernel_rfl))
  ·exact absurd h (gNo (by kernel_rfl))
  ·exact absurd h (gNo (by kernel_rfl))
  ·exact absurd h (gNo (by kernel_rfl))
  ·rw [show ((opsOf 17 Tryz.f14.body)[6]?).bind (fun o:Oper=>o.guard)=some (5,true) from by kernel_rfl] at h
   obtain ⟨rfl,rfl⟩:5=g∧true=b:=by simpa using h
   exact .inl ⟨true,rfl,fun hne=>absurd rfl hne⟩
  ·rw [show ((opsOf 17 Tryz.f14.body)[7]?).bind (fun o:Oper=>o.guard)=some (5,true) from by kernel_rfl] at h
   obtain ⟨rfl,rfl⟩:5=g∧true=b:=by simpa using h
   exact .inl ⟨true,rfl,fun hne=>absurd rfl hne⟩
  ·rw [show ((opsOf 17 Tryz.f14.body)[8]?).bind (fun o:Oper=>o.guard)=some (5,true) from by kernel_rfl] at h
   obtain ⟨rfl,rfl⟩:5=g∧true=b:=by simpa using h
   exact .inl ⟨true,rfl,fun hne=>absurd rfl hne⟩
  ·rw [show ((opsOf 17 Tryz.f14.body)[9]?).bind (fun o:Oper=>o.guard)=some (5,true) from by kernel_rfl] at h
   obtain ⟨rfl,rfl⟩:5=g∧true=b:=by simpa using h
   exact .inl ⟨true,rfl,fun hne=>absurd rfl hne⟩
  ·rw [show ((opsOf 17 Tryz.f14.body)[10]?).bind (fun o:Oper=>o.guard)=some (9,false) from by kernel_rfl] at h
   obtain ⟨rfl,rfl⟩:9=g∧false=b:=by simpa using h
   exact .inl ⟨false,rfl,fun hne=>absurd rfl hne⟩
  ·rw [show ((opsOf 17 Tryz.f14.body)[11]?).bind (fun o:Oper=>o.guard)=some (9,false) from by kernel_rfl] at h
   obtain ⟨rfl,rfl⟩:9=g∧false=b:=by simpa using h
   exact .inl ⟨false,rfl,fun hne=>absurd rfl hne⟩
  ·rw [show ((opsOf 17 Tryz.f14.body)[12]?).bind (fun o:Oper=>o.guard)=some (9,false) from by kernel_rfl] at h
   obtain ⟨rfl,rfl⟩:9=g∧false=b:=by simpa using h
   exact .inl ⟨false,rfl,fun hne=>absurd rfl hne⟩
  ·rw [show ((opsOf 17 Tryz.f14.body)[13]?).bind (fun o:Oper=>o.guard)=some (9,false) from by kernel_rfl] at h
   obtain ⟨rfl,rfl⟩:9=g∧false=b:=by simpa using h
   exact .inl ⟨false,rfl,fun hne=>absurd rfl hne⟩
  ·rw [show ((opsOf 17 Tryz.f14.body)[14]?).bind (fun o:Oper=>o.guard)=some (9,false) from by kernel_rfl] at h
   obtain ⟨rfl,rfl⟩:9=g∧false=b:=by simpa using h
   exact .inl ⟨false,rfl,fun hne=>absurd rfl hne⟩
  ·rw [show ((opsOf 17 Tryz.f14.body)[15]?).bind (fun o:Oper=>o.guard)=some (9,false) from by kernel_rfl] at h
   obtain ⟨rfl,rfl⟩:9=g∧false=b:=by simpa using h
   exact .inl ⟨false,rfl,fun hne=>absurd rfl hne⟩
  ·rw [show ((opsOf 17 Tryz.f14.body)[16]?).bind (fun o:Oper=>o.guard)=some (9,false) from by kernel_rfl] at h
   obtain ⟨rfl,rfl⟩:9=g∧false=b:=by simpa using h
   exact .inl ⟨false,rfl,fun hne=>absurd rfl hne⟩
  ·rw [show ((opsOf 17 Tryz.f14.body)[17]?).bind (fun o:Oper=>o.guard)=some (5,true) from by kernel_rfl] at h
   obtain ⟨rfl,rfl⟩:5=g∧true=b:=by simpa using h
   exact .inl ⟨true,rfl,fun hne=>absurd rfl hne⟩
  ·exact absurd h (gNo (by kernel_rfl))
  ·exact absurd h (gNo (by kernel_rfl))
  ·rw [show ((opsOf 17 Tryz.f14.body)[20]?).bind (fun o:Oper=>o.guard)=some (19,false) from by kernel_rfl] at h
   obtain ⟨rfl,rfl⟩:19=g∧false=b:=by simpa using h
   exact .inl ⟨false,rfl,fun hne=>absurd rfl hne⟩
  ·rw [show ((opsOf 17 Tryz.f14.body)[21]?).bind (fun o:Oper=>o.guard)=some (19,false) from by kernel_rfl] at h
   obtain ⟨rfl,rfl⟩:19=g∧false=b:=by simpa using h
   exact .inl ⟨false,rfl,fun hne=>absurd rfl hne⟩
  ·rw [show ((opsOf 17 Tryz.f14.body)[22]?).bind (fun o:Oper=>o.guard)=some (19,false) from by kernel_rfl] at h
   obtain ⟨rfl,rfl⟩:19=g∧false=b:=by simpa using h
   exact .inl ⟨false,rfl,fun hne=>absurd rfl hne⟩
  ·rw [show ((opsOf 17 Tryz.f14.body)[23]?).bind (fun o:Oper=>o.guard)=some (19,false) from by kernel_rfl] at h
   obtain ⟨rfl,rfl⟩:19=g∧false=b:=by simpa using h
   exact .inl ⟨false,rfl,fun hne=>absurd rfl hne⟩
  ·rw [show ((opsOf 17 Tryz.f14.body)[24]?).bind (fun o:Oper=>o.guard)=some (19,false) from by kernel_rfl] at h
   obtain ⟨rfl,rfl⟩:19=g∧false=b:=by simpa using h
   exact .inl ⟨false,rfl,fun hne=>absurd rfl hne⟩
  ·rw [show ((opsOf 17 Tryz.f14.body)[25]?).bind (fun o:Oper=>o.guard)=some (19,false) from by kernel_rfl] at h
   obtain ⟨rfl,rfl⟩:19=g∧false=b:=by simpa using h
   exact .inl ⟨false,rfl,fun hne=>absurd rfl hne⟩
  ·rw [show ((opsOf 17 Tryz.f14.body)[26]?).bind (fun o:Oper=>o.guard)=some (25,true) from by kernel_rfl] at h
   obtain ⟨rfl,rfl⟩:25=g∧true=b:=by simpa using h
   exact .inl ⟨false,rfl,fun _=>⟨rfl,by decide⟩⟩
  ·rw [show ((opsOf 17 Tryz.f14.body)[27]?).bind (fun o:Oper=>o.guard)=some (25,true) from by kernel_rfl] at h
   obtain ⟨rfl,rfl⟩:25=g∧true=b:=by simpa using h
   exact .inl ⟨false,rfl,fun _=>⟨rfl,by decide⟩⟩
  ·rw [show ((opsOf 17 Tryz.f14.body)[28]?).bind (fun o:Oper=>o.guard)=some (25,true) from by kernel_rfl] at h
   obtain ⟨rfl,rfl⟩:25=g∧true=b:=by simpa using h
   exact .inl ⟨false,rfl,fun _=>⟨rfl,by decide⟩⟩
  ·rw [show ((opsOf 17 Tryz.f14.body)[29]?).bind (fun o:Oper=>o.guard)=some (19,false) from by kernel_rfl] at h
   obtain ⟨rfl,rfl⟩:19=g∧false=b:=by simpa using h
   exact .inl ⟨false,rfl,fun hne=>absurd rfl hne⟩
  ·exact absurd h (gNo (by kernel_rfl))
 ·intro i hi hgd
  rcases (by simp at hi; omega:i=0∨i=1∨i=2∨i=3∨i=4∨i=5∨i=6∨i=7∨i=8∨i=9∨i=10∨i=11∨i=12∨i=13∨i=14∨i=15∨i=16∨i=17∨i=18∨i=19∨i=20∨i=21∨i=22∨i=23∨i=24∨i=25∨i=26∨i=27∨i=28∨i=29∨i=30) with rfl | rfl | rfl | rfl | rfl | rfl | rfl | rfl | rfl | rfl | rfl | rfl | rfl | rfl | rfl | rfl | rfl | rfl | rfl | rfl | rfl | rfl | rfl | rfl | rfl | rfl | rfl | rfl | rfl | rfl | rfl
  ·refine soft (by decide) ?_
   intro o ac wa g ho hoff hv hS hdn
   exact (x_move (op_is rfl ho)).trans (by rw [((hoff 18 (by decide)).trans x18)]; rfl)
  ·refine soft (by decide) ?_
   intro o ac wa g ho hoff hv hS hdn
   exact x_addN (op_is rfl ho) (hv 0 185 rfl (by kernel_rfl)) rfl (by omega) (by omega)
  ·refine soft (by decide) ?_
   intro o ac wa g ho hoff hv hS hdn
   exact (x_move (op_is rfl ho)).trans (by rw [((hoff 9 (by decide)).trans x9)]; rfl)
  ·refine soft (by decide) ?_
   intro o ac wa g ho hoff hv hS hdn
   exact x_lenG (op_is rfl ho) ((hv 2 187 rfl (by kernel_rfl))) undPairs
  ·refine soft (by decide) ?_
   intro o ac wa g ho hoff hv hS hdn
   exact (x_lssN (op_is rfl ho) (hv 1 186 rfl (by kernel_rfl)) (hv 3 188 rfl (by kernel_rfl))).trans (by rw [show decide ((i:Int)+1 < ((prs tr).length:Int))=true by simp; omega]; rfl)
  ·refine soft (by decide) ?_
   intro o ac wa g ho hoff hv hS hdn
   exact (x_move (op_is rfl ho)).trans (by rw [(hv 4 189 rfl (by kernel_rfl))]; rfl)
  ·refine soft (by decide) ?_
   intro o ac wa g ho hoff hv hS hdn
   exact (x_move (op_is rfl ho)).trans (by rw [((hoff 27 (by decide)).trans x27)]; rfl)
  ·intro o ac wa g K ho hd _ hoff hv hS _ _ _ hK
   refine l_callE (op_is rfl ho) (xs:=#[.int .i64 0]) (by simp only [List.map_toArray,List.map_cons,List.map_nil]; rw [(hv 6 191 rfl (by kernel_rfl))]; rfl) Tryz.func8 (by kernel_rfl) rfl (cNum 0 wa) ?_
   rintro e w2 ⟨rfl,hw⟩
   obtain rfl:=hw.symm
   exact ⟨_,rfl,by rw [hd]; exact hK g _ hS (fun x hx=>by have hx2:¬ x=7:=fun e=>absurd (e ▸ hx) (by decide); simp [hx2]) fun _ _ _=>rfl⟩
  ·refine soft (by decide) ?_
   intro o ac wa g ho hoff hv hS hdn
   exact (x_neqN (op_is rfl ho) (hv 7 192 rfl (by kernel_rfl)) rfl).trans rfl
  ·refine soft (by decide) ?_
   intro o ac wa g ho hoff hv hS hdn
   exact (x_move (op_is rfl ho)).trans (by rw [(hv 8 193 rfl (by kernel_rfl))]; rfl)
  ·refine soft (by decide) ?_
   intro o ac wa g ho hoff hv hS hdn
   have hc0:=cell_at (hS.2.heap h26 (by simp)) 0
   have hc1:=cell_at (hS.2.heap h26 (by simp)) 1
   exact x_load (op_is rfl ho) (by rw [((hoff 26 (by decide)).trans x26)]; show (Instr.loadAt _ (pa _ _)).run _ _=_; unfold pa; go_simp; rfl)
  ·refine soft (by decide) ?_
   intro o ac wa g ho hoff hv hS hdn
   exact (x_move (op_is rfl ho)).trans (by rw [((hoff 9 (by decide)).trans x9)]; rfl)
  ·refine soft (by decide) ?_
   intro o ac wa g ho hoff hv hS hdn
   exact (x_move (op_is rfl ho)).trans (by rw [((hoff 18 (by decide)).trans x18)]; rfl)
  ·refine soft (by decide) ?_
   intro o ac wa g ho hoff hv hS hdn
   exact x_addN (op_is rfl ho) (hv 12 197 rfl (by kernel_rfl)) rfl (by omega) (by omega)
  ·refine soft (by decide) ?_
   intro o ac wa g ho hoff hv hS hdn
   exact x_index (op_is rfl ho) (by rw [(hv 11 196 rfl (by kernel_rfl)),(hv 13 198 rfl (by kernel_rfl))]; show (Instr.indexAt _ (Value.slice _ _ _) (Value.int _ ((i:Int)+1))).run _ _=.ok (pa _ _) _; rw [show ((i:Int)+1)=((i+1:Nat):Int) by simp]; unfold pa; go_simp; first | done | rfl | (intro hq; exfalso; have:=hq (by omega); omega))
  ·refine soft (by decide) ?_
   intro o ac wa g ho hoff hv hS hdn
   have hc0:=(hS.1.cells hjx).1.trans (by rw [← hu1])
   have hc1:=(hS.1.cells hjx).2.trans (by rw [← hu2])
   exact x_load (op_is rfl ho) (by rw [(hv 14 199 rfl (by kernel_rfl))]; show (Instr.loadAt _ (pa lg ((i+1) * 2))).run _ _=_; unfold pa; go_simp; rfl)
  ·refine soft (by decide) ?_
   intro o ac wa g ho hoff hv hS hdn
   exact (x_neqPr (op_is rfl ho) (hv 10 195 rfl (by kernel_rfl)) (hv 15 200 rfl (by kernel_rfl))).trans rfl
  ·refine soft (by decide) ?_
   intro o ac wa g ho hoff hv hS hdn
   exact (x_pickG (op_is rfl ho) ((hv 9 194 rfl (by kernel_rfl)))).trans (by rw [if_neg (by decide),(hv 16 201 rfl (by kernel_rfl))]; rfl)
  ·refine soft (by decide) ?_
   intro o ac wa g ho hoff hv hS hdn
   exact (x_pickG (op_is rfl ho) ((hv 5 190 rfl (by kernel_rfl)))).trans (by rw [if_pos rfl,(hv 17 202 rfl (by kernel_rfl))]; rfl)
  ·refine soft (by decide) ?_
   intro o ac wa g ho hoff hv hS hdn
   exact (x_move (op_is rfl ho)).trans (by rw [(hv 18 203 rfl (by kernel_rfl))]; rfl)
  ·refine soft (by decide) ?_
   intro o ac wa g ho hoff hv hS hdn
   exact (x_move (op_is rfl ho)).trans (by rw [((hoff 18 (by decide)).trans x18)]; rfl)
  ·refine soft (by decide) ?_
   intro o ac wa g ho hoff hv hS hdn
   exact x_addN (op_is rfl ho) (hv 20 205 rfl (by kernel_rfl)) rfl (by omega) (by omega)
  ·refine soft (by decide) ?_
   intro o ac wa g ho hoff hv hS hdn
   exact (x_move (op_is rfl ho)).trans (by rw [((hoff 9 (by decide)).trans x9)]; rfl)
  ·refine soft (by decide) ?_
   intro o ac wa g ho hoff hv hS hdn
   exact x_lenG (op_is rfl ho) ((hv 22 207 rfl (by kernel_rfl))) undPairs
  ·refine soft (by decide) ?_
   intro o ac wa g ho hoff hv hS hdn
   exact (x_eqlN (op_is rfl ho) (hv 21 206 rfl (by kernel_rfl)) (hv 23 208 rfl (by kernel_rfl))).trans (by rw [show (((i:Int)+1) == ((prs tr).length:Int))=false by simp; omega]; rfl)
  ·refine soft (by decide) ?_
   intro o ac wa g ho hoff hv hS hdn
   exact (x_move (op_is rfl ho)).trans (by rw [(hv 24 209 rfl (by kernel_rfl))]; rfl)
  ·obtain ⟨γ,hγ⟩:=hgd 25 true (by kernel_rfl)
   have hγ2:(Value.bool false)=Value.bool true:=hγ
   cases hγ2
  ·obtain ⟨γ,hγ⟩:=hgd 25 true (by kernel_rfl)
   have hγ2:(Value.bool false)=Value.bool true:=hγ
   cases hγ2
  ·obtain ⟨γ,hγ⟩:=hgd 25 true (by kernel_rfl)
   have hγ2:(Value.bool false)=Value.bool true:=hγ
   cases hγ2
  ·refine soft (by decide) ?_
   intro o ac wa g ho hoff hv hS hdn
   exact (x_pickG (op_is rfl ho) ((hv 25 210 rfl (by kernel_rfl)))).trans (by rw [if_neg (by decide)]; rfl)
  ·refine soft (by decide) ?_
   intro o ac wa g ho hoff hv hS hdn
   exact (x_pickG (op_is rfl ho) ((hv 19 204 rfl (by kernel_rfl)))).trans (by rw [if_neg (by decide),(hv 29 214 rfl (by kernel_rfl))]; rfl)
 ·intro a' w' g hsz hdf hoff hS hdn hval
  exact hEnd a' w' hsz hdf (fun s hs=>ev_same (hoff s hs)) (hval 30 215 rfl) hS.1 hS.2
def telr17bV (lg lc i:Nat) (tr:Option Tr):Nat→Value:=fun j=>match j with | 0=>(Value.int IntKind.i64 i) | 1=>(Value.int IntKind.i64 ((i:Int)+1)) | 2=>(Value.slice (some ⟨lg,0,none⟩) (prs tr).length lc) | 3=>(Value.int IntKind.i64 (prs tr).length) | 4=>(Value.bool false) | 5=>(Value.bool false) | 6=>undef | 7=>undef | 8=>undef | 9=>undef | 10=>undef | 11=>undef | 12=>undef | 13=>undef | 14=>undef | 15=>undef | 16=>undef | 17=>undef | 18=>(Value.bool false) | 19=>(Value.bool false) | 20=>(Value.int IntKind.i64 i) | 21=>(Value.int IntKind.i64 ((i:Int)+1)) | 22=>(Value.slice (some ⟨lg,0,none⟩) (prs tr).length lc) | 23=>(Value.int IntKind.i64 (prs tr).length) | 24=>(Value.bool true) | 25=>(Value.bool true) | 26=>(Value.int IntKind.i64 122) | 27=>(Value.int IntKind.i64 122) | 28=>(Value.bool false) | 29=>(Value.bool false) | 30=>(Value.bool false) | _=>undef
set_option maxRecDepth 100000 in
set_option maxHeartbeats 1600000 in
theorem tel_r17b (hs:a0.tmps.size=299) (x9:a0.eval (.tmp 9)=(Value.slice (some ⟨lg,0,none⟩) (prs tr).length lc)) (x18:a0.eval (.tmp 18)=.int .i64 i) (x27:a0.eval (.tmp 27)=.int .i64 122) (hW:TW At Tb W S p tb F s tr lg lc w) (hl:(prs tr).length≤1000000) (hjx:i+1=(prs tr).length)
  (hEnd:∀ a' x,a'.tmps.size=a0.tmps.size→a'.defers=a0.defers→(∀ s,some s∉([some 185,some 186,some 187,some 188,some 189,some 190,some 191,some 192,some 193,some 194,some 195,some 196,some 197,some 198,some 199,some 200,some 201,some 202,some 203,some 204,some 205,some 206,some 207,some 208,some 209,some 210,some 211,some 212,some 213,some 214,some 215]:List (Option Nat))→a'.eval (.tmp s)=a0.eval (.tmp s))→a'.eval (.tmp 215)=.bool false→TW At Tb W S p tb F s tr lg lc x→Turned [] w x→K a' x):(Code.region 17 (opsOf 17 Tryz.f14.body) true).wp Tryz.prog (Exit.then K Q) a0 w:=by
 refine wp_region_ghost3 (G:=Unit) (by kernel_rfl) [some 185,some 186,some 187,some 188,some 189,some 190,some 191,some 192,some 193,some 194,some 195,some 196,some 197,some 198,some 199,some 200,some 201,some 202,some 203,some 204,some 205,some 206,some 207,some 208,some 209,some 210,some 211,some 212,some 213,some 214,some 215] (by rw [hs]; kernel_rfl) (fun _=>telr17bV lg lc i tr) [] ?_ (fun _ _=>false) (fun _ x=>TW At Tb W S p tb F s tr lg lc x∧Turned [] w x) (()) (⟨hW.fresh PL TL (Turned.refl [] _).drew,(Turned.refl _ _).drew⟩) (by simp) (by decide) ?_ ?_
 ·intro i g b h γ
  have hi:i < 31:=by
   apply Classical.byContradiction
   intro hn
   rw [show (opsOf 17 Tryz.f14.body)[i]?=none from Array.getElem?_eq_none (by have:(opsOf 17 Tryz.f14.body).size=31:=(by kernel_rfl); omega)] at h
   cases h
  rcases (by omega:i=0∨i=1∨i=2∨i=3∨i=4∨i=5∨i=6∨i=7∨i=8∨i=9∨i=10∨i=11∨i=12∨i=13∨i=14∨i=15∨i=16∨i=17∨i=18∨i=19∨i=20∨i=21∨i=22∨i=23∨i=24∨i=25∨i=26∨i=27∨i=28∨i=29∨i=30) with rfl | rfl | rfl | rfl | rfl | rfl | rfl | rfl | rfl | rfl | rfl | rfl | rfl | rfl | rfl | rfl | rfl | rfl | rfl | rfl | rfl | rfl | rfl | rfl | rfl | rfl | rfl | rfl | rfl | rfl | rfl
  ·exact absurd h (gNo (by kernel_rfl))
  ·exact absurd h (gNo (by kernel_rfl))
  ·exact absurd h (gNo (by kernel_rfl))
  ·exact absurd h (gNo (by kernel_rfl))
  ·exact absurd h (gNo (by kernel_rfl))
  ·exact absurd h (gNo (by kernel_rfl))
  ·rw [show ((opsOf 17 Tryz.f14.body)[6]?).bind (fun o:Oper=>o.guard)=some (5,true) from by kernel_rfl] at h
   obtain ⟨rfl,rfl⟩:5=g∧true=b:=by simpa using h
   exact .inl ⟨false,rfl,fun _=>⟨rfl,by decide⟩⟩
  ·rw [show ((opsOf 17 Tryz.f14.body)[7]?).bind (fun o:Oper=>o.guard)=some (5,true) from by kernel_rfl] at h
   obtain ⟨rfl,rfl⟩:5=g∧true=b:=by simpa using h
   exact .inl ⟨false,rfl,fun _=>⟨rfl,by decide⟩⟩
  ·rw [show ((opsOf 17 Tryz.f14.body)[8]?).bind (fun o:Oper=>o.guard)=some (5,true) from by kernel_rfl] at h
   obtain ⟨rfl,rfl⟩:5=g∧true=b:=by simpa using h
   exact .inl ⟨false,rfl,fun _=>⟨rfl,by decide⟩⟩
  ·rw [show ((opsOf 17 Tryz.f14.body)[9]?).bind (fun o:Oper=>o.guard)=some (5,true) from by kernel_rfl] at h
   obtain ⟨rfl,rfl⟩:5=g∧true=b:=by simpa using h
   exact .inl ⟨false,rfl,fun _=>⟨rfl,by decide⟩⟩
  ·rw [show ((opsOf 17 Tryz.f14.body)[10]?).bind (fun o:Oper=>o.guard)=some (9,false) from by kernel_rfl] at h
   obtain ⟨rfl,rfl⟩:9=g∧false=b:=by simpa using h
   exact .inr ⟨rfl,rfl,by decide⟩
  ·rw [show ((opsOf 17 Tryz.f14.body)[11]?).bind (fun o:Oper=>o.guard)=some (9,false) from by kernel_rfl] at h
   obtain ⟨rfl,rfl⟩:9=g∧false=b:=by simpa using h
   exact .inr ⟨rfl,rfl,by decide⟩
  ·rw [show ((opsOf 17 Tryz.f14.body)[12]?).bind (fun o:Oper=>o.guard)=some (9,false) from by kernel_rfl] at h
   obtain ⟨rfl,rfl⟩:9=g∧false=b:=by simpa using h
   exact .inr ⟨rfl,rfl,by decide⟩
  ·rw [show ((opsOf 17 Tryz.f14.body)[13]?).bind (fun o:Oper=>o.guard)=some (9,false) from by kernel_rfl] at h
   obtain ⟨rfl,rfl⟩:9=g∧false=b:=by simpa using h
   exact .inr ⟨rfl,rfl,by decide⟩
  ·rw [show ((opsOf 17 Tryz.f14.body)[14]?).bind (fun o:Oper=>o.guard)=some (9,false) from by kernel_rfl] at h
   obtain ⟨rfl,rfl⟩:9=g∧false=b:=by simpa using h
   exact .inr ⟨rfl,rfl,by decide⟩
  ·rw [show ((opsOf 17 Tryz.f14.body)[15]?).bind (fun o:Oper=>o.guard)=some (9,false) from by kernel_rfl] at h
   obtain ⟨rfl,rfl⟩:9=g∧false=b:=by simpa using h
   exact .inr ⟨rfl,rfl,by decide⟩
  ·rw [show ((opsOf 17 Tryz.f14.body)[16]?).bind (fun o:Oper=>o.guard)=some (9,false) from by kernel_rfl] at h
   obtain ⟨rfl,rfl⟩:9=g∧false=b:=by simpa using h
   exact .inr ⟨rfl,rfl,by decide⟩
  ·rw [show ((opsOf 17 Tryz.f14.body)[17]?).bind (fun o:Oper=>o.guard)=some (5,true) from by kernel_rfl] at h
   obtain ⟨rfl,rfl⟩:5=g∧true=b:=by simpa using h
   exact .inl ⟨false,rfl,fun _=>⟨rfl,by decide⟩⟩
  ·exact absurd h (gNo (by kernel_rfl))
  ·exact absurd h (gNo (by kernel_rfl))
  ·rw [show ((opsOf 17 Tryz.f14.body)[20]?).bind (fun o:Oper=>o.guard)=some (19,false) from by kernel_rfl] at h
   obtain ⟨rfl,rfl⟩:19=g∧false=b:=by simpa using h
   exact .inl ⟨false,rfl,fun hne=>absurd rfl hne⟩
  ·rw [show ((opsOf 17 Tryz.f14.body)[21]?).bind (fun o:Oper=>o.guard)=some (19,false) from by kernel_rfl] at h
   obtain ⟨rfl,rfl⟩:19=g∧false=b:=by simpa using h
   exact .inl ⟨false,rfl,fun hne=>absurd rfl hne⟩
  ·rw [show ((opsOf 17 Tryz.f14.body)[22]?).bind (fun o:Oper=>o.guard)=some (19,false) from by kernel_rfl] at h
   obtain ⟨rfl,rfl⟩:19=g∧false=b:=by simpa using h
   exact .inl ⟨false,rfl,fun hne=>absurd rfl hne⟩
  ·rw [show ((opsOf 17 Tryz.f14.body)[23]?).bind (fun o:Oper=>o.guard)=some (19,false) from by kernel_rfl] at h
   obtain ⟨rfl,rfl⟩:19=g∧false=b:=by simpa using h
   exact .inl ⟨false,rfl,fun hne=>absurd rfl hne⟩
  ·rw [show ((opsOf 17 Tryz.f14.body)[24]?).bind (fun o:Oper=>o.guard)=some (19,false) from by kernel_rfl] at h
   obtain ⟨rfl,rfl⟩:19=g∧false=b:=by simpa using h
   exact .inl ⟨false,rfl,fun hne=>absurd rfl hne⟩
  ·rw [show ((opsOf 17 Tryz.f14.body)[25]?).bind (fun o:Oper=>o.guard)=some (19,false) from by kernel_rfl] at h
   obtain ⟨rfl,rfl⟩:19=g∧false=b:=by simpa using h
   exact .inl ⟨false,rfl,fun hne=>absurd rfl hne⟩
  ·rw [show ((opsOf 17 Tryz.f14.body)[26]?).bind (fun o:Oper=>o.guard)=some (25,true) from by kernel_rfl] at h
   obtain ⟨rfl,rfl⟩:25=g∧true=b:=by simpa using h
   exact .inl ⟨true,rfl,fun hne=>absurd rfl hne⟩
  ·rw [show ((opsOf 17 Tryz.f14.body)[27]?).bind (fun o:Oper=>o.guard)=some (25,true) from by kernel_rfl] at h
   obtain ⟨rfl,rfl⟩:25=g∧true=b:=by simpa using h
   exact .inl ⟨true,rfl,fun hne=>absurd rfl hne⟩
  ·rw [show ((opsOf 17 Tryz.f14.body)[28]?).bind (fun o:Oper=>o.guard)=some (25,true) from by kernel_rfl] at h
   obtain ⟨rfl,rfl⟩:25=g∧true=b:=by simpa using h
   exact .inl ⟨true,rfl,fun hne=>absurd rfl hne⟩
  ·rw [show ((opsOf 17 Tryz.f14.body)[29]?).bind (fun o:Oper=>o.guard)=some (19,false) from by kernel_rfl] at h
   obtain ⟨rfl,rfl⟩:19=g∧false=b:=by simpa using h
   exact .inl ⟨false,rfl,fun hne=>absurd rfl hne⟩
  ·exact absurd h (gNo (by kernel_rfl))
 ·intro i hi hgd
  rcases (by simp at hi; omega:i=0∨i=1∨i=2∨i=3∨i=4∨i=5∨i=6∨i=7∨i=8∨i=9∨i=10∨i=11∨i=12∨i=13∨i=14∨i=15∨i=16∨i=17∨i=18∨i=19∨i=20∨i=21∨i=22∨i=23∨i=24∨i=25∨i=26∨i=27∨i=28∨i=29∨i=30) with rfl | rfl | rfl | rfl | rfl | rfl | rfl | rfl | rfl | rfl | rfl | rfl | rfl | rfl | rfl | rfl | rfl | rfl | rfl | rfl | rfl | rfl | rfl | rfl | rfl | rfl | rfl | rfl | rfl | rfl | rfl
  ·refine soft (by decide) ?_
   intro o ac wa g ho hoff hv hS hdn
   exact (x_move (op_is rfl ho)).trans (by rw [((hoff 18 (by decide)).trans x18)]; rfl)
  ·refine soft (by decide) ?_
   intro o ac wa g ho hoff hv hS hdn
   exact x_addN (op_is rfl ho) (hv 0 185 rfl (by kernel_rfl)) rfl (by omega) (by omega)
  ·refine soft (by decide) ?_
   intro o ac wa g ho hoff hv hS hdn
   exact (x_move (op_is rfl ho)).trans (by rw [((hoff 9 (by decide)).trans x9)]; rfl)
  ·refine soft (by decide) ?_
   intro o ac wa g ho hoff hv hS hdn
   exact x_lenG (op_is rfl ho) ((hv 2 187 rfl (by kernel_rfl))) undPairs
  ·refine soft (by decide) ?_
   intro o ac wa g ho hoff hv hS hdn
   exact (x_lssN (op_is rfl ho) (hv 1 186 rfl (by kernel_rfl)) (hv 3 188 rfl (by kernel_rfl))).trans (by rw [show decide ((i:Int)+1 < ((prs tr).length:Int))=false by simp; omega]; rfl)
  ·refine soft (by decide) ?_
   intro o ac wa g ho hoff hv hS hdn
   exact (x_move (op_is rfl ho)).trans (by rw [(hv 4 189 rfl (by kernel_rfl))]; rfl)
  ·obtain ⟨γ,hγ⟩:=hgd 5 true (by kernel_rfl)
   have hγ2:(Value.bool false)=Value.bool true:=hγ
   cases hγ2
  ·obtain ⟨γ,hγ⟩:=hgd 5 true (by kernel_rfl)
   have hγ2:(Value.bool false)=Value.bool true:=hγ
   cases hγ2
  ·obtain ⟨γ,hγ⟩:=hgd 5 true (by kernel_rfl)
   have hγ2:(Value.bool false)=Value.bool true:=hγ
   cases hγ2
  ·obtain ⟨γ,hγ⟩:=hgd 5 true (by kernel_rfl)
   have hγ2:(Value.bool false)=Value.bool true:=hγ
   cases hγ2
  ·obtain ⟨γ,hγ⟩:=hgd 9 false (by kernel_rfl)
   have hγ2:undef=Value.bool false:=hγ
   cases hγ2
  ·obtain ⟨γ,hγ⟩:=hgd 9 false (by kernel_rfl)
   have hγ2:undef=Value.bool false:=hγ
   cases hγ2
  ·obtain ⟨γ,hγ⟩:=hgd 9 false (by kernel_rfl)
   have hγ2:undef=Value.bool false:=hγ
   cases hγ2
  ·obtain ⟨γ,hγ⟩:=hgd 9 false (by kernel_rfl)
   have hγ2:undef=Value.bool false:=hγ
   cases hγ2
  ·obtain ⟨γ,hγ⟩:=hgd 9 false (by kernel_rfl)
   have hγ2:undef=Value.bool false:=hγ
   cases hγ2
  ·obtain ⟨γ,hγ⟩:=hgd 9 false (by kernel_rfl)
   have hγ2:undef=Value.bool false:=hγ
   cases hγ2
  ·obtain ⟨γ,hγ⟩:=hgd 9 false (by kernel_rfl)
   have hγ2:undef=Value.bool false:=hγ
   cases hγ2
  ·obtain ⟨γ,hγ⟩:=hgd 5 true (by kernel_rfl)
   have hγ2:(Value.bool false)=Value.bool true:=hγ
   cases hγ2
  ·refine soft (by decide) ?_
   intro o ac wa g ho hoff hv hS hdn
   exact (x_pickG (op_is rfl ho) ((hv 5 190 rfl (by kernel_rfl)))).trans (by rw [if_neg (by decide)]; rfl)
  ·refine soft (by decide) ?_
   intro o ac wa g ho hoff hv hS hdn
   exact (x_move (op_is rfl ho)).trans (by rw [(hv 18 203 rfl (by kernel_rfl))]; rfl)
  ·refine soft (by decide) ?_
   intro o ac wa g ho hoff hv hS hdn
   exact (x_move (op_is rfl ho)).trans (by rw [((hoff 18 (by decide)).trans x18)]; rfl)
  ·refine soft (by decide) ?_
   intro o ac wa g ho hoff hv hS hdn
   exact x_addN (op_is rfl ho) (hv 20 205 rfl (by kernel_rfl)) rfl (by omega) (by omega)
  ·refine soft (by decide) ?_
   intro o ac wa g ho hoff hv hS hdn
   exact (x_move (op_is rfl ho)).trans (by rw [((hoff 9 (by decide)).trans x9)]; rfl)
  ·refine soft (by decide) ?_
   intro o ac wa g ho hoff hv hS hdn
   exact x_lenG (op_is rfl ho) ((hv 22 207 rfl (by kernel_rfl))) undPairs
  ·refine soft (by decide) ?_
   intro o ac wa g ho hoff hv hS hdn
   exact (x_eqlN (op_is rfl ho) (hv 21 206 rfl (by kernel_rfl)) (hv 23 208 rfl (by kernel_rfl))).trans (by rw [show (((i:Int)+1) == ((prs tr).length:Int))=true by simp; omega]; rfl)
  ·refine soft (by decide) ?_
   intro o ac wa g ho hoff hv hS hdn
   exact (x_move (op_is rfl ho)).trans (by rw [(hv 24 209 rfl (by kernel_rfl))]; rfl)
  ·refine soft (by decide) ?_
   intro o ac wa g ho hoff hv hS hdn
   exact (x_move (op_is rfl ho)).trans (by rw [((hoff 27 (by decide)).trans x27)]; rfl)
  ·intro o ac wa g K ho hd _ hoff hv hS _ _ _ hK
   refine l_callE (op_is rfl ho) (xs:=#[.int .i64 122]) (by simp only [List.map_toArray,List.map_cons,List.map_nil]; rw [(hv 26 211 rfl (by kernel_rfl))]; rfl) Tryz.func8 (by kernel_rfl) rfl (cNum 122 wa) ?_
   rintro e w2 ⟨rfl,hw⟩
   obtain rfl:=hw.symm
   exact ⟨_,rfl,by rw [hd]; exact hK g _ hS (fun x hx=>by have hx2:¬ x=27:=fun e=>absurd (e ▸ hx) (by decide); simp [hx2]) fun _ _ _=>rfl⟩
  ·refine soft (by decide) ?_
   intro o ac wa g ho hoff hv hS hdn
   exact (x_neqN (op_is rfl ho) (hv 27 212 rfl (by kernel_rfl)) rfl).trans rfl
  ·refine soft (by decide) ?_
   intro o ac wa g ho hoff hv hS hdn
   exact (x_pickG (op_is rfl ho) ((hv 25 210 rfl (by kernel_rfl)))).trans (by rw [if_pos rfl,(hv 28 213 rfl (by kernel_rfl))]; rfl)
  ·refine soft (by decide) ?_
   intro o ac wa g ho hoff hv hS hdn
   exact (x_pickG (op_is rfl ho) ((hv 19 204 rfl (by kernel_rfl)))).trans (by rw [if_neg (by decide),(hv 29 214 rfl (by kernel_rfl))]; rfl)
 ·intro a' w' g hsz hdf hoff hS hdn hval
  exact hEnd a' w' hsz hdf (fun s hs=>ev_same (hoff s hs)) (hval 30 215 rfl) hS.1 hS.2
end
end Go.Proofs.YtcinlaacgbfojaaGreatDoor
/- Two lists of pairs that are alike. -/
namespace Go.Proofs.YtcinlaacgbfojaaGreatDoor
open Go.RowKit
section
variable {B B':Nat} {w:World} {v v':Value} {l:List (Int × Int)}
set_option maxRecDepth 100000 in
set_option maxHeartbeats 1600000 in
theorem cPairs (h:PR B w v l) (h':PR B' w v' l) (hl:l.length≤1000000):Calls Tryz.prog 40 #[v,v'] w fun e w'=>e=.returned (.bool true)∧Turned [] w w':=by
 have H0:Hid (Turned [] w w):=Turned.refl _ _
 rcases h.form with ⟨rfl,rfl⟩ | ⟨g,c,cs,rfl,hb,hg,hh,hc,hcell⟩
 ·have hlen:∃ a c,v'=.slice a 0 c:=by
   rcases h'.form with ⟨rfl,_⟩ | ⟨g,c,cs,rfl,_⟩
   ·exact ⟨_,_,rfl⟩
   ·exact ⟨_,_,rfl⟩
  obtain ⟨a,c,rfl⟩:=hlen
  clear h h'
  go_enter Tryz.func40,Tryz.ntmps40
  go_wp2
  go_loopw [5] (fun i wx=>i=.int .i64 0∧Hid (Turned [] w wx)) (fun _ _=>0)
  case atStart=>exact ⟨rfl,H0⟩
  case round =>
   obtain ⟨rfl,HT⟩:=hrel
   go_wp2
   go_ret
   exact ⟨rfl,HT.out⟩
 ·rcases h'.form with ⟨rfl,rfl⟩ | ⟨g',c',cs',rfl,hb',hg',hh',hc',hcell'⟩
  ·clear h h'
   go_enter Tryz.func40,Tryz.ntmps40
   go_wp2
   go_loopw [5] (fun i wx=>i=.int .i64 0∧Hid (Turned [] w wx)) (fun _ _=>0)
   case atStart=>exact ⟨rfl,H0⟩
   case round =>
    obtain ⟨rfl,HT⟩:=hrel
    go_wp2
    go_ret
    exact ⟨rfl,HT.out⟩
  ·have HC:Hid _:=hcell
   have HH:Hid _:=hh
   have HC':Hid _:=hcell'
   have HH':Hid _:=hh'
   clear hcell hh h hcell' hh' h'
   go_enter Tryz.func40,Tryz.ntmps40
   go_wp2
   go_loopw [5] (fun i wx=>∃ t:Nat,t≤l.length∧i=.int .i64 t∧Hid (Turned [] w wx)) (fun i _=>l.length - (intOf i).toNat)
   case atStart=>exact ⟨0,Nat.zero_le _,rfl,H0⟩
   case round =>
    obtain ⟨t,ht,rfl,HT⟩:=hrel
    by_cases hlt:t < l.length
    ·have hlt2:(t:Int) < (l.length:Int):=by omega
     have q0:wr.cell? ⟨g,t * 2,none⟩=some (.int .i64 l[t].1):=HT.out.cell (HC.out t hlt).1 (by simp)
     have q1:wr.cell? ⟨g,t * 2+1,none⟩=some (.int .i64 l[t].2):=HT.out.cell (HC.out t hlt).2 (by simp)
     have r0:wr.cell? ⟨g',t * 2,none⟩=some (.int .i64 l[t].1):=HT.out.cell (HC'.out t hlt).1 (by simp)
     have r1:wr.cell? ⟨g',t * 2+1,none⟩=some (.int .i64 l[t].2):=HT.out.cell (HC'.out t hlt).2 (by simp)
     generalize l[t].1=x at q0 r0
     generalize l[t].2=y at q1 r1
     go_wp2
     go_quiet (fail)
     go_wp2
     exact ⟨⟨t+1,by omega,by go_num,HT.out.drewN _⟩,by simp [intOf]; omega⟩
    ·have e:t=l.length:=by omega
     subst e
     go_wp2
     go_ret
     exact ⟨rfl,HT.out⟩
end
end Go.Proofs.YtcinlaacgbfojaaGreatDoor

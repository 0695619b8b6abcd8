/- Of the proof. -/
import Derived.Test.YtanploaffndpjaaRows
import Derived.KernelRfl
import Derived.Test.YtanploaffndpjaaJ10
import Derived.WalkKit
import Derived.WalkMore
import Derived.WalkSpells
import Derived.WalkLawsBesides
import Derived.Deep.OwnRows
import Derived.Laws.AppendOwnNone
import Derived.Laws.LoneSync
import Derived.Test.YtanploaffndpjaaProg
import Derived.Orders
import Derived.BigRegion
import Derived.Conc.MuLone
set_option maxRecDepth 100000
set_option linter.unusedSimpArgs false
set_option linter.unusedVariables false
namespace Go.Blind
open Go.Conc Go.RowKit
section
variable {P:Program}{main:Bool}{fn:FuncId}{kd:CallKind}{Q:aZ}{S:ai}{M:Nat→Prop}{a a':Act}{w:World}{ops:Array Oper}{i:Nat}{rest l:List Nat}{o:Oper}
theorem kT {v:Value}(ho:ops[i]?=some o)(hw:Region.wanted o (yielded ops a.tmps)=true)(h:aG P main fn kd ops rest Q S M a' w)(hr:∀ w1:World,(execOp a.eval o).run P w1=.ok (.value v) w1:=by intro _;go_simp)(he:∀ w1:World,(execOp a.eval o).events P w1 #[]=#[]:=by intro _;simp [go_sem])(hkd:kd≠.early:=by decide)(ha:a.put o.dst v=a':=by simp only [Act.put,List.getElem_toArray,List.getElem_cons_zero,List.getElem_cons_succ,List.setIfInBounds_toArray,List.set_cons_zero,List.set_cons_succ];rfl):aG P main fn kd ops (i :: rest) Q S M a w:=xn hkd ho hw hr he (ha ▸ h)
theorem kJ {id:Nat}(h:aG P main fn kd ops l Q S M a w)(hl:List.range ops.size=l:=by simp only [List.range,List.range.loop,List.size_toArray,List.length_cons,List.length_nil];rfl):aM P main fn kd (.region id ops false) Q S M a w:=xe (hl ▸ h)
end
end Go.Blind
namespace Go.Proofs.Ytanploaffndpjaa
open Go Go.Blind Go.Conc
def aR (p:Post)(gv gn:Bool):Obj:=.cells #[.chan (some p.tn),.chan (some p.ov),.chan (some p.arr),.bool gv,.bool gn] 115 (0,0)
def bY (p:Post)(k:Int):Obj:=.cells #[.int .i64 k,.pointer (some ⟨p.pb,0,none⟩)] 122 (0,0)
section
variable {Y:aN}{p:Post}{gv gn:Bool}{wl l r:List (Nat×Obj)}{n:Nat}{q q':Y.bL}{s s':Y.σ}{M:Nat→Prop}{w:World}{S:ai}
def Ai (Y:aN)(p:Post)(n:Nat)(q:Y.bL)(wl:List (Nat×Obj))(o:Obj):fu:=fun e S' M' w'=>e=.returned (.tuple #[])∧∃ n' s,n=n' + 1∧S'=dP Try.prog Y p n' q s∧Mm Try.prog M' w' ((p.pb,o) :: (wl ++ Y.sh s)) []
theorem Fu (hm:Mm Try.prog M w wl [(p.pb,aR p gv gn)]):bn Try.prog false 67 #[.pointer (some ⟨p.pb,0,none⟩)] (Ai Y p n q wl (aR p gv gn)) (nR Try.prog Y p n q) M w:=by
 refine vG (T:=#[.pointer (some ⟨p.pb,0,none⟩),undef,undef,undef,undef,undef,undef,undef,undef,undef,undef,undef,undef,undef,undef,undef,undef,undef,undef]) Try.func67 rfl rfl (by simp [Array.replicate,List.replicate]) ?_
 refine ak (ak (kJ ?_))
 refine kT (v:=.pointer (some ⟨p.pb,0,none⟩)) rfl rfl ?_
 refine kT (v:=.pointer (some ⟨p.pb,0,none⟩)) rfl rfl ?_
 refine kT (v:=.pointer (some ⟨p.pb,0,none⟩)) rfl rfl ?_
 refine dx (lK (n:=wl.length) (b:=p.pb) (k:=0) (v:=.chan (some p.tn)) ae rfl rfl hm (by first | rfl | (simp;rfl)) rfl (fun w1 hc=>⟨by go_simp,by unfold listed;simp [go_sem,hc];exact iX Try.func67 rfl _ _⟩) fun w hm=>?_)
 simp only [Act.put,List.getElem_toArray,List.getElem_cons_zero,List.getElem_cons_succ,List.setIfInBounds_toArray,List.set_cons_zero,List.set_cons_succ]
 refine aA (kJ ?_)
 refine kT (v:=.pointer (some ⟨p.pb,0,none⟩)) rfl rfl ?_
 refine kT (v:=.pointer (some ⟨p.pb,0,none⟩)) rfl rfl ?_
 refine kT (v:=.pointer (some ⟨p.pb,1,none⟩)) rfl rfl ?_
 refine dx (lK (n:=wl.length) (b:=p.pb) (k:=1) (v:=.chan (some p.ov)) ae rfl rfl hm (by first | rfl | (simp;rfl)) rfl (fun w1 hc=>⟨by go_simp,by unfold listed;simp [go_sem,hc];exact iX Try.func67 rfl _ _⟩) fun w hm=>?_)
 simp only [Act.put,List.getElem_toArray,List.getElem_cons_zero,List.getElem_cons_succ,List.setIfInBounds_toArray,List.set_cons_zero,List.set_cons_succ]
 refine aA (ak (kJ ?_))
 refine Oc (p:=p) ae rfl rfl (fun w1=>Prod.ext ((Sem.runT_fst _ _ _ _).trans (by go_simp;rfl)) (by simp [go_sem])) hm fun n' s M w hn hm=>?_
 simp only [Act.put,List.getElem_toArray,List.getElem_cons_zero,List.getElem_cons_succ,List.setIfInBounds_toArray,List.set_cons_zero,List.set_cons_succ]
 refine kT (v:=.int .i64 0) rfl rfl ?_
 refine kT (v:=.bool true) rfl rfl ?_
 refine kT (v:=.bool false) rfl rfl ?_
 refine aA (eH (kY rfl ?_))
 refine bS ?_
 exact mI (iZ rfl rfl fun w1 hr=>⟨rfl,n',s,hn,rfl,hm.rely hr⟩)
theorem Oj (hm:Mm Try.prog M w ((p.pb,aR p true false) :: l) r):bn Try.prog false 57 #[.pointer (some ⟨p.pb,0,none⟩)] (fun e S' M' w'=>e=.returned (.tuple #[])∧S'=S∧M'=M∧Mm Try.prog M' w' ((p.pb,aR p false false) :: l) r) S M w:=by
 refine vG (T:=#[.pointer (some ⟨p.pb,0,none⟩),undef,undef,undef,undef,undef,undef,undef,undef,undef,undef,undef,undef,undef,undef,undef,undef,undef,undef,undef,undef,undef]) Try.func57 rfl rfl (by simp [Array.replicate,List.replicate]) ?_
 refine ak (ak (kJ ?_))
 refine kT (v:=.pointer (some ⟨p.pb,0,none⟩)) rfl rfl ?_
 refine kT (v:=.pointer (some ⟨p.pb,0,none⟩)) rfl rfl ?_
 refine kT (v:=.pointer (some ⟨p.pb,4,none⟩)) rfl rfl ?_
 refine dx (lK (n:=0) (b:=p.pb) (k:=4) (v:=.bool false) ae rfl rfl hm (by first | rfl | (simp;rfl)) rfl (fun w1 hc=>⟨by go_simp,by unfold listed;simp [go_sem,hc];exact iX Try.func57 rfl _ _⟩) fun w hm=>?_)
 simp only [Act.put,List.getElem_toArray,List.getElem_cons_zero,List.getElem_cons_succ,List.setIfInBounds_toArray,List.set_cons_zero,List.set_cons_succ]
 refine aA (kF rfl ?_)
 refine bS (ak (ak (kJ ?_)))
 refine kT (v:=.pointer (some ⟨p.pb,0,none⟩)) rfl rfl ?_
 refine kT (v:=.pointer (some ⟨p.pb,0,none⟩)) rfl rfl ?_
 refine kT (v:=.pointer (some ⟨p.pb,3,none⟩)) rfl rfl ?_
 refine dx (lK (n:=0) (b:=p.pb) (k:=3) (v:=.bool true) ae rfl rfl hm (by first | rfl | (simp;rfl)) rfl (fun w1 hc=>⟨by go_simp,by unfold listed;simp [go_sem,hc];exact iX Try.func57 rfl _ _⟩) fun w hm=>?_)
 simp only [Act.put,List.getElem_toArray,List.getElem_cons_zero,List.getElem_cons_succ,List.setIfInBounds_toArray,List.set_cons_zero,List.set_cons_succ]
 refine aA (kY rfl ?_)
 refine ak (kJ ?_)
 refine kT (v:=.pointer (some ⟨p.pb,0,none⟩)) rfl rfl ?_
 refine kT (v:=.pointer (some ⟨p.pb,0,none⟩)) rfl rfl ?_
 refine kT (v:=.pointer (some ⟨p.pb,3,none⟩)) rfl rfl ?_
 refine dx (Fe (n:=0) (b:=p.pb) (k:=3) (v:=.bool false) ae rfl rfl hm (by first | rfl | (simp;rfl)) ah (fun w1 x hc hz=>⟨by go_simp,by unfold listed;simp [go_sem,hc,hz,events_store Try.prog w1 #[] ⟨p.pb,3,none⟩ (.bool false) .plain rfl];exact iX Try.func57 rfl _ _⟩) fun w hm=>?_)
 simp only [Act.put,List.getElem_toArray,List.getElem_cons_zero,List.getElem_cons_succ,List.setIfInBounds_toArray,List.set_cons_zero,List.set_cons_succ]
 refine aA (eG ?_)
 try simp only [Bool.false_eq_true,↓reduceIte]
 exact fT (iZ rfl rfl fun w1 hr=>⟨rfl,rfl,rfl,hm.rely hr⟩)
theorem Ol (bF:p.ob=aR p false false)(hl:Y.dM q s=(s',gL,some q'))(hm:Mm Try.prog M w ((p.pb,aR p false false) :: (wl ++ Y.sh s')) []):bn Try.prog false 57 #[.pointer (some ⟨p.pb,0,none⟩)] (Ai Y p n q' wl (aR p false false)) (dP Try.prog Y p n q s) M w:=by
 refine vG (T:=#[.pointer (some ⟨p.pb,0,none⟩),undef,undef,undef,undef,undef,undef,undef,undef,undef,undef,undef,undef,undef,undef,undef,undef,undef,undef,undef,undef,undef]) Try.func57 rfl rfl (by simp [Array.replicate,List.replicate]) ?_
 refine ak (ak (kJ ?_))
 refine kT (v:=.pointer (some ⟨p.pb,0,none⟩)) rfl rfl ?_
 refine kT (v:=.pointer (some ⟨p.pb,0,none⟩)) rfl rfl ?_
 refine kT (v:=.pointer (some ⟨p.pb,4,none⟩)) rfl rfl ?_
 refine dx (lK (n:=0) (b:=p.pb) (k:=4) (v:=.bool false) ae rfl rfl hm (by first | rfl | (simp;rfl)) rfl (fun w1 hc=>⟨by go_simp,by unfold listed;simp [go_sem,hc];exact iX Try.func57 rfl _ _⟩) fun w hm=>?_)
 simp only [Act.put,List.getElem_toArray,List.getElem_cons_zero,List.getElem_cons_succ,List.setIfInBounds_toArray,List.set_cons_zero,List.set_cons_succ]
 refine aA (kF rfl ?_)
 refine bS (ak (ak (kJ ?_)))
 refine kT (v:=.pointer (some ⟨p.pb,0,none⟩)) rfl rfl ?_
 refine kT (v:=.pointer (some ⟨p.pb,0,none⟩)) rfl rfl ?_
 refine kT (v:=.pointer (some ⟨p.pb,3,none⟩)) rfl rfl ?_
 refine dx (lK (n:=0) (b:=p.pb) (k:=3) (v:=.bool false) ae rfl rfl hm (by first | rfl | (simp;rfl)) rfl (fun w1 hc=>⟨by go_simp,by unfold listed;simp [go_sem,hc];exact iX Try.func57 rfl _ _⟩) fun w hm=>?_)
 simp only [Act.put,List.getElem_toArray,List.getElem_cons_zero,List.getElem_cons_succ,List.setIfInBounds_toArray,List.set_cons_zero,List.set_cons_succ]
 refine aA (kF rfl ?_)
 refine bS (ak (kJ ?_))
 refine kT (v:=.pointer (some ⟨p.pb,0,none⟩)) rfl rfl ?_
 refine kT (v:=.pointer (some ⟨p.pb,0,none⟩)) rfl rfl ?_
 refine kT (v:=.pointer (some ⟨p.pb,2,none⟩)) rfl rfl ?_
 refine dx (lK (n:=0) (b:=p.pb) (k:=2) (v:=.chan (some p.arr)) ae rfl rfl hm (by first | rfl | (simp;rfl)) rfl (fun w1 hc=>⟨by go_simp,by unfold listed;simp [go_sem,hc];exact iX Try.func57 rfl _ _⟩) fun w hm=>?_)
 simp only [Act.put,List.getElem_toArray,List.getElem_cons_zero,List.getElem_cons_succ,List.setIfInBounds_toArray,List.set_cons_zero,List.set_cons_succ]
 refine Og ae rfl rfl _ _ rfl rfl (cells:=gL) af ?_
 simp only [Act.put,List.getElem_toArray,List.getElem_cons_zero,List.getElem_cons_succ,List.setIfInBounds_toArray,List.set_cons_zero,List.set_cons_succ]
 refine Od (p:=p) ae rfl rfl (fun w1=>Prod.ext ((Sem.runT_fst _ _ _ _).trans (by go_simp;rfl)) (by simp [go_sem])) hl bF.symm hm fun M w hm=>?_
 simp only [Act.put,List.getElem_toArray,List.getElem_cons_zero,List.getElem_cons_succ,List.setIfInBounds_toArray,List.set_cons_zero,List.set_cons_succ]
 refine aA (kJ ?_)
 refine kT (v:=.pointer (some ⟨p.pb,0,none⟩)) rfl rfl ?_
 refine vH ae rfl rfl rfl Try.func67 af af (by simp [Act.eval]) (bG (Fu hm) fun e S' M w hq=>?_)
 obtain ⟨rfl,n',s,hn,rfl,hm⟩:=hq
 simp only [Act.put,List.getElem_toArray,List.getElem_cons_zero,List.getElem_cons_succ,List.setIfInBounds_toArray,List.set_cons_zero,List.set_cons_succ]
 refine aA ?_
 exact mI (iZ rfl rfl fun w1 hr=>⟨rfl,n',s,hn,rfl,hm.rely hr⟩)
theorem Om {wb:Nat}{k:Int}(hm:Mm Try.prog M w ((p.pb,aR p true false) :: (wb,bY p k) :: l) r):bn Try.prog false 36 #[.pointer (some ⟨wb,0,none⟩)] (fun e S' M' w'=>e=.returned (.tuple #[])∧S'=S∧M'=M∧Mm Try.prog M' w' ((p.pb,aR p false false) :: (wb,bY p k) :: l) r) S M w:=by
 refine vG (T:=#[.pointer (some ⟨wb,0,none⟩),undef,undef,undef,undef,undef,undef,undef,undef,undef,undef,undef,undef,undef,undef,undef]) Try.func36 rfl rfl (by simp [Array.replicate,List.replicate]) ?_
 refine ak (ak (kJ ?_))
 refine kT (v:=.pointer (some ⟨wb,0,none⟩)) rfl rfl ?_
 refine xR ae rfl rfl rfl rfl rfl af (b:=false) rfl ?_
 simp only [Act.put,List.getElem_toArray,List.getElem_cons_zero,List.getElem_cons_succ,List.setIfInBounds_toArray,List.set_cons_zero,List.set_cons_succ]
 refine kT (v:=.bool false) rfl rfl ?_
 refine kT (v:=.pointer (some ⟨wb,0,none⟩)) rfl rfl ?_
 refine kT (v:=.pointer (some ⟨wb,0,none⟩)) rfl rfl ?_
 refine kT (v:=.pointer (some ⟨wb,1,none⟩)) rfl rfl ?_
 refine dx (lK (n:=1) (b:=wb) (k:=1) (v:=.pointer (some ⟨p.pb,0,none⟩)) ae rfl rfl hm (by first | rfl | (simp;rfl)) rfl (fun w1 hc=>⟨by go_simp,by unfold listed;simp [go_sem,hc];exact iX Try.func36 rfl _ _⟩) fun w hm=>?_)
 simp only [Act.put,List.getElem_toArray,List.getElem_cons_zero,List.getElem_cons_succ,List.setIfInBounds_toArray,List.set_cons_zero,List.set_cons_succ]
 refine xR ae rfl rfl rfl rfl rfl af (b:=false) rfl ?_
 simp only [Act.put,List.getElem_toArray,List.getElem_cons_zero,List.getElem_cons_succ,List.setIfInBounds_toArray,List.set_cons_zero,List.set_cons_succ]
 refine kT (v:=.bool false) rfl rfl ?_
 refine aA (kF rfl ?_)
 refine bS (kJ ?_)
 refine kT (v:=.pointer (some ⟨wb,0,none⟩)) rfl rfl ?_
 refine kT (v:=.pointer (some ⟨wb,0,none⟩)) rfl rfl ?_
 refine kT (v:=.pointer (some ⟨wb,1,none⟩)) rfl rfl ?_
 refine dx (lK (n:=1) (b:=wb) (k:=1) (v:=.pointer (some ⟨p.pb,0,none⟩)) ae rfl rfl hm (by first | rfl | (simp;rfl)) rfl (fun w1 hc=>⟨by go_simp,by unfold listed;simp [go_sem,hc];exact iX Try.func36 rfl _ _⟩) fun w hm=>?_)
 simp only [Act.put,List.getElem_toArray,List.getElem_cons_zero,List.getElem_cons_succ,List.setIfInBounds_toArray,List.set_cons_zero,List.set_cons_succ]
 refine vH ae rfl rfl rfl Try.func57 af af (by simp [Act.eval]) (bG (Oj hm) fun e S' M w hq=>?_)
 obtain ⟨he,hS,hM,hm2⟩:=hq
 subst he hS hM
 simp only [Act.put,List.getElem_toArray,List.getElem_cons_zero,List.getElem_cons_succ,List.setIfInBounds_toArray,List.set_cons_zero,List.set_cons_succ]
 refine aA ?_
 exact mI (iZ rfl rfl fun w1 hr=>⟨rfl,rfl,rfl,hm2.rely hr⟩)
theorem Fv {wb:Nat}{k:Int}(bF:p.ob=aR p false false)(hl:Y.dM q s=(s',gL,some q'))(hm:Mm Try.prog M w ((p.pb,aR p false false) :: ((wb,bY p k) :: wl ++ Y.sh s')) []):bn Try.prog false 36 #[.pointer (some ⟨wb,0,none⟩)] (Ai Y p n q' ((wb,bY p k) :: wl) (aR p false false)) (dP Try.prog Y p n q s) M w:=by
 refine vG (T:=#[.pointer (some ⟨wb,0,none⟩),undef,undef,undef,undef,undef,undef,undef,undef,undef,undef,undef,undef,undef,undef,undef]) Try.func36 rfl rfl (by simp [Array.replicate,List.replicate]) ?_
 refine ak (ak (kJ ?_))
 refine kT (v:=.pointer (some ⟨wb,0,none⟩)) rfl rfl ?_
 refine xR ae rfl rfl rfl rfl rfl af (b:=false) rfl ?_
 simp only [Act.put,List.getElem_toArray,List.getElem_cons_zero,List.getElem_cons_succ,List.setIfInBounds_toArray,List.set_cons_zero,List.set_cons_succ]
 refine kT (v:=.bool false) rfl rfl ?_
 refine kT (v:=.pointer (some ⟨wb,0,none⟩)) rfl rfl ?_
 refine kT (v:=.pointer (some ⟨wb,0,none⟩)) rfl rfl ?_
 refine kT (v:=.pointer (some ⟨wb,1,none⟩)) rfl rfl ?_
 refine dx (lK (n:=1) (b:=wb) (k:=1) (v:=.pointer (some ⟨p.pb,0,none⟩)) ae rfl rfl hm (by first | rfl | (simp;rfl)) rfl (fun w1 hc=>⟨by go_simp,by unfold listed;simp [go_sem,hc];exact iX Try.func36 rfl _ _⟩) fun w hm=>?_)
 simp only [Act.put,List.getElem_toArray,List.getElem_cons_zero,List.getElem_cons_succ,List.setIfInBounds_toArray,List.set_cons_zero,List.set_cons_succ]
 refine xR ae rfl rfl rfl rfl rfl af (b:=false) rfl ?_
 simp only [Act.put,List.getElem_toArray,List.getElem_cons_zero,List.getElem_cons_succ,List.setIfInBounds_toArray,List.set_cons_zero,List.set_cons_succ]
 refine kT (v:=.bool false) rfl rfl ?_
 refine aA (kF rfl ?_)
 refine bS (kJ ?_)
 refine kT (v:=.pointer (some ⟨wb,0,none⟩)) rfl rfl ?_
 refine kT (v:=.pointer (some ⟨wb,0,none⟩)) rfl rfl ?_
 refine kT (v:=.pointer (some ⟨wb,1,none⟩)) rfl rfl ?_
 refine dx (lK (n:=1) (b:=wb) (k:=1) (v:=.pointer (some ⟨p.pb,0,none⟩)) ae rfl rfl hm (by first | rfl | (simp;rfl)) rfl (fun w1 hc=>⟨by go_simp,by unfold listed;simp [go_sem,hc];exact iX Try.func36 rfl _ _⟩) fun w hm=>?_)
 simp only [Act.put,List.getElem_toArray,List.getElem_cons_zero,List.getElem_cons_succ,List.setIfInBounds_toArray,List.set_cons_zero,List.set_cons_succ]
 refine vH ae rfl rfl rfl Try.func57 af af (by simp [Act.eval]) (bG (Ol bF hl hm) fun e S' M w hq=>?_)
 obtain ⟨rfl,n',s,hn,rfl,hm⟩:=hq
 simp only [Act.put,List.getElem_toArray,List.getElem_cons_zero,List.getElem_cons_succ,List.setIfInBounds_toArray,List.set_cons_zero,List.set_cons_succ]
 refine aA ?_
 exact mI (iZ rfl rfl fun w1 hr=>⟨rfl,n',s,hn,rfl,hm.rely hr⟩)
end
end Go.Proofs.Ytanploaffndpjaa
namespace Go.Proofs.Ytanploaffndpjaa
open Go Go.Blind Go.Conc
def aQ (ok:Bool)(n m e:Int):List Value:=[.int .i64 0,.int .i64 0,.int .i64 0,.bool ok,.int .i64 n,.int .i64 m,.int .i64 e,.slice none 0 0,.slice none 0 0]
def dW (ok:Bool)(n m e:Int):Obj:=.cells (aQ ok n m e).toArray 48 (0,0)
def gM (p:Post):Obj:=.cells #[.pointer (some ⟨p.pb,0,none⟩)] 111 (0,0)
def Ov (cb off len cap:Nat):Obj:=.cells #[.slice (some ⟨cb,off,none⟩) len cap] 22 (0,0)
def vI (Y:aN)(p:Post)(wb:Nat)(k:Int)(wl:List (Nat×Obj))(cs:List Y.Call):fu:=fun e S' M' w' =>
 ∃ (ok:Bool) (n m er:Int) (n':Nat) (q':Y.bL) (s0 s':Y.σ),e=.returned (.agg (aQ ok n m er).toArray)∧S'=dP Try.prog Y p n' q' s0∧Y.dM q' s0=(s',fP (aQ ok n m er).toArray,if cs.isEmpty then none else some (none,cs))∧Mm Try.prog M' w' ((p.pb,aR p false false) :: ((wb,bY p k) :: wl ++ Y.sh s')) []
structure pE (Y:aN)(p:Post)(wb:Nat)(k:Int)(t:TypeId)(v rc:Value)(f:FuncId)(aD:Func)(enc:Y.Call→List Value):Prop where
 fE:FB Try.prog t v "Do" f rc
 there:Try.prog.funcs[f]?=some aD
 name:(aD.name == "runtime.NumGoroutine")=false
 body:aD.body.isNone=false
 len:∀ c,(enc c).length=5
 does:∀ (c:Y.Call) (cs:List Y.Call) (n:Nat) (s:Y.σ) (wl:List (Nat×Obj)) (M:Nat→Prop) (w:World),Mm Try.prog M w ((p.pb,aR p true false) :: ((wb,bY p k) :: wl ++ Y.sh s)) [] →
  bn Try.prog false f #[rc,.pointer (some ⟨wb,0,none⟩),.agg (enc c).toArray] (vI Y p wb k wl cs) (dP Try.prog Y p n (none,c :: cs) s) M w
section
variable {Y:aN}{p:Post}{wb:Nat}{k:Int}{t:TypeId}{v rc:Value}{f:FuncId}{aD:Func}{enc:Y.Call→List Value}{wl:List (Nat×Obj)}{n:Nat}{c:Y.Call}{cs:List Y.Call}{s:Y.σ}{M:Nat→Prop}{w:World}
abbrev G5:Type:=Nat×Bool×Int×Int×Int
def nS (wb cb off len cap:Nat)(t:TypeId)(v:Value)(en:List Value)(γ:G5):Nat→Value
 | 0=>.iface t v
 | 1=>.pointer (some ⟨wb,0,none⟩)
 | 2=>.slice (some ⟨cb,off,none⟩) len cap
 | 3=>.pointer (some ⟨cb,off,none⟩)
 | 4=>.agg en.toArray
 | 5=>.iface t v
 | 6=>.iface t v
 | 7=>.agg (aQ γ.2.1 γ.2.2.1 γ.2.2.2.1 γ.2.2.2.2).toArray
 | 8=>.pointer (some ⟨γ.1,0,none⟩)
 | _=>undef
def X5 (wl:List (Nat×Obj))(γ:G5)(b8 b9:Bool):List (Nat×Obj):=if b8 then wl ++ [(γ.1,if b9 then dW γ.2.1 γ.2.2.1 γ.2.2.2.1 γ.2.2.2.2 else dW false 0 0 0)] else wl
def H5 (Y:aN)(p:Post)(wb:Nat)(k:Int)(wl:List (Nat×Obj))(n:Nat)(c:Y.Call)(cs:List Y.Call)(s:Y.σ)(γ:G5)(b7 b8 b9:Bool)(S:ai)(M:Nat→Prop)(w:World):Prop :=
 (b9=true→b8=true∧b7=true)∧if b7 then ∃ n' q' s0 s',S=dP Try.prog Y p n' q' s0∧Y.dM q' s0=(s',fP (aQ γ.2.1 γ.2.2.1 γ.2.2.2.1 γ.2.2.2.2).toArray,if cs.isEmpty then none else some (none,cs))∧Mm Try.prog M w ((p.pb,aR p false false) :: ((wb,bY p k) :: X5 wl γ b8 b9 ++ Y.sh s')) []
  else S=dP Try.prog Y p n (none,c :: cs) s∧Mm Try.prog M w ((p.pb,aR p true false) :: ((wb,bY p k) :: X5 wl γ b8 b9 ++ Y.sh s)) []
theorem H5.any {γ:G5}{b7 b8 b9:Bool}{S:ai}(h:H5 Y p wb k wl n c cs s γ b7 b8 b9 S M w):∃ L,Mm Try.prog M w L []∧(∀ w1,Mm Try.prog M w1 L []→H5 Y p wb k wl n c cs s γ b7 b8 b9 S M w1)∧∀ (j:Nat) q,wl[j]?=some q→L[2+j]?=some q:=by
 have hj:∀ (pp:Nat×Obj) (s:Y.σ) (j:Nat) q,wl[j]?=some q→(pp :: ((wb,bY p k) :: X5 wl γ b8 b9 ++ Y.sh s))[2+j]?=some q:=by
  intro pp s j q hq
  have hlt:=(List.getElem?_eq_some_iff.1 hq).1
  rw [show 2+j=(j+1)+1 by omega]
  simp only [List.getElem?_cons_succ,List.cons_append]
  unfold X5
  cases b8
  ·simp only [Bool.false_eq_true,if_false]
   rw [List.getElem?_append_left hlt];exact hq
  ·simp only [if_true]
   rw [List.append_assoc,List.getElem?_append_left hlt];exact hq
 obtain ⟨h9,h⟩:=h
 cases b7
 ·simp only [Bool.false_eq_true,if_false] at h
  exact ⟨_,h.2,fun w1 hm=>⟨h9,by simp only [Bool.false_eq_true,if_false];exact ⟨h.1,hm⟩⟩,hj _ _⟩
 ·simp only [if_true] at h
  obtain ⟨n',q',s0,s',e1,e2,hm⟩:=h
  exact ⟨_,hm,fun w1 hm=>⟨h9,by simp only [if_true];exact ⟨n',q',s0,s',e1,e2,hm⟩⟩,hj _ _⟩
end
def D5:List (Option Nat):=[some 18,some 19,some 20,some 21,some 22,some 23,some 24,some 25,some 8,none]
section
variable {Y:aN}{p:Post}{wb:Nat}{k:Int}{t:TypeId}{v rc:Value}{f:FuncId}{aD:Func}{enc:Y.Call→List Value}{wl:List (Nat×Obj)}{n:Nat}{c:Y.Call}{cs:List Y.Call}{s:Y.σ}{M:Nat→Prop}{w:World}
theorem Ak (A B:List (Nat×Obj))(x:Nat×Obj):((A ++ B) ++ [x]).Perm ((A ++ [x]) ++ B):=by
 rw [List.append_assoc,List.append_assoc]
 exact List.perm_append_comm.append_left A
theorem xU {ok:Bool}{n m e:Int}:∀ x∈aQ ok n m e,x.oneCell'=true:=by
 intro x hx
 simp only [aQ,List.mem_cons,List.not_mem_nil,or_false] at hx
 rcases hx with rfl | rfl | rfl | rfl | rfl | rfl | rfl | rfl | rfl <;> rfl
theorem Ow (gW:pE Y p wb k t v rc f aD enc){a0:Act}{bc cb off len cap i1 i2:Nat}{cc:Array Value}{eC:TypeId}{fz:Nat×Nat}{Q:aZ}(hs:a0.tmps.size=39)(h1:a0.eval (.tmp 1)=.pointer (some ⟨wb,0,none⟩))(h3:a0.eval (.tmp 3)=.iface t v)(h6:a0.eval (.tmp 6)=.pointer (some ⟨bc,0,none⟩))
  (hm:Mm Try.prog M w ((p.pb,aR p true false) :: ((wb,bY p k) :: wl ++ Y.sh s)) [])(hbc:wl[i1]?=some (bc,Ov cb off len cap))(hcb:wl[i2]?=some (cb,.cells cc eC fz))(hcall:∀ j x,(enc c)[j]?=some x→cc[off+j]?=some x)(hlen:0 < len)
  (hQ:∀ a w M b8 ok m1 m2 er n' q' s0 s',a.tmps.size=39→a.defers=a0.defers→(∀ x,some x∉D5→a.eval (.tmp x)=a0.eval (.tmp x))→a.eval (.tmp 8)=.pointer (some ⟨b8,0,none⟩)→Y.dM q' s0=(s',fP (aQ ok m1 m2 er).toArray,if cs.isEmpty then none else some (none,cs)) →
   Mm Try.prog M w ((p.pb,aR p false false) :: ((wb,bY p k) :: (wl ++ [(b8,dW ok m1 m2 er)]) ++ Y.sh s')) []→Q .normal (dP Try.prog Y p n' q' s0) M a w) :
  aM Try.prog false 40 .normal (.region 5 (opsOf 5 Try.f40.body) true) Q (dP Try.prog Y p n (none,c :: cs) s) M a0 w:=by
 have hl5:=gW.len c
 refine jy af D5 (by rw [hs];kernel_rfl) (Γ:=G5) (fun γ=>nS wb cb off len cap t v (enc c) γ) (fun γ l S M w=>H5 Y p wb k wl n c cs s γ (on l 7) (on l 8) (on l 9) S M w) (0,false,0,0,0) (fun w1 hr=>?_) (fun i hi γ l S M a w o ho hg hM hoi az hC=>?_) (fun γ l S M a w hall hM hC=>?_)
 ·have z:∀ i,on (Array.replicate (opsOf 5 Try.f40.body).size false) i=false:=fun i=>by
   unfold on
   rw [Array.getD_eq_getD_getElem?,Array.getElem?_replicate]
   split <;> rfl
  refine ⟨fun h=>(by rw [z] at h;cases h),?_⟩
  rw [z,z,z]
  simp only [Bool.false_eq_true,if_false]
  have hm1:=hm.rely hr
  exact ⟨trivial,⟨hm1.own,hm1.rd,hm1.low,hm1.aX,hm1.base,hm1.nodup⟩⟩
 ·have hsz:l.size=10:=hM.size
  have hw:=jd (a:=a) (ops:=opsOf 5 Try.f40.body) hg
  have hlt:i < 10:=hi
  have still:∀ (L:List (Nat×Obj)) (γ':G5),γ'=γ→i≠7→i≠8→i≠9→(∀ w1,Mm Try.prog M w1 L []→H5 Y p wb k wl n c cs s γ (on l 7) (on l 8) (on l 9) S M w1)→∀ (x:Value),x=nS wb cb off len cap t v (enc c) γ i→∀ w1,Mm Try.prog M w1 L []→∃ γ',a.put o.dst x=a.put o.dst (nS wb cb off len cap t v (enc c) γ' i)∧(∀ j,on l j=true→nS wb cb off len cap t v (enc c) γ' j=nS wb cb off len cap t v (enc c) γ j)∧H5 Y p wb k wl n c cs s γ' (on (l.setIfInBounds i true) 7) (on (l.setIfInBounds i true) 8) (on (l.setIfInBounds i true) 9) S M w1:=by
   intro L γ' _ h7 h8 h9 hk x hx w1 hm1
   refine ⟨γ,by rw [hx],fun _ _=>rfl,?_⟩
   rw [aB h7,aB h8,aB h9]
   exact hk w1 hm1
  obtain ⟨L,dO,nT,oL⟩:=hC.any
  have hj0:∀ (j:Nat) q,wl[j]?=some q→(L ++ [])[2+j]?=some q:=fun j q hq=>by rw [List.append_nil];exact oL j q hq
  rcases (by omega:i=0∨i=1∨i=2∨i=3∨i=4∨i=5∨i=6∨i=7∨i=8∨i=9) with rfl | rfl | rfl | rfl | rfl | rfl | rfl | rfl | rfl | rfl
  ·exact aS ae ho hw (bK (x:=.tmp 3) (aC af ho) ((hM.slot ae).trans h3)) dO (still L γ rfl ae ae ae nT _ rfl)
  ·exact aS ae ho hw (bK (x:=.tmp 1) (aC af ho) ((hM.slot ae).trans h1)) dO (still L γ rfl ae ae ae nT _ rfl)
  ·exact eU ae ho hw (t:=22) (x:=.tmp 6) (aC af ho) (n:=2+i1) (b:=bc) (k:=0) ((hM.slot ae).trans h6) dO (hj0 i1 _ hbc) (v:=.slice (some ⟨cb,off,none⟩) len cap) rfl af (still L γ rfl ae ae ae nT _ rfl)
  ·have hv:=hM.val 2 20 rfl (az 2 af)
   have:=iI (P:=Try.prog) (a:=a) (o:=o) (t:=22) (x:=.tmp 20) (y:=.const (.int .i64 0)) (sz:=5) (aC af ho) hv rfl ⟨ae,by exact_mod_cast hlen⟩ af af
   exact aS ae ho hw this dO (still L γ rfl ae ae ae nT _ (by simp [nS,Addr.add]))
  ·have hv:=hM.val 3 21 rfl (az 3 af)
   exact pq ae ho hw (t:=32) (x:=.tmp 21) (aC af ho) (n:=2+i2) (b:=cb) (off:=off) hv dO (hj0 i2 _ hcb) (vs:=enc c) hcall af (by rw [hl5];kernel_rfl) (still L γ rfl ae ae ae nT _ rfl)
  ·have hv:=hM.val 0 18 rfl (az 0 af)
   exact aS ae ho hw (Ot (x:=.tmp 18) (aC af ho) hv) dO (still L γ rfl ae ae ae nT _ rfl)
  ·have hv:=hM.val 0 18 rfl (az 0 af)
   exact aS ae ho hw (bK (x:=.tmp 18) (aC af ho) hv) dO (still L γ rfl ae ae ae nT _ rfl)
  ·have hv6:=hM.val 6 24 rfl (az 6 af)
   have hv1:=hM.val 1 19 rfl (az 1 af)
   have hv4:=hM.val 4 22 rfl (az 4 af)
   obtain ⟨h9,hC⟩:=hC
   have sH:on l 9=false:=by
    cases hz:on l 9 with
    | false=>rfl
    | true=>have:=(h9 hz).2;rw [hoi] at this;cases this
   rw [hoi] at hC
   simp only [Bool.false_eq_true,if_false] at hC
   obtain ⟨rfl,dQ⟩:=hC
   refine FC ae ho hw (recv:=.tmp 24) (name:= "Do") (args:=#[.tmp 19,.tmp 22]) (ats:=#[69,32]) (aC af ho) hv6 gW.fE gW.there gW.name gW.body (ys:=#[rc,.pointer (some ⟨wb,0,none⟩),.agg (enc c).toArray]) (by simp [hv1,hv4,nS]) (gW.does c cs n s _ M w dQ) fun e S' M' w' hd=>?_
   obtain ⟨ok,m1,m2,er,n',q',s0,s',rfl,rfl,hl,hm'⟩:=hd
   refine ⟨_,rfl,(γ.1,ok,m1,m2,er),rfl,fun j hj=>?_,?_⟩
   ·rcases (by omega:j=7∨j≠7) with rfl | hne
    ·rw [hoi] at hj;cases hj
    ·match j,hne with
     | 0,_=>rfl
     | 1,_=>rfl
     | 2,_=>rfl
     | 3,_=>rfl
     | 4,_=>rfl
     | 5,_=>rfl
     | 6,_=>rfl
     | 8,_=>rfl
     | j+9,_=>rfl
   ·rw [bP ag,aB ae,aB ae,sH]
    refine ⟨fun h=>(by cases h),?_⟩
    simp only [if_true]
    refine ⟨n',q',s0,s',rfl,hl,?_⟩
    rw [sH] at hm'
    have e:X5 wl (γ.1,ok,m1,m2,er) (on l 8) false=X5 wl γ (on l 8) false:=by unfold X5;rfl
    rw [e]
    exact hm'
  ·obtain ⟨h9,hC⟩:=hC
   have sH:on l 9=false:=by
    cases hz:on l 9 with
    | false=>rfl
    | true=>have:=(h9 hz).1;rw [hoi] at this;cases this
   have keep:∀ (b j:Nat),on l j=true→nS wb cb off len cap t v (enc c) (b,γ.2) j=nS wb cb off len cap t v (enc c) γ j:=fun b j hj=>by
    rcases (by omega:j=8∨j≠8) with rfl | hne
    ·rw [hoi] at hj;cases hj
    ·match j,hne with
     | 0,_=>rfl
     | 1,_=>rfl
     | 2,_=>rfl
     | 3,_=>rfl
     | 4,_=>rfl
     | 5,_=>rfl
     | 6,_=>rfl
     | 7,_=>rfl
     | j+9,_=>rfl
   rw [hoi,sH] at hC
   cases h7:on l 7 with
   | false =>
    rw [h7] at hC
    simp only [Bool.false_eq_true,if_false] at hC
    obtain ⟨rfl,dQ⟩:=hC
    refine qH ae ho hw (t:=48) (aC af ho) (z:=.agg (aQ false 0 0 0).toArray) af dQ fun b w1 hm1=>⟨(b,γ.2),rfl,keep b,?_⟩
    rw [aB ae,bP ag,aB ae,h7,sH]
    refine ⟨fun h=>(by cases h),?_⟩
    simp only [Bool.false_eq_true,if_false]
    exact ⟨trivial,hm1.perm (((Ak wl (Y.sh s) _).cons _).cons _)⟩
   | true =>
    rw [h7] at hC
    simp only [if_true] at hC
    obtain ⟨n',q',s0,s',rfl,hl,dQ⟩:=hC
    refine qH ae ho hw (t:=48) (aC af ho) (z:=.agg (aQ false 0 0 0).toArray) af dQ fun b w1 hm1=>⟨(b,γ.2),rfl,keep b,?_⟩
    rw [aB ae,bP ag,aB ae,h7,sH]
    refine ⟨fun h=>(by cases h),?_⟩
    simp only [if_true]
    exact ⟨n',q',s0,s',rfl,hl,hm1.perm (((Ak wl (Y.sh s') _).cons _).cons _)⟩
  ·have d8:=az 8 af
   have d7:=az 7 af
   have Ox:=hM.val 8 8 rfl d8
   have hv7:=hM.val 7 25 rfl d7
   obtain ⟨h9,hC⟩:=hC
   rw [d7,d8,hoi] at hC
   simp only [if_true] at hC
   obtain ⟨n',q',s0,s',rfl,hl,dQ⟩:=hC
   refine qG ae ho hw (t:=48) (x:=.tmp 8) (y:=.tmp 25) (aC af ho) (n:=wl.length+2) (b:=γ.1) Ox (vs:=aQ γ.2.1 γ.2.2.1 γ.2.2.2.1 γ.2.2.2.2) hv7 (c:=(aQ false 0 0 0).toArray) (e:=48) dQ ?_ rfl af xU fun w1 hm1=>⟨γ,rfl,fun _ _=>rfl,?_⟩
   ·show (X5 wl γ true false ++ Y.sh s')[wl.length]?=_
    unfold X5
    simp [dW]
   ·rw [aB ae,aB ae,bP ag,d7,d8]
    refine ⟨fun _=>⟨rfl,rfl⟩,?_⟩
    simp only [if_true]
    refine ⟨n',q',s0,s',rfl,hl,?_⟩
    have e:((p.pb,aR p false false) :: ((wb,bY p k) :: X5 wl γ true false ++ Y.sh s')).set (wl.length+2) (γ.1,.cells (aQ γ.2.1 γ.2.2.1 γ.2.2.2.1 γ.2.2.2.2).toArray 48 (0,0))=(p.pb,aR p false false) :: ((wb,bY p k) :: X5 wl γ true true ++ Y.sh s'):=by
     unfold X5
     simp [dW]
    rw [e] at hm1
    exact hm1
 ·have h7:on l 7=true:=hall 7 ae
  have h8:on l 8=true:=hall 8 ae
  have h9:on l 9=true:=hall 9 ae
  obtain ⟨_,hC⟩:=hC
  rw [h7,h8,h9] at hC
  simp only [if_true] at hC
  obtain ⟨n',q',s0,s',rfl,hl,dQ⟩:=hC
  exact hQ a w M γ.1 γ.2.1 γ.2.2.1 γ.2.2.2.1 γ.2.2.2.2 n' q' s0 s' (hM.fV.trans hs) hM.defers (fun x hx=>hM.slot hx) (hM.val 8 8 rfl h8) hl dQ
end
end Go.Proofs.Ytanploaffndpjaa
namespace Go.Blind
open Go.Conc
def FT (P:Program)(L X:List FuncId):Bool:=L.all fun f=>match P.funcs[f]? with
 | some fn=>!(fn.name == "runtime.NumGoroutine") && (match fn.body with | some c=>fI P (fun g=>L.contains g) c | none=>X.contains f)
 | none=>true
theorem FU {P:Program}{n:Nat}{L X:List FuncId}(h1:xV P n=true)(h2:FT P L X=true)(h3:Ao P (fun g=>L.contains g)=true)(hX:∀ f∈X,∀ fn,P.funcs[f]?=some fn→fn.body=none→∀ (K:av)(xs ys:Array Value),AR K xs ys→SR P (NR P) K (Go.callFunc f xs) (Go.callFunc f ys)):Good P (fun g=>L.contains g):=by
 unfold FT at h2
 rw [List.all_eq_true] at h2
 have bo:∀ f fn,L.contains f=true→P.funcs[f]?=some fn→(fn.name == "runtime.NumGoroutine")=false∧((∃ c,fn.body=some c∧fI P (fun g=>L.contains g) c=true)∨(fn.body=none∧f∈X)):=fun f fn hf hfn=>by
  have:=h2 f (by simpa using hf)
  rw [hfn] at this
  simp only [Bool.and_eq_true,Bool.not_eq_true'] at this
  refine ⟨this.1,?_⟩
  cases hbd:fn.body with
  | none=>rw [hbd] at this;exact .inr ⟨rfl,by simpa using this.2⟩
  | some c=>rw [hbd] at this;exact .inl ⟨c,rfl,this.2⟩
 refine ⟨⟨OK h1,fun f fn hf hfn hn=>?_,fun f fn hf hfn=>(bo f fn hf hfn).1,fun n hn=>OJ h3 n hn⟩,fun f fn c hf hfn hc=>?_⟩
 ·rcases (bo f fn hf hfn).2 with ⟨c,hc,_⟩ | ⟨_,hx⟩
  ·rw [hn] at hc;cases hc
  ·exact hX f hx fn hfn hn
 ·rcases (bo f fn hf hfn).2 with ⟨c',hc',h⟩ | ⟨hn,_⟩
  ·rw [hc] at hc';cases hc';exact h
  ·rw [hc] at hn;cases hn
end Go.Blind
namespace Go.Proofs.Ytanploaffndpjaa
open Go Go.Blind Go.Conc
def OU:List FuncId:=[43,68,77,42,44,69,78,70,79,80,30,46,25,27,28,31,41,18,19,102,105,109,23,24,103,106,110,108,98,8,5,9,6,36,57,67,99,100,101,104,107,111,112,22,21,11,12,13,14,15,16,17,7,461008,1000003]
def xW:List FuncId:=[23,24,103,106,110]
abbrev GL:FuncId→Bool:=fun g=>OU.contains g
theorem FV:xV Try.prog 8=true:=by kernel_rfl
theorem sJ:Blind.Good Try.prog GL:=FU (n:=8) (X:=xW) FV af af fun f hf fn hfn hb K xs ys h=>by
 simp only [xW,List.mem_cons,List.not_mem_nil,or_false] at hf
 rcases hf with rfl | rfl | rfl | rfl | rfl
 ·rw [Try.func23] at hfn;cases hfn
  exact SR.mK Try.func23 af rfl af (e:=Extern.Atomic.loadT (.int .i64)) af (fun K xs ys h=>SR.FK h) h
 ·rw [Try.func24] at hfn;cases hfn
  exact SR.mK Try.func24 af rfl af (e:=Extern.Atomic.storeT) af (fun K xs ys h=>SR.FL h) h
 ·rw [Try.func103] at hfn;cases hfn
  exact SR.mK Try.func103 af rfl af (e:=Extern.Atomic.update (Op.intArith .add) .i64 true) af (fun K xs ys h=>SR.FN h) h
 ·rw [Try.func106] at hfn;cases hfn
  exact SR.mK Try.func106 af rfl af (e:=Extern.Atomic.swapT (.int .i64)) af (fun K xs ys h=>SR.FM h) h
 ·rw [Try.func110] at hfn;cases hfn
  exact SR.mK Try.func110 af rfl af (e:=Extern.Atomic.casT (.int .i64)) af (fun K xs ys h=>SR.FQ h) h
end Go.Proofs.Ytanploaffndpjaa
namespace Go.Proofs.Ytanploaffndpjaa
open Go.RowKit
theorem OV (w:World):Calls Try.prog 77 #[.slice none 0 0] w fun e w'=>e=.returned (.slice none 0 0)∧w'=w:=by
 have hn:=fun w=>Lib.run_eql_slice_nil (P:=Try.prog) w 29 3 none 0 0 0 0 af
 go_enter Try.func77,Try.ntmps77
 go_wp2
 go_ret
 exact ⟨rfl,rfl⟩
theorem FW (w:World):Calls Try.prog 42 #[.slice none 0 0] w fun e w'=>e=.returned (.slice none 0 0)∧w'=w:=by
 have hn:=fun w=>Lib.run_eql_slice_nil (P:=Try.prog) w 30 125 none 0 0 0 0 af
 go_enter Try.func42,Try.ntmps42
 go_wp2
 go_ret
 exact ⟨rfl,rfl⟩
theorem OW (w:World)(ok:Bool)(n m er:Int):Calls Try.prog 68 #[.agg (aQ ok n m er).toArray] w fun e _=>e=.returned (.agg (aQ ok n m er).toArray):=by
 unfold aQ
 go_enter Try.func68,Try.ntmps68
 go_wp2_with (first
  | (go_at_call 77;refine (OV _).mono ?_;rintro e w' ⟨rfl,rfl⟩)
  | (go_at_call 42;refine (FW _).mono ?_;rintro e w' ⟨rfl,rfl⟩))
 exact ⟨rfl,_,Blind.Fz (vs:=aQ ok n m er) (t:=48) (sl:=2) rfl rfl af af (Blind.Ou w _ _),rfl⟩
structure au (l:List Nat)(w w':World):Prop where
 os:w'.os=w.os
 tape:w'.tape=w.tape
 output:w'.output=w.output
 size:w.heap.size≤w'.heap.size
 block:∀ k,k < w.heap.size→k∉l→w'.heap[k]?=w.heap[k]?
theorem au.refl (l:List Nat)(w:World):au l w w:=⟨rfl,rfl,rfl,Nat.le_refl _,fun _ _ _=>rfl⟩
theorem au.trans {l:List Nat}{a b c:World}(h:au l a b)(k:au l b c):au l a c :=
 ⟨k.os.trans h.os,k.tape.trans h.tape,k.output.trans h.output,Nat.le_trans h.size k.size,fun i hi hn=>(k.block i (Nat.lt_of_lt_of_le hi h.size) hn).trans (h.block i hi hn)⟩
theorem au.mono {l m:List Nat}{a b:World}(h:au l a b)(hl:∀ x,x∈l→x∈m):au m a b :=
 ⟨h.os,h.tape,h.output,h.size,fun i hi hn=>h.block i hi (fun e=>hn (hl i e))⟩
theorem au.inner {l m:List Nat}{a b c:World}(h:au l a b)(k:au m b c)(hm:∀ x,x∈m→x∈l∨a.heap.size≤x):au l a c :=
 ⟨k.os.trans h.os,k.tape.trans h.tape,k.output.trans h.output,Nat.le_trans h.size k.size,fun i hi hn=>(k.block i (Nat.lt_of_lt_of_le hi h.size) (fun e=>by rcases hm i e with h1 | h1;exact hn h1;omega)).trans (h.block i hi hn)⟩
theorem au.set {l:List Nat}{a w:World}(h:au l a w){r:Nat}(hr:r∈l∨a.heap.size≤r)(o:Nat)(v:Value):au l a (w.setCell ⟨r,o,none⟩ v) :=
 h.inner (m:=[r]) ⟨rfl,rfl,rfl,by simp [World.setCell],fun k _ hn=>Below.heap_setCell _ _ _ _ (by simpa using hn)⟩ (fun x hx=>by simp at hx;subst hx;exact hr)
theorem au.alloc {l:List Nat}{a w:World}(h:au l a w)(o:Obj):au l a (w.alloc o) :=
 h.trans ⟨rfl,rfl,rfl,ah,fun k hk _=>Below.heap_alloc _ _ _ hk⟩
theorem au.drew {l:List Nat}{a w:World}(h:au l a w):au l a w.drew:=⟨h.os,h.tape,h.output,h.size,h.block⟩
theorem au.heap {l:List Nat}{a b:World}(h:au l a b){r:Nat}{o:Obj}(ho:a.heap[r]?=some o)(hr:r∉l):b.heap[r]?=some o :=
 (h.block r (Array.getElem?_eq_some_iff.1 ho).1 hr).trans ho
theorem au.cell {l:List Nat}{a b:World}(h:au l a b){p:Addr}{v:Value}(hp:a.cell? p=some v)(hr:p.block∉l):b.cell? p=some v :=
 (World.cell?_of_block (h.block p.block (World.block_lt_of_cell? a p hp) hr)).trans hp
theorem lt_of_heap {w:World}{r:Nat}{o:Obj}(ho:w.heap[r]?=some o):r < w.heap.size:=(Array.getElem?_eq_some_iff.1 ho).1
theorem bW {w:World}{b:Nat}{cs:Array Value}{T:TypeId}(h:w.heap[b]?=some (.cells cs T (0,0)))(i:Nat):w.cell? ⟨b,i,none⟩=cs[i]?:=by
 simp [World.cell?,h]
theorem mP {w:World}{b:Nat}{cs:Array Value}{T:TypeId}(h:w.heap[b]?=some (.cells cs T (0,0)))(i:Nat):w.frozen? ⟨b,i,none⟩=false:=by
 simp [World.frozen?,h]
theorem yf {w:World}{b:Nat}{cs:Array Value}{T:TypeId}(h:w.heap[b]?=some (.cells cs T (0,0)))(i:Nat)(v:Value):(w.setCell ⟨b,i,none⟩ v).heap[b]?=some (.cells (cs.setIfInBounds i v) T (0,0)):=by
 simp [World.setCell,Array.getElem?_modify,h]
theorem P5 {w:World}{b r:Nat}(hr:b≠r)(i:Nat)(v:Value):(w.setCell ⟨r,i,none⟩ v).heap[b]?=w.heap[b]?:=Below.heap_setCell _ _ _ _ hr
theorem nY (w:World)(o:Obj):(w.alloc o).heap[w.heap.size]?=some o:=heap_alloc_new w o
theorem jU {w:World}{b:Nat}{o:Obj}(h:w.heap[b]?=some o)(p:Obj):(w.alloc p).heap[b]?=some o:=(Below.heap_alloc _ _ _ (lt_of_heap h)).trans h
theorem mQ (w:World):Calls Try.prog 36 #[.pointer none] w fun e w'=>e=.returned (.tuple #[])∧w'=w:=by
 go_enter Try.func36,Try.ntmps36
 go_wp2
 refine bodyPost_ret (results_none rfl _ _ _) rfl ?_
 exact ⟨rfl,rfl⟩
theorem sQ {a:Addr}{x:Int}{w:World}(hc:w.cell? a=some (.int .i64 x)):Calls Try.prog 18 #[.pointer (some a)] w fun e w'=>e=.returned (.int .i64 x)∧w'=w:=by
 have hl:=run_call_load (P:=Try.prog) Try.func23 af af af .i64 af hc
 obtain ⟨B,o,sp⟩:=a
 go_enter Try.func18,Try.ntmps18
 go_wp2
 go_ret
 exact ⟨rfl,rfl⟩
theorem P6 {a:Addr}{x y:Int}{w:World}(hc:w.cell? a=some (.int .i64 x))(hz:w.frozen? a=false):Calls Try.prog 19 #[.pointer (some a),.int .i64 y] w fun e w'=>e=.returned (.tuple #[])∧w'=w.setCell a (.int .i64 y):=by
 have hl:=run_call_store (P:=Try.prog) Try.func24 af af af af (k:=.i64) (y:=y) hc hz
 obtain ⟨B,o,sp⟩:=a
 go_enter Try.func19,Try.ntmps19
 go_wp2
 go_end0
 exact ⟨rfl,rfl⟩
theorem P7 {a:Addr}{x y:Int}{w:World}(hc:w.cell? a=some (.int .i64 x))(hz:w.frozen? a=false):Calls Try.prog 109 #[.pointer (some a),.int .i64 x,.int .i64 y] w fun e w'=>e=.returned (.bool true)∧w'=w.setCell a (.int .i64 y):=by
 have hl:=run_call_cas_hit (P:=Try.prog) Try.func110 af af af .i64 af (y:=y) hc hz
 obtain ⟨B,o,sp⟩:=a
 go_enter Try.func109,Try.ntmps109
 go_wp2
 go_ret
 exact ⟨rfl,rfl⟩
theorem P8 {a:Addr}{x o y:Int}{w:World}(hc:w.cell? a=some (.int .i64 x))(hz:w.frozen? a=false)(hne:¬ x=o):Calls Try.prog 109 #[.pointer (some a),.int .i64 o,.int .i64 y] w fun e w'=>e=.returned (.bool false)∧w'=w:=by
 have hl:=run_call_cas_miss (P:=Try.prog) Try.func110 af af af .i64 af (y:=y) hc hz hne
 obtain ⟨B,o,sp⟩:=a
 go_enter Try.func109,Try.ntmps109
 go_wp2
 go_ret
 exact ⟨rfl,rfl⟩
theorem P9 {a:Addr}{x y:Int}{w:World}(hc:w.cell? a=some (.int .i64 x))(hz:w.frozen? a=false):(callFunc 106 #[.pointer (some a),.int .i64 y]).run Try.prog w=.ok (.value (.int .i64 x)) (w.setCell a (.int .i64 y)):=by
 rw [run_callFunc_extern (P:=Try.prog) Try.func106 af af af (e:=Extern.Atomic.swapT (.int .i64)) af]
 change (Sem.run Try.prog (do
  let a ← asAddr (.pointer (some a))
  let old ← Extern.Atomic.read (.int .i64) a
  store a (.int .i64 y) .atomic
  pure old) w).andThen _=_
 simp [Extern.Atomic.read,asAddr,hc,hz,run_store Try.prog w a (.int .i64 y) .atomic rfl,Result.andThen]
theorem Qa {a:Addr}{x y:Int}{w:World}(hc:w.cell? a=some (.int .i64 x))(hz:w.frozen? a=false):Calls Try.prog 105 #[.pointer (some a),.int .i64 y] w fun e w'=>e=.returned (.int .i64 x)∧w'=w.setCell a (.int .i64 y):=by
 have hl:=P9 (y:=y) hc hz
 obtain ⟨B,o,sp⟩:=a
 go_enter Try.func105,Try.ntmps105
 go_wp2
 go_ret
 exact ⟨rfl,rfl⟩
theorem run_add64 {a:Addr}{x y:Int}{w:World}(hc:w.cell? a=some (.int .i64 x))(hz:w.frozen? a=false):(callFunc 103 #[.pointer (some a),.int .i64 y]).run Try.prog w=.ok (.value (.int .i64 (wrap64 (x+y)))) (w.setCell a (.int .i64 (wrap64 (x+y)))) :=
 run_call_add (P:=Try.prog) Try.func103 af af af .i64 af hc hz (by simp [Op.intArith,IntWalk.i64_left])
theorem Qb {a:Addr}{x y:Int}{w:World}(hc:w.cell? a=some (.int .i64 x))(hz:w.frozen? a=false):Calls Try.prog 102 #[.pointer (some a),.int .i64 y] w fun e w'=>e=.returned (.int .i64 (wrap64 (x+y)))∧w'=w.setCell a (.int .i64 (wrap64 (x+y))):=by
 have hl:=run_add64 (y:=y) hc hz
 obtain ⟨B,o,sp⟩:=a
 go_enter Try.func102,Try.ntmps102
 go_wp2
 go_ret
 exact ⟨rfl,rfl⟩
def dJ (ok:Bool)(n e:Int):Value:=.agg #[.int .i64 0,.int .i64 0,.int .i64 0,.bool ok,.int .i64 n,.int .i64 0,.int .i64 e,.slice none 0 0,.slice none 0 0]
theorem yg {a:Addr}{x y:Int}{w:World}(hc:w.cell? a=some (.int .i64 x))(hz:w.frozen? a=false):Calls Try.prog 108 #[.pointer (some a),.int .i64 x,.int .i64 y] w fun e w'=>e=.returned (.bool true)∧w'=w.setCell a (.int .i64 y):=by
 have HC:=P7 (y:=y) hc hz
 obtain ⟨B,o,sp⟩:=a
 go_enter Try.func108,Try.ntmps108
 go_wp2_with (go_at_call 109;refine HC.mono ?_;rintro e w' ⟨rfl,rfl⟩)
 go_ret
 exact ⟨rfl,rfl⟩
theorem Gp {a:Addr}{x o y:Int}{w:World}(hc:w.cell? a=some (.int .i64 x))(hz:w.frozen? a=false)(hne:¬ x=o):Calls Try.prog 108 #[.pointer (some a),.int .i64 o,.int .i64 y] w fun e w'=>e=.returned (.bool false)∧w'=w:=by
 have HC:=P8 (y:=y) hc hz hne
 obtain ⟨B,o2,sp⟩:=a
 go_enter Try.func108,Try.ntmps108
 go_wp2_with (go_at_call 109;refine HC.mono ?_;rintro e w' ⟨rfl,rfl⟩)
 go_ret
 exact ⟨rfl,rfl⟩
theorem mR {f:Func}(hr:f.results=#[.cell 6 48]){tm:Array Value}{W:World}{R:Ending→World→Prop}{ok:Bool}{n e:Int}{g:Nat}(hp:tm.getD 6 undef=.pointer (some ⟨g,0,none⟩))(hg:W.heap[g]?=some (.cells (dJ ok n e).cells 48 (0,0)))(h:R (.returned (dJ ok n e)) W):bodyPost Try.prog f R .ret ⟨tm,[]⟩ W :=
 bodyPost_ret (results_cell_row hr tm W g 48 (dJ ok n e).cells (0,0) _ hp hg Try.underlying48 rfl af) rfl h
structure bM (b i:Nat)(cs:Array Value)(y:Int)(w w':World):Prop where
 turned:au [b] w w'
 blk:w'.heap[b]?=some (.cells (cs.setIfInBounds i (.int .i64 y)) 62 (0,0))
section
variable {b i:Nat}{cs:Array Value}{x:Int}{w:World}
theorem Gq (hx:cs[i]?=some (.int .i64 x)):cs.setIfInBounds i (.int .i64 x)=cs:=by
 apply Array.ext_getElem?
 intro j
 rw [Array.getElem?_setIfInBounds]
 split
 ·rename_i e;subst e;rw [if_pos (Array.getElem?_eq_some_iff.1 hx).1,hx]
 ·rfl
theorem Qc (hb:w.heap[b]?=some (.cells cs 62 (0,0)))(hx:cs[i]?=some (.int .i64 x)):Calls Try.prog 99 #[.agg #[],.pointer none,.pointer (some ⟨b,i,none⟩)] w fun e w'=>e=.returned (dJ false x 0)∧bM b i cs x w w':=by
 have H1:=mQ
 have H2:Hid (∀ y:World,au [] w y→Calls Try.prog 18 #[.pointer (some ⟨b,i,none⟩)] y fun e w'=>e=.returned (.int .i64 x)∧w'=y):=fun y ht=>sQ (ht.cell ((bW hb i).trans hx) ah)
 have HB:Hid (∀ y:World,au [] w y→bM b i cs x w y):=fun y ht=>⟨ht.mono ah,by rw [Gq hx];exact ht.heap hb ah⟩
 clear hb hx
 go_enter Try.func99,Try.ntmps99
 go_wp2_with (first
  | (go_at_call 36;refine (H1 _).mono ?_;rintro e x1 ⟨rfl,rfl⟩)
  | (go_at_call 18;refine (H2.out _ (((au.refl _ _).alloc _).alloc _)).mono ?_;rintro e x1 ⟨rfl,rfl⟩))
 exact mR rfl rfl (heap_alloc2_new _ _ _) ⟨rfl,HB.out _ (((au.refl _ _).alloc _).alloc _)⟩
theorem sS (w:World)(b i:Nat)(v:Value)(A B:Obj):(((w.setCell ⟨b,i,none⟩ v).alloc A).alloc B).heap[w.heap.size+1]?=some B:=by
 have h:=heap_alloc2_new (w.setCell ⟨b,i,none⟩ v) A B
 rwa [show (w.setCell ⟨b,i,none⟩ v).heap.size=w.heap.size by simp [World.setCell]] at h
theorem sU {y:Int}(hb:w.heap[b]?=some (.cells cs 62 (0,0)))(A B:Obj):bM b i cs y w (((w.setCell ⟨b,i,none⟩ (.int .i64 y)).alloc A).alloc B) :=
 ⟨(((au.refl _ _).set (.inl ah) _ _).alloc _).alloc _,jU (jU (yf hb i _) _) _⟩
theorem Ay (hb:w.heap[b]?=some (.cells cs 62 (0,0)))(hx:cs[i]?=some (.int .i64 x))(A B:Obj):bM b i cs x w ((w.alloc A).alloc B) :=
 ⟨((au.refl _ _).alloc _).alloc _,by rw [Gq hx];exact jU (jU hb _) _⟩
theorem lW {l:List Nat}{A B:Obj}:au l w ((w.alloc A).alloc B):=((au.refl _ _).alloc _).alloc _
theorem Qd {v:Int}(hb:w.heap[b]?=some (.cells cs 62 (0,0)))(hx:cs[i]?=some (.int .i64 x)):Calls Try.prog 100 #[.agg #[.int .i64 v],.pointer none,.pointer (some ⟨b,i,none⟩)] w fun e w'=>e=.returned (dJ false 0 0)∧bM b i cs v w w':=by
 have H1:=mQ
 have hlt:=lt_of_heap hb
 have H2:Hid (∀ y:World,au [] w y→Calls Try.prog 19 #[.pointer (some ⟨b,i,none⟩),.int .i64 v] y fun e w'=>e=.returned (.tuple #[])∧w'=y.setCell ⟨b,i,none⟩ (.int .i64 v)):=fun y ht=>P6 (ht.cell ((bW hb i).trans hx) ah) (mP (ht.heap hb ah) i)
 have HB:=fun A B=>sU (i:=i) (y:=v) hb A B
 clear hx
 go_enter Try.func100,Try.ntmps100
 go_wp2_with (first
  | (go_at_call 36;refine (H1 _).mono ?_;rintro e x1 ⟨rfl,rfl⟩)
  | (go_at_call 19;refine (H2.out _ lW).mono ?_;rintro e x1 ⟨rfl,rfl⟩))
 exact mR rfl rfl (sS _ _ _ _ _ _) ⟨rfl,HB _ _⟩
theorem Qe {v:Int}(hb:w.heap[b]?=some (.cells cs 62 (0,0)))(hx:cs[i]?=some (.int .i64 x)):Calls Try.prog 101 #[.agg #[.int .i64 v],.pointer none,.pointer (some ⟨b,i,none⟩)] w fun e w'=>e=.returned (dJ false (wrap64 (x+v)) 0)∧bM b i cs (wrap64 (x+v)) w w':=by
 have H1:=mQ
 have hlt:=lt_of_heap hb
 have H2:Hid (∀ y:World,au [] w y→Calls Try.prog 102 #[.pointer (some ⟨b,i,none⟩),.int .i64 v] y fun e w'=>e=.returned (.int .i64 (wrap64 (x+v)))∧w'=y.setCell ⟨b,i,none⟩ (.int .i64 (wrap64 (x+v)))):=fun y ht=>Qb (ht.cell ((bW hb i).trans hx) ah) (mP (ht.heap hb ah) i)
 have HB:=fun A B=>sU (i:=i) (y:=wrap64 (x+v)) hb A B
 clear hx
 revert H2 HB
 generalize wrap64 (x+v)=z
 intro H2 HB
 go_enter Try.func101,Try.ntmps101
 go_wp2_with (first
  | (go_at_call 36;refine (H1 _).mono ?_;rintro e x1 ⟨rfl,rfl⟩)
  | (go_at_call 102;refine (H2.out _ lW).mono ?_;rintro e x1 ⟨rfl,rfl⟩))
 exact mR rfl rfl (sS _ _ _ _ _ _) ⟨rfl,HB _ _⟩
theorem Qf {v:Int}(hb:w.heap[b]?=some (.cells cs 62 (0,0)))(hx:cs[i]?=some (.int .i64 x)):Calls Try.prog 104 #[.agg #[.int .i64 v],.pointer none,.pointer (some ⟨b,i,none⟩)] w fun e w'=>e=.returned (dJ false x 0)∧bM b i cs v w w':=by
 have H1:=mQ
 have hlt:=lt_of_heap hb
 have H2:Hid (∀ y:World,au [] w y→Calls Try.prog 105 #[.pointer (some ⟨b,i,none⟩),.int .i64 v] y fun e w'=>e=.returned (.int .i64 x)∧w'=y.setCell ⟨b,i,none⟩ (.int .i64 v)):=fun y ht=>Qa (ht.cell ((bW hb i).trans hx) ah) (mP (ht.heap hb ah) i)
 have HB:=fun A B=>sU (i:=i) (y:=v) hb A B
 clear hx
 go_enter Try.func104,Try.ntmps104
 go_wp2_with (first
  | (go_at_call 36;refine (H1 _).mono ?_;rintro e x1 ⟨rfl,rfl⟩)
  | (go_at_call 105;refine (H2.out _ lW).mono ?_;rintro e x1 ⟨rfl,rfl⟩))
 exact mR rfl rfl (sS _ _ _ _ _ _) ⟨rfl,HB _ _⟩
theorem Qg {o v:Int}(hb:w.heap[b]?=some (.cells cs 62 (0,0)))(hx:cs[i]?=some (.int .i64 x)):Calls Try.prog 107 #[.agg #[.int .i64 o,.int .i64 v],.pointer none,.pointer (some ⟨b,i,none⟩)] w fun e w'=>e=.returned (dJ (decide (x=o)) 0 0)∧bM b i cs (if x=o then v else x) w w':=by
 have H1:=mQ
 have hlt:=lt_of_heap hb
 by_cases hq:x=o
 ·subst hq
  rw [if_pos rfl,decide_eq_true rfl]
  have H2:Hid (∀ y:World,au [] w y→Calls Try.prog 108 #[.pointer (some ⟨b,i,none⟩),.int .i64 x,.int .i64 v] y fun e w'=>e=.returned (.bool true)∧w'=y.setCell ⟨b,i,none⟩ (.int .i64 v)):=fun y ht=>yg (ht.cell ((bW hb i).trans hx) ah) (mP (ht.heap hb ah) i)
  have HB:=fun A B=>sU (i:=i) (y:=v) hb A B
  clear hx
  go_enter Try.func107,Try.ntmps107
  go_wp2_with (first
   | (go_at_call 36;refine (H1 _).mono ?_;rintro e x1 ⟨rfl,rfl⟩)
   | (go_at_call 108;refine (H2.out _ lW).mono ?_;rintro e x1 ⟨rfl,rfl⟩))
  exact mR rfl rfl (sS _ _ _ _ _ _) ⟨rfl,HB _ _⟩
 ·rw [if_neg hq,decide_eq_false hq]
  have H2:Hid (∀ y:World,au [] w y→Calls Try.prog 108 #[.pointer (some ⟨b,i,none⟩),.int .i64 o,.int .i64 v] y fun e w'=>e=.returned (.bool false)∧w'=y):=fun y ht=>Gp (ht.cell ((bW hb i).trans hx) ah) (mP (ht.heap hb ah) i) hq
  have HB:=fun A B=>Ay hb hx A B
  clear hx hq
  go_enter Try.func107,Try.ntmps107
  go_wp2_with (first
   | (go_at_call 36;refine (H1 _).mono ?_;rintro e x1 ⟨rfl,rfl⟩)
   | (go_at_call 108;refine (H2.out _ lW).mono ?_;rintro e x1 ⟨rfl,rfl⟩))
  exact mR rfl rfl (heap_alloc2_new _ _ _) ⟨rfl,HB _ _⟩
end
theorem yK {P:Program}{c:Code}{Q:Exit→Act→World→Prop}{a:Act}{w:World}(h:c.wp P (Exit.then (fun a' w'=>(a'=a∧w'=w)∧0 < 0) Q) a w):(Code.loop c).wp P Q a w :=
 wp_loop (fun a' x=>a'=a∧x=w) (fun _ _=>0) ⟨rfl,rfl⟩ (by rintro _ _ ⟨rfl,rfl⟩;exact h)
section
variable {b i:Nat}{cs:Array Value}{x:Int}{w:World}
theorem Up {v:Int}(hb:w.heap[b]?=some (.cells cs 62 (0,0)))(hx:cs[i]?=some (.int .i64 x)):Calls Try.prog 111 #[.agg #[.int .i64 v],.pointer none,.pointer (some ⟨b,i,none⟩)] w fun e w'=>e=.returned (dJ false (max x v) 0)∧bM b i cs (max x v) w w':=by
 have H1:=mQ
 have hlt:=lt_of_heap hb
 have H2:Hid (∀ y:World,au [] w y→Calls Try.prog 18 #[.pointer (some ⟨b,i,none⟩)] y fun e w'=>e=.returned (.int .i64 x)∧w'=y):=fun y ht=>sQ (ht.cell ((bW hb i).trans hx) ah)
 have H3:Hid (∀ y:World,au [] w y→Calls Try.prog 108 #[.pointer (some ⟨b,i,none⟩),.int .i64 x,.int .i64 v] y fun e w'=>e=.returned (.bool true)∧w'=y.setCell ⟨b,i,none⟩ (.int .i64 v)):=fun y ht=>yg (ht.cell ((bW hb i).trans hx) ah) (mP (ht.heap hb ah) i)
 by_cases hq:v≤x
 ·have hm:max x v=x:=by omega
  have hg:decide (v≤x)=true:=decide_eq_true hq
  rw [hm]
  have HB:=fun A B=>Ay hb hx A B
  clear hx hm
  go_enter Try.func111,Try.ntmps111
  go_wp2
  refine yK ?_
  go_wp2_with (first
   | (go_at_call 36;refine (H1 _).mono ?_;rintro e x1 ⟨rfl,rfl⟩)
   | (go_at_call 18;refine (H2.out _ lW).mono ?_;rintro e x1 ⟨rfl,rfl⟩))
  exact mR rfl rfl (heap_alloc2_new _ _ _) ⟨rfl,HB _ _⟩
 ·have hm:max x v=v:=by omega
  have hg:decide (v≤x)=false:=decide_eq_false hq
  rw [hm]
  have HB:=fun A B=>sU (i:=i) (y:=v) hb A B
  clear hx hm
  go_enter Try.func111,Try.ntmps111
  go_wp2
  refine yK ?_
  go_wp2_with (first
   | (go_at_call 36;refine (H1 _).mono ?_;rintro e x1 ⟨rfl,rfl⟩)
   | (go_at_call 18;refine (H2.out _ lW).mono ?_;rintro e x1 ⟨rfl,rfl⟩)
   | (go_at_call 108;refine (H3.out _ lW).mono ?_;rintro e x1 ⟨rfl,rfl⟩))
  exact mR rfl rfl (sS _ _ _ _ _ _) ⟨rfl,HB _ _⟩
theorem Uq {v:Int}(hb:w.heap[b]?=some (.cells cs 62 (0,0)))(hx:cs[i]?=some (.int .i64 x)):Calls Try.prog 112 #[.agg #[.int .i64 v],.pointer none,.pointer (some ⟨b,i,none⟩)] w fun e w'=>e=.returned (dJ false (min x v) 0)∧bM b i cs (min x v) w w':=by
 have H1:=mQ
 have hlt:=lt_of_heap hb
 have H2:Hid (∀ y:World,au [] w y→Calls Try.prog 18 #[.pointer (some ⟨b,i,none⟩)] y fun e w'=>e=.returned (.int .i64 x)∧w'=y):=fun y ht=>sQ (ht.cell ((bW hb i).trans hx) ah)
 have H3:Hid (∀ y:World,au [] w y→Calls Try.prog 108 #[.pointer (some ⟨b,i,none⟩),.int .i64 x,.int .i64 v] y fun e w'=>e=.returned (.bool true)∧w'=y.setCell ⟨b,i,none⟩ (.int .i64 v)):=fun y ht=>yg (ht.cell ((bW hb i).trans hx) ah) (mP (ht.heap hb ah) i)
 by_cases hq:x≤v
 ·have hm:min x v=x:=by omega
  have hg:decide (x≤v)=true:=decide_eq_true hq
  rw [hm]
  have HB:=fun A B=>Ay hb hx A B
  clear hx hm
  go_enter Try.func112,Try.ntmps112
  go_wp2
  refine yK ?_
  go_wp2_with (first
   | (go_at_call 36;refine (H1 _).mono ?_;rintro e x1 ⟨rfl,rfl⟩)
   | (go_at_call 18;refine (H2.out _ lW).mono ?_;rintro e x1 ⟨rfl,rfl⟩))
  exact mR rfl rfl (heap_alloc2_new _ _ _) ⟨rfl,HB _ _⟩
 ·have hm:min x v=v:=by omega
  have hg:decide (x≤v)=false:=decide_eq_false hq
  rw [hm]
  have HB:=fun A B=>sU (i:=i) (y:=v) hb A B
  clear hx hm
  go_enter Try.func112,Try.ntmps112
  go_wp2
  refine yK ?_
  go_wp2_with (first
   | (go_at_call 36;refine (H1 _).mono ?_;rintro e x1 ⟨rfl,rfl⟩)
   | (go_at_call 18;refine (H2.out _ lW).mono ?_;rintro e x1 ⟨rfl,rfl⟩)
   | (go_at_call 108;refine (H3.out _ lW).mono ?_;rintro e x1 ⟨rfl,rfl⟩))
  exact mR rfl rfl (sS _ _ _ _ _ _) ⟨rfl,HB _ _⟩
end
def pQ (l:List Bool):Nat:=l.countP (fun b=>!b)
theorem IC:∀ (l:List Bool)(i:Nat),l[i]?=some false→pQ (l.set i true)+1=pQ l
 | [],i,h=>by simp at h
 | b :: l,0,h=>by simp at h;subst h;simp [pQ]
 | b :: l,i+1,h=>by
  have:=IC l i (by simpa using h)
  simp only [pQ,List.set_cons_succ,List.countP_cons] at this ⊢
  omega
theorem Ur {l:List Bool}(h:pQ l=0)(i:Nat)(b:Bool)(hb:l[i]?=some b):b=true:=by
 have h0:=List.countP_eq_zero.1 h b (List.mem_of_getElem? hb)
 simpa using h0
section
variable {P:Program}{ops:Array Oper}{Q:Exit→Act→World→Prop}
theorem Us (hac:∀ i o,ops[i]?=some o→∀ e∈o.after,Region.binds .any e=true→e.on < i){l:Array Bool}(hs:l.size=ops.size)(hr:Region.ready .any ops l=[]):∀ i,i < ops.size→l.getD i true=true:=by
 intro i
 induction i using Nat.strongRecOn with
 | _ i ih =>
  intro hi
  cases hl:l.getD i true with
  | true=>rfl
  | false =>
   exfalso
   have hm:i∈Region.ready .any ops l:=by
    refine mem_ready.2 ⟨hl,ops[i],Array.getElem?_eq_getElem hi,fun e he hb=>?_⟩
    have hlt:=hac i _ (Array.getElem?_eq_getElem hi) e he hb
    have:=ih e.on hlt ag
    simp [Array.getD,(by omega:e.on < l.size)] at this ⊢
    exact this
   rw [hr] at hm
   cases hm
theorem Ut (hac:∀ i o,ops[i]?=some o→∀ e∈o.after,Region.binds .any e=true→e.on < i)(I:Array Bool→Act→World→Prop)(hsz:∀ l a w,I l a w→l.size=ops.size)
  (hstep:∀ l a w,I l a w→∀ i∈Region.ready .any ops l,wpOp P ops Q i (fun a' w'=>I (l.setIfInBounds i true) a' w') a w)(hend:∀ l a w,I l a w→(∀ i,i < ops.size→l.getD i true=true)→Q .normal a w) :
  ∀ fuel l a w,I l a w→pQ l.toList≤fuel→wpAny P .any ops Q fuel l a w:=by
 intro fuel
 induction fuel with
 | zero =>
  intro l a w hI hc
  have hall:∀ i,i < ops.size→l.getD i true=true:=fun i hi=>by
   have hlt:i < l.size:=by rw [hsz l a w hI];exact hi
   have:=Ur (l:=l.toList) ag i l[i] (by simp [hlt])
   simp [Array.getD,hlt,this]
  refine ⟨?_,hend l a w hI hall⟩
  rw [List.eq_nil_iff_forall_not_mem]
  intro i hi
  obtain ⟨h1,o,ho,-⟩:=mem_ready.1 hi
  rw [hall i (Array.getElem?_eq_some_iff.1 ho).1] at h1
  cases h1
 | succ fuel ih =>
  intro l a w hI hc
  refine ⟨fun hr=>hend l a w hI (Us hac (hsz l a w hI) hr),fun i hi=>?_⟩
  refine wpOp_mono (fun a' w' h'=>ih _ a' w' h' ?_) (hstep l a w hI i hi)
  obtain ⟨h1,o,ho,-⟩:=mem_ready.1 hi
  have hlt:i < l.size:=by rw [hsz l a w hI];exact (Array.getElem?_eq_some_iff.1 ho).1
  have:=IC l.toList i (by simp [Array.getD,hlt] at h1;simp [hlt,h1])
  rw [Array.toList_setIfInBounds]
  omega
theorem Uu {id:Nat}{a:Act}{w:World}(hm:P.follows .mixedOrders=true)(hac:∀ i o,ops[i]?=some o→∀ e∈o.after,Region.binds .any e=true→e.on < i)(I:Array Bool→Act→World→Prop)(hsz:∀ l a w,I l a w→l.size=ops.size)
  (h0:I (Array.replicate ops.size false) a w.drew)(hstep:∀ l a w,I l a w→∀ i∈Region.ready .any ops l,wpOp P ops Q i (fun a' w'=>I (l.setIfInBounds i true) a' w') a w)(hend:∀ l a w,I l a w→(∀ i,i < ops.size→l.getD i true=true)→Q .normal a w) :
  (Code.region id ops true).wp P Q a w:=by
 refine wp_region_any hm (Ut hac I hsz hstep hend ops.size _ _ _ h0 ?_)
 have:∀ n,pQ (List.replicate n false)≤n:=fun n=>by
  have:=List.countP_le_length (p:=fun b=>!b) (l:=List.replicate n false)
  simpa [pQ] using this
 simpa using this ops.size
theorem yL {l:Array Bool}{i j:Nat}(hi:i∈Region.ready .any ops l)(hd:(ops[i]?).map (fun o=>o.after.any fun e=>Region.binds .any e && e.on == j)=some true):l.getD j false=true:=by
 obtain ⟨h1,o,ho,hall⟩:=mem_ready.1 hi
 rw [ho] at hd
 simp only [Option.map_some,Option.some.injEq,Array.any_eq_true,Bool.and_eq_true,beq_iff_eq] at hd
 obtain ⟨n,hn,hb,he⟩:=hd
 rw [← he]
 exact hall _ (Array.getElem_mem hn) hb
end
def pR (id:Nat):Code→Option (Array Oper)
 | .region i ops _=>if i=id then some ops else none
 | .seq a b=>match pR id a with
  | some o=>some o
  | none=>pR id b
 | .cond _ a b=>match pR id a with
  | some o=>some o
  | none=>pR id b
 | .block _ c=>pR id c
 | .scope c=>pR id c
 | .loop c=>pR id c
 | _=>none
def aL (id:Nat)(b:Option Code):Array Oper:=(b.bind (pR id)).getD #[]
def dX (l:Array Bool)(i:Nat):Bool:=l.getD i false
theorem Uv {l:Array Bool}(i j:Nat)(hi:i < l.size):dX (l.setIfInBounds i true) j=if i=j then true else dX l j:=by
 unfold dX
 by_cases h:i=j
 ·subst h;simp [Array.getD,hi]
 ·rw [if_neg h];simp [Array.getD_eq_getD_getElem?,h]
theorem Uw {a:Act}(d s:Nat)(v:Value)(hd:d < a.tmps.size):(a.put (some d) v).eval (.tmp s)=if d=s then v else a.eval (.tmp s):=by
 by_cases h:d=s
 ·subst h;simp [Act.put,Act.eval,Array.getD,hd]
 ·rw [if_neg h];simp [Act.put,Act.eval,Array.getD_eq_getD_getElem?,h]
section
variable {P:Program}{ops:Array Oper}{Q:Exit→Act→World→Prop}
def jZ (ops:Array Oper)(i j:Nat):Bool:=((ops[i]?).map (fun o:Oper=>o.after.any fun e=>Region.binds .any e && e.on == j)).getD false
theorem yM {i j:Nat}(h:jZ ops i j=true):(ops[i]?).map (fun o:Oper=>o.after.any fun e=>Region.binds .any e && e.on == j)=some true:=by
 unfold jZ at h
 cases ho:ops[i]? with
 | none=>rw [ho] at h;cases h
 | some o=>rw [ho] at h;exact congrArg some h
def yN (ops:Array Oper)(D:List (Option Nat))(n:Nat):Bool :=
 ops.size == D.length && (List.range ops.size).all (fun i=>match ops[i]? with
  | none=>false
  | some o=>o.dst == D.getD i none && o.after.all (fun e=>!Region.binds .any e || decide (e.on < i)) && (match D.getD i none with | none=>true | some d=>decide (d < n)) &&
    (List.range D.length).all (fun j=>i == j || D.getD j none == none || D.getD i none != D.getD j none) &&
    (match o.guard with | none=>true | some (g,_)=>o.after.any (fun e=>Region.binds .any e && e.on == g) && (D.getD g none).isSome && decide (g < D.length)))
theorem yO {ops:Array Oper}{D:List (Option Nat)}{n:Nat}(h:yN ops D n=true){i:Nat}{o:Oper}(ho:ops[i]?=some o) :
  i < D.length∧o.dst=D.getD i none∧(∀ e∈o.after,Region.binds .any e=true→e.on < i)∧(∀ d,D.getD i none=some d→d < n)∧(∀ j d,j < D.length→D.getD i none=some d→D.getD j none=some d→i=j) ∧
  (∀ g b,o.guard=some (g,b)→g < D.length∧jZ ops i g=true∧(D.getD g none).isSome=true):=by
 unfold yN at h
 simp only [Bool.and_eq_true,beq_iff_eq] at h
 obtain ⟨h1,h2⟩:=h
 have hi:i < ops.size:=(Array.getElem?_eq_some_iff.1 ho).1
 have h3:=List.all_eq_true.1 h2 i (List.mem_range.2 hi)
 rw [ho] at h3
 simp only [Bool.and_eq_true,beq_iff_eq] at h3
 obtain ⟨⟨⟨⟨hd,ha⟩,hn⟩,hj⟩,hg⟩:=h3
 refine ⟨ag,hd,fun e he hb=>?_,fun d hD=>?_,fun j d hjl hD hE=>?_,fun g b hgd=>?_⟩
 ·have:=Array.all_eq_true_iff_forall_mem.1 ha e he
  rw [hb] at this
  simpa using this
 ·rw [hD] at hn;simpa using hn
 ·have:=List.all_eq_true.1 hj j (List.mem_range.2 hjl)
  simp only [Bool.or_eq_true,beq_iff_eq,bne_iff_ne,ne_eq] at this
  rcases this with (e | e) | e
  ·exact e
  ·rw [hE] at e;cases e
  ·exact absurd (hD.trans hE.symm) e
 ·rw [hgd] at hg
  simp only [Bool.and_eq_true,decide_eq_true_eq] at hg
  refine ⟨hg.2,?_,hg.1.2⟩
  unfold jZ
  rw [ho]
  exact hg.1.1
theorem j6 {i:Nat}{o:Oper}{p:Op}(h:(ops[i]?).map (fun o:Oper=>o.op)=some p)(ho:ops[i]?=some o):o.op=p:=by rw [ho] at h;simpa using h
theorem Ux (h:ops.all (fun o=>o.guard.isNone)=true){i g:Nat}{b:Bool}(hh:(ops[i]?).bind (fun o:Oper=>o.guard)=some (g,b)):False:=by
 cases ho:ops[i]? with
 | none=>rw [ho] at hh;cases hh
 | some o =>
  rw [ho] at hh
  have:=Array.all_eq_true_iff_forall_mem.1 h o (Array.mem_of_getElem? ho)
  simp only [Option.bind_some] at hh
  rw [hh] at this
  cases this
section
variable {ρ:Operand→Value}{o:Oper}{w:World}
theorem wD {x:Operand}(h:o.op=.move x):(execOp ρ o).run P w=.ok (.value (ρ x)) w:=by simp [execOp,h]
theorem Uy {x:Operand}{a:Addr}(h:o.op=.nilCheck x)(hx:ρ x=.pointer (some a)):(execOp ρ o).run P w=.ok (.value (.pointer (some a))) w:=by simp [execOp,h,hx]
theorem Uz {x:Operand}{t:TypeId}{v:Value}{w':World}(h:o.op=.load t x)(hr:(Instr.loadAt t (ρ x)).run P w=.ok v w'):(execOp ρ o).run P w=.ok (.value v) w':=by simp [execOp,h,hr,Result.andThen]
theorem UA {x y:Operand}{t:TypeId}{w':World}(h:o.op=.store t x y)(hr:(Instr.storeAt t (ρ x) (ρ y)).run P w=.ok () w'):(execOp ρ o).run P w=.ok .skip w':=by simp [execOp,h,hr,Result.andThen]
end
end
section
variable {P:Program}{o:Oper}{a:Act}{w w':World}{K:Act→World→Prop}{Q:Exit→Act→World→Prop}{d:Option Nat}
theorem lZ {v:Value}(hd:o.dst=d)(hr:(execOp a.eval o).run P w=.ok (.value v) w')(hK:K (a.put d v) w'):o.wp P a w K Q:=by
 unfold Oper.wp;rw [hr];simp only [Oper.upon,hd];exact hK
theorem l_skip (hd:o.dst=d)(hr:(execOp a.eval o).run P w=.ok .skip w')(hK:K (a.put d undef) w'):o.wp P a w K Q:=by
 unfold Oper.wp;rw [hr];simp only [Oper.upon,hd];exact hK
end
def nu (ops:Array Oper):Nat→Nat→Nat→Bool
 | 0,_,_=>false
 | f+1,i,j=>jZ ops i j || (List.range ops.size).any fun k=>jZ ops i k && nu ops f k j
section
variable {P:Program}{ops:Array Oper}{Q:Exit→Act→World→Prop}
theorem BJ {l:Array Bool}(hc:∀ i j,dX l i=true→jZ ops i j=true→dX l j=true):∀ f i j,dX l i=true→nu ops f i j=true→dX l j=true
 | 0,_,_,_,h=>by cases h
 | f+1,i,j,hi,h=>by
  unfold nu at h
  rw [Bool.or_eq_true,List.any_eq_true] at h
  rcases h with h | ⟨k,-,h⟩
  ·exact hc i j hi h
  ·rw [Bool.and_eq_true] at h
   exact BJ hc f k j (hc i k hi h.1) h.2
theorem UB {l:Array Bool}{i j:Nat}(hi:i∈Region.ready .any ops l)(hr:nu ops ops.size i j=true)(hc:∀ i j,dX l i=true→jZ ops i j=true→dX l j=true):dX l j=true:=by
 cases hz:ops.size with
 | zero=>rw [hz] at hr;cases hr
 | succ f =>
  rw [hz] at hr
  unfold nu at hr
  rw [Bool.or_eq_true,List.any_eq_true] at hr
  rcases hr with h | ⟨k,-,h⟩
  ·exact yL hi (yM h)
  ·rw [Bool.and_eq_true] at h
   exact BJ hc f k j (yL hi (yM h.1)) h.2
end
section
variable {P:Program}{ops:Array Oper}{Q:Exit→Act→World→Prop}
def ID (ops:Array Oper)(As:List Nat)(n:Nat):Bool:=As.all (fun x=>decide (x < n)) && (List.range (As.length - 1)).all (fun j=>nu ops ops.size (As.getD (j+1) 0) (As.getD j 0))
end
section
variable {P:Program}{ρ:Operand→Value}{o:Oper}{w w':World}{v:Value}
theorem UC {t:TypeId}{x:Operand}{k:Nat}(h:o.op=.fieldAddr t x k)(hr:(Instr.fieldAt t (ρ x) k).run P w=.ok v w'):(execOp ρ o).run P w=.ok (.value v) w':=by simp [execOp,h,hr,Result.andThen]
theorem UD {t:TypeId}{x y:Operand}(h:o.op=.indexAddr t x y)(hr:(Instr.indexAt t (ρ x) (ρ y)).run P w=.ok v w'):(execOp ρ o).run P w=.ok (.value v) w':=by simp [execOp,h,hr,Result.andThen]
end
theorem UE {a a':Act}{s:Nat}(h:a'.tmps[s]?=a.tmps[s]?):a'.eval (.tmp s)=a.eval (.tmp s):=by
 simp only [Act.eval,Array.getD_eq_getD_getElem?,h]
section
variable {P:Program}{ops:Array Oper}{Q:Exit→Act→World→Prop}
def tX (R:Nat→Nat→Bool)(As:List Nat)(W:Nat→World→Prop)(i:Nat)(w:World)(M:World→Prop):Prop :=
 (∃ j,As[j]?=some i∧W j w∧M=W (j+1))∨(i∉As∧(M=fun w'=>w'=w)∧∃ j,j≤As.length∧W j w∧∀ q x,As[q]?=some x→R x i=true→j≤q)
def UF (P:Program)(ops:Array Oper)(D:List (Option Nat))(val:Nat→Value)(a0:Act)(R:Nat→Nat→Bool)(As:List Nat)(W:Nat→World→Prop)(Q:Exit→Act→World→Prop)(i:Nat):Prop :=
 ∀ (o:Oper) (a:Act) (w:World) (M:World→Prop) (K:Act→World→Prop),ops[i]?=some o→o.dst=D.getD i none→a.tmps.size=a0.tmps.size→(∀ s,some s∉D→a.eval (.tmp s)=a0.eval (.tmp s))→(∀ j d,D.getD j none=some d→jZ ops i j=true→a.eval (.tmp d)=val j)→(∀ j d,D.getD j none=some d→jZ ops j i=true→a.eval (.tmp d)=a0.eval (.tmp d))→tX R As W i w M→(∀ w',M w'→K (a.put (D.getD i none) (val i)) w')→o.wp P a w K Q
structure IE (ops:Array Oper)(D:List (Option Nat))(val:Nat→Value)(a0:Act)(As:List Nat)(W:Nat→World→Prop)(l:Array Bool)(a:Act)(w:World):Prop where
 size:l.size=D.length
 fV:a.tmps.size=a0.tmps.size
 defers:a.defers=a0.defers
 off:∀ s,some s∉D→a.tmps[s]?=a0.tmps[s]?
 val:∀ i d,D.getD i none=some d→dX l i=true→a.eval (.tmp d)=val i
 pend:∀ i d,D.getD i none=some d→dX l i=false→a.tmps[d]?=a0.tmps[d]?
 closed:∀ i j,dX l i=true→jZ ops i j=true→dX l j=true
 w:∃ c,c≤As.length∧(∀ j x,As[j]?=some x→(dX l x=true↔j < c))∧W c w
theorem UG {id:Nat}{a0:Act}{w:World}(hm:P.follows .mixedOrders=true)(D:List (Option Nat))(val:Nat→Value)(hok:yN ops D a0.tmps.size=true)(As:List Nat)(W:Nat→World→Prop)(h0:W 0 w.drew)(hnd:As.Nodup)(hch:ID ops As D.length=true)
  (hg:∀ (i g:Nat)(b:Bool),(ops[i]?).bind (fun o:Oper=>o.guard)=some (g,b)→∃ b',val g=.bool b'∧(b'≠b→val i=undef∧i∉As))
  (hstep:∀ i,i < D.length→(∀ (g:Nat)(b:Bool),(ops[i]?).bind (fun o:Oper=>o.guard)=some (g,b)→val g=.bool b)→UF P ops D val a0 (nu ops ops.size) As W Q i)
  (hend:∀ a',a'.tmps.size=a0.tmps.size→a'.defers=a0.defers→(∀ s,some s∉D→a'.tmps[s]?=a0.tmps[s]?)→(∀ i d,D.getD i none=some d→a'.eval (.tmp d)=val i)→∀ w',W As.length w'→Q .normal a' w') :
  (Code.region id ops true).wp P Q a0 w:=by
 have hn:ops.size=D.length:=by
  unfold yN at hok
  simp only [Bool.and_eq_true,beq_iff_eq] at hok
  exact hok.1
 unfold ID at hch
 rw [Bool.and_eq_true,List.all_eq_true,List.all_eq_true] at hch
 obtain ⟨UH,hAr⟩:=hch
 have alt:∀ {j x:Nat},As[j]?=some x→x < D.length:=fun {j x} hj=>by simpa using UH x (List.mem_of_getElem? hj)
 have reach:∀ {j x y:Nat},As[j]?=some x→As[j+1]?=some y→nu ops ops.size y x=true:=fun {j x y} h1 h2=>by
  have hl:=(List.getElem?_eq_some_iff.1 h2).1
  have:=hAr j (List.mem_range.2 ag)
  rw [List.getD_eq_getElem?_getD,List.getD_eq_getElem?_getD,h1,h2] at this
  exact this
 have inj:∀ {j k x:Nat},As[j]?=some x→As[k]?=some x→j=k:=fun {j k x} h1 h2=>by
  obtain ⟨l1,e1⟩:=List.getElem?_eq_some_iff.1 h1
  obtain ⟨l2,e2⟩:=List.getElem?_eq_some_iff.1 h2
  have hp:=List.pairwise_iff_getElem.1 hnd
  rcases Nat.lt_trichotomy j k with h | h | h
  ·exact absurd (e1.trans e2.symm) (hp j k l1 l2 h)
  ·exact h
  ·exact absurd (e2.trans e1.symm) (hp k j l2 l1 h)
 have mem:∀ s i,D.getD i none=some s→some s∈D:=fun s i e=>by
  have hi:i < D.length:=by
   apply Classical.byContradiction
   intro h
   rw [List.getD_eq_getElem?_getD,List.getElem?_eq_none ag] at e
   cases e
  rw [List.getD_eq_getElem?_getD,List.getElem?_eq_getElem hi] at e
  have:=List.getElem_mem hi
  rw [show D[i]=some s from e] at this
  exact this
 have lt:∀ i d,D.getD i none=some d→i < D.length:=fun i d e=>by
  apply Classical.byContradiction
  intro h
  rw [List.getD_eq_getElem?_getD,List.getElem?_eq_none ag] at e
  cases e
 have hoff:∀ i,dX (Array.replicate ops.size false) i=false:=fun i=>by
  simp only [dX,Array.getD_eq_getD_getElem?,Array.getElem?_replicate]
  split <;> rfl
 refine Uu hm (fun i o ho=>(yO hok ho).2.2.1) (IE ops D val a0 As W) (fun l a w h=>by rw [hn];exact h.size) ?_ ?_ ?_
 ·exact ⟨by simp [hn],rfl,rfl,fun _ _=>rfl,fun i d _ hh=>(by rw [hoff] at hh;cases hh),fun _ _ _ _=>rfl,fun i j hh=>(by rw [hoff] at hh;cases hh),0,Nat.zero_le _,fun j x _=>by rw [hoff];simp,h0⟩
 ·intro l a w' h i hi
  obtain ⟨hu,o,ho,hall⟩:=mem_ready.1 hi
  obtain ⟨r1,r2,r3,r4,r5,r6⟩:=yO hok ho
  have hoi:dX l i=false:=by simp only [dX];simp [Array.getD,h.size,r1] at hu ⊢;exact hu
  have hset:∀ j,dX (l.setIfInBounds i true) j=if i=j then true else dX l j:=fun j=>Uv i j (by rw [h.size];exact r1)
  have az:∀ j d,D.getD j none=some d→jZ ops i j=true→a.eval (.tmp d)=val j:=fun j d hjd hh=>h.val j d hjd (yL hi (yM hh))
  have hpre:∀ j d,D.getD j none=some d→jZ ops j i=true→a.eval (.tmp d)=a0.eval (.tmp d):=fun j d hjd hh=>by
   have:dX l j=false:=by
    cases hj:dX l j with
    | false=>rfl
    | true=>rw [h.closed j i hj hh] at hoi;cases hoi
   simp only [Act.eval,Array.getD_eq_getD_getElem?,h.pend j d hjd this]
  obtain ⟨c,hc1,hc2,hc3⟩:=h.w
  have keeps:∀ w'':World,(∃ c',c'≤As.length∧(∀ j x,As[j]?=some x→(dX (l.setIfInBounds i true) x=true↔j < c'))∧W c' w'')→IE ops D val a0 As W (l.setIfInBounds i true) (a.put (D.getD i none) (val i)) w'':=fun w'' hw=>by
   have UI:(a.put (D.getD i none) (val i)).tmps.size=a0.tmps.size:=by
    cases hD:D.getD i none <;> simp [Act.put,h.fV]
   have UJ:(a.put (D.getD i none) (val i)).defers=a0.defers:=by
    cases hD:D.getD i none <;> simp [Act.put,h.defers]
   refine ⟨by simp [h.size],UI,UJ,fun s hs=>?_,fun j d hjd hh=>?_,fun j d hjd hh=>?_,fun x y hx hy=>?_,hw⟩
   ·cases hD:D.getD i none with
    | none=>exact h.off s hs
    | some d =>
     have:d≠s:=fun e=>hs (mem s i (by rw [hD,e]))
     simp only [Act.put,Array.getElem?_setIfInBounds,this,if_false]
     exact h.off s hs
   ·rw [hset] at hh
    cases hD:D.getD i none with
    | none =>
     have hne:i≠j:=fun e=>by subst e;rw [hD] at hjd;cases hjd
     rw [if_neg hne] at hh
     exact h.val j d hjd hh
    | some d' =>
     rw [Uw _ _ _ (by rw [h.fV];exact r4 d' hD)]
     by_cases e:i=j
     ·subst e
      rw [hD] at hjd
      cases hjd
      simp
     ·rw [if_neg e] at hh
      rw [if_neg (fun e2=>e (r5 j d (lt j d hjd) (by rw [hD,e2]) hjd))]
      exact h.val j d hjd hh
   ·rw [hset] at hh
    by_cases e:i=j
    ·rw [if_pos e] at hh
     cases hh
    ·rw [if_neg e] at hh
     cases hD:D.getD i none with
     | none=>exact h.pend j d hjd hh
     | some d' =>
      have hdd:d'≠d:=fun e2=>e (r5 j d (lt j d hjd) (by rw [hD,e2]) hjd)
      simp only [Act.put,Array.getElem?_setIfInBounds,hdd,if_false]
      exact h.pend j d hjd hh
   ·rw [hset] at hx ⊢
    by_cases e2:i=y
    ·rw [if_pos e2]
    ·rw [if_neg e2]
     by_cases e1:i=x
     ·subst e1
      exact yL hi (yM hy)
     ·rw [if_neg e1] at hx
      exact h.closed x y hx hy
  have UK:∃ M:World→Prop,tX (nu ops ops.size) As W i w' M∧(∀ w'',M w''→∃ c',c'≤As.length∧(∀ j x,As[j]?=some x→(dX (l.setIfInBounds i true) x=true↔j < c'))∧W c' w'')∧(i∉As→M w'):=by
   by_cases hmem:i∈As
   ·obtain ⟨j,hj⟩:=List.getElem?_of_mem hmem
    have hjl:=(List.getElem?_eq_some_iff.1 hj).1
    have hge:c≤j:=Nat.le_of_not_lt fun hlt=>by
     have:=(hc2 j i hj).2 hlt
     rw [hoi] at this
     cases this
    have hle:j≤c:=by
     cases j with
     | zero=>exact Nat.zero_le _
     | succ k =>
      obtain ⟨x,hx⟩:∃ x,As[k]?=some x:=⟨As[k]'(by omega),List.getElem?_eq_getElem ag⟩
      have:=(hc2 k x hx).1 (UB hi (reach hx hj) h.closed)
      omega
    obtain rfl:c=j:=by omega
    refine ⟨W (c+1),.inl ⟨c,hj,hc3,rfl⟩,fun w'' hw''=>⟨c+1,ag,fun k x hk=>?_,hw''⟩,fun hno=>absurd hmem hno⟩
    rw [hset]
    by_cases e:i=x
    ·subst e
     have:=inj hj hk
     simp [this]
    ·rw [if_neg e,hc2 k x hk]
     have:k≠c:=fun ek=>e (by rw [ek] at hk;rw [hj] at hk;exact Option.some.inj hk)
     omega
   ·have hup:∀ q x,As[q]?=some x→nu ops ops.size x i=true→c≤q:=fun q x hq hr=>Nat.le_of_not_lt fun hl=>by
     have:=BJ h.closed ops.size x i ((hc2 q x hq).2 hl) hr
     rw [hoi] at this
     cases this
    refine ⟨fun w''=>w''=w',.inr ⟨hmem,rfl,c,hc1,hc3,hup⟩,fun w'' hw''=>⟨c,hc1,fun k x hk=>?_,by rw [hw''];exact hc3⟩,fun _=>rfl⟩
    rw [hset,if_neg (fun e=>hmem (by rw [e];exact List.mem_of_getElem? hk))]
    exact hc2 k x hk
  obtain ⟨M,UL,hM,hsame⟩:=UK
  have IG:∀ (g:Nat) (b b':Bool),o.guard=some (g,b)→val g=.bool b'→yielded ops a.tmps g=some b':=fun g b b' hgd h2=>by
   obtain ⟨h1,h3,h4⟩:=r6 g b hgd
   obtain ⟨d,BK⟩:=Option.isSome_iff_exists.1 h4
   have hv:=az g d BK h3
   rw [h2] at hv
   have hgo:∃ og,ops[g]?=some og:=⟨ops[g]'(by omega),Array.getElem?_eq_getElem ag⟩
   obtain ⟨og,hog⟩:=hgo
   unfold yielded
   rw [hog]
   simp only [Option.bind_some,(yO hok hog).2.1,BK]
   have hlt:d < a.tmps.size:=by rw [h.fV];exact (yO hok hog).2.2.2.1 d BK
   simp only [Act.eval,Array.getD,hlt,dite_true] at hv
   rw [Array.getElem?_eq_getElem hlt]
   have:a.tmps[d]=.bool b':=hv
   rw [this]
  unfold wpOp
  simp only [ho]
  by_cases hwant:Region.wanted o (yielded ops a.tmps)=true
  ·rw [if_pos hwant]
   refine .inl (hstep i r1 (fun g b hgb=>?_) o a w' M _ ho r2 h.fV (fun s hs=>?_) az hpre UL (fun w'' hw''=>keeps w'' (hM w'' hw'')))
   ·obtain ⟨b',h1,h2⟩:=hg i g b hgb
    rw [ho] at hgb
    have hgd:o.guard=some (g,b):=hgb
    have hy:=IG g b b' hgd h1
    simp [Region.wanted,hgd,hy] at hwant
    rw [h1,hwant]
   ·simp only [Act.eval,Array.getD_eq_getD_getElem?,h.off s hs]
  ·rw [if_neg hwant,r2]
   cases hgd:o.guard with
   | none=>exact absurd (by simp [Region.wanted,hgd]) hwant
   | some gb =>
    obtain ⟨g,b⟩:=gb
    obtain ⟨b',h1,h2⟩:=hg i g b (by rw [ho];exact hgd)
    have hy:=IG g b b' hgd h1
    have hne:b'≠b:=fun e=>hwant (by simp [Region.wanted,hgd,hy,e])
    have hs:=hsame (h2 hne).2
    rw [← (h2 hne).1]
    exact keeps w' (hM w' hs)
 ·intro l a w' h hall
  have hal:∀ i,i < D.length→dX l i=true:=fun i hi=>by
   have:=hall i (by rw [hn];exact hi)
   simp only [dX,Array.getD,h.size,hi,dite_true] at this ⊢
   exact this
  obtain ⟨c,hc1,hc2,hc3⟩:=h.w
  have hcm:c=As.length:=by
   apply Classical.byContradiction
   intro hne
   have hlt:c < As.length:=by omega
   have hx:As[c]?=some As[c]:=List.getElem?_eq_getElem hlt
   have:=(hc2 c _ hx).1 (hal _ (alt hx))
   omega
  rw [hcm] at hc3
  exact hend a h.fV h.defers h.off (fun i d hD=>h.val i d hD (hal i (lt i d hD))) w' hc3
end
theorem tX.at_ {R:Nat→Nat→Bool}{As:List Nat}{W:Nat→World→Prop}{i j:Nat}{w:World}{M:World→Prop}(h:tX R As W i w M)(hnd:As.Nodup)(hj:As[j]?=some i):W j w∧M=W (j+1):=by
 rcases h with ⟨k,h1,h2,h3⟩ | ⟨h1,-⟩
 ·have:k=j:=by
   obtain ⟨l1,e1⟩:=List.getElem?_eq_some_iff.1 h1
   obtain ⟨l2,e2⟩:=List.getElem?_eq_some_iff.1 hj
   have hp:=List.pairwise_iff_getElem.1 hnd
   rcases Nat.lt_trichotomy k j with h | h | h
   ·exact absurd (e1.trans e2.symm) (hp k j l1 l2 h)
   ·exact h
   ·exact absurd (e2.trans e1.symm) (hp j k l2 l1 h)
  subst this
  exact ⟨h2,h3⟩
 ·exact absurd (List.mem_of_getElem? hj) h1
theorem tX.off {R:Nat→Nat→Bool}{As:List Nat}{W:Nat→World→Prop}{i:Nat}{w:World}{M:World→Prop}(h:tX R As W i w M)(hi:i∉As):M w∧∃ j,j≤As.length∧W j w∧∀ q x,As[q]?=some x→R x i=true→j≤q:=by
 rcases h with ⟨k,h1,-⟩ | ⟨-,h2,h3⟩
 ·exact absurd (List.mem_of_getElem? h1) hi
 ·exact ⟨by rw [h2],h3⟩
end Go.Proofs.Ytanploaffndpjaa

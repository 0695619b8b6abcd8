/- Of the proof. -/
import Derived.Test.YtanploaffndpjaaJ16
set_option maxRecDepth 100000
set_option linter.unusedSimpArgs false
set_option linter.unusedVariables false
namespace Go.Blind
open Go.Conc Go.RowKit
section
variable {P:Program}{main:Bool}{fn:FuncId}{kd:CallKind}{Q:aZ}{S:ai}{M:Nat→Prop}{a:Act}{w:World}{ops:Array Oper}{i:Nat}{d:Option Tmp}{rest:List Nat}{l r:List (Nat×Obj)}
theorem kX (hkd:kd≠.early){t:TypeId}(hi:aV ops i d (.alloc t)){z:Value}(hiz:(P.info? t).bind (·.zero)=some z)(hm:Mm P M w l r)(h:∀ b w1,Mm P (plus M b) w1 (l ++ [(b,.cells z.cells t (0,0))]) r→aG P main fn kd ops rest Q S (plus M b) (a.put d (.pointer (some ⟨b,0,none⟩))) w1):aG P main fn kd ops (i :: rest) Q S M a w:=by
 obtain ⟨o,ho,rfl,hop,hw⟩:=hi.at a
 exact dx (qH hkd ho hw hop hiz hm h)
theorem lX (hkd:kd≠.early){t:TypeId}{x y:Operand}(hi:aV ops i d (.store t x y)){n b:Nat}(hx:a.eval x=.pointer (some ⟨b,0,none⟩)){vs:List Value}(hy:a.eval y=.agg vs.toArray){c:Array Value}{e:TypeId}(hm:Mm P M w l r)(hb:l[n]?=some (b,.cells c e (0,0)))(hlen:vs.length=c.size)(hz:(P.info? t).map (·.size)=some vs.length)(h1:∀ v∈vs,v.oneCell'=true)
  (h:∀ w1,Mm P M w1 (l.set n (b,.cells vs.toArray e (0,0))) r→aG P main fn kd ops rest Q S M (a.put d undef) w1):aG P main fn kd ops (i :: rest) Q S M a w:=by
 obtain ⟨o,ho,rfl,hop,hw⟩:=hi.at a
 exact dx (qG hkd ho hw hop hx hy hm hb hlen hz h1 h)
theorem vW (hkd:kd≠.early){t:TypeId}{x:Operand}(hi:aV ops i d (.load t x)){n b off:Nat}(hx:a.eval x=.pointer (some ⟨b,off,none⟩)){c:Array Value}{e:TypeId}{fz:Nat×Nat}(hm:Mm P M w l r)(hb:(l ++ r)[n]?=some (b,.cells c e fz)){vs:List Value}(hv:∀ j v,vs[j]?=some v→c[off+j]?=some v)(hud:(P.underlying t).map TypeDesc.isRow=some true)(hz:(P.info? t).map (·.size)=some vs.length)
  (h:∀ w1,Mm P M w1 l r→aG P main fn kd ops rest Q S M (a.put d (.agg vs.toArray)) w1):aG P main fn kd ops (i :: rest) Q S M a w:=by
 obtain ⟨o,ho,rfl,hop,hw⟩:=hi.at a
 exact dx (pq hkd ho hw hop hx hm hb hv hud hz h)
theorem Rk {α:Type}{A N B Z:List α}{x5 x4:α}:(((x5 :: x4 :: (A ++ N)) ++ B) ++ Z).Perm (x5 :: (A ++ (x4 :: (N ++ (B ++ Z))))):=by
 classical
 exact List.perm_iff_count.2 fun a=>by
  simp only [List.count_append,List.count_cons,List.count_nil]
  omega
theorem Rl {α:Type}{A N E B Z:List α}{x5 x4 xs:α}:(x5 :: (A ++ ((x4 :: ((N ++ E) ++ (B ++ Z))) ++ [xs]))).Perm (((x5 :: x4 :: (A ++ ((xs :: N) ++ E))) ++ B) ++ Z):=by
 classical
 exact List.perm_iff_count.2 fun a=>by
  simp only [List.count_append,List.count_cons,List.count_nil]
  omega
theorem Rm {α:Type}{A N E B Z:List α}{x5 x4:α}:(((x5 :: x4 :: (A ++ (N ++ E))) ++ B) ++ Z).Perm (((A ++ ((x5 :: x4 :: N) ++ E)) ++ B) ++ Z):=by
 classical
 exact List.perm_iff_count.2 fun a=>by
  simp only [List.count_append,List.count_cons,List.count_nil]
  omega
end
end Go.Blind
namespace Go.Proofs.Ytanploaffndpjaa
open Go Go.Blind Go.Conc
structure GW (Y:aN)(Fin:bH)(s:Ring)(b:aJ)(arr ab cap:Nat)(cur:Array Value)(bs:List (Bq Y))(σ:Y.σ)(k:Nat)(E:List (Nat×Obj))(S:ai)(M:Nat→Prop)(w:World):Prop where
 stop:S=aK Try.prog Fin s
 hE:s.E=(G2 b 0 True).env Try.prog
 fine:b.dL
 q2:b.q=2
 c0:b.c[0]?=some (.slice (some ⟨ab,0,none⟩) bs.length cap)
 c4:b.c[4]?=some (.int .i64 (k:Nat))
 ok:∀ x∈bs,x.Ok b.R
 mem:Mm Try.prog M w ((E ++ books ab cur bs) ++ Y.sh σ) (halves bs)
 ptr:∀ (i:Nat) x,bs[i]?=some x→cur[i]?=some (.pointer (some ⟨x.k.bb,0,none⟩))
theorem GW.with {Y:aN}{Fin:bH}{s:Ring}{b:aJ}{arr ab cap:Nat}{cur:Array Value}{bs:List (Bq Y)}{σ:Y.σ}{k:Nat}{E:List (Nat×Obj)}{S:ai}{M:Nat→Prop}{w:World}(h:GW Y Fin s b arr ab cap cur bs σ k E S M w){w1:World}{M':Nat→Prop}{E':List (Nat×Obj)}(hu:∀ c,M c→M' c)(hm:Mm Try.prog M' w1 ((E' ++ books ab cur bs) ++ Y.sh σ) (halves bs)):GW Y Fin s b arr ab cap cur bs σ k E' S M' w1:=⟨h.stop,h.hE,h.fine,h.q2,h.c0,h.c4,h.ok,hm,h.ptr⟩
theorem Rn:Try.f35.body=some (.seq (.region 0 (opsOf 0 Try.f35.body) false) (.seq (.region 1 (opsOf 1 Try.f35.body) false) (.seq (.seq (.region 2 (opsOf 2 Try.f35.body) false) (.block 0 (.loop (.seq (.region 3 (opsOf 3 Try.f35.body) false) (.seq (.cond (.tmp 20) .skip (.exit 0)) (.seq (.block 1 (.seq (.region 4 (opsOf 4 Try.f35.body) false) (.seq (.region 5 (opsOf 5 Try.f35.body) true) (.seq (.region 6 (opsOf 6 Try.f35.body) false) (.cond (.tmp 37) (.region 7 (opsOf 7 Try.f35.body) true) .skip))))) (.region 8 (opsOf 8 Try.f35.body) false))))))) (.seq (.region 9 (opsOf 9 Try.f35.body) false) .ret)))):=by kernel_rfl
section
variable {Y:aN}{Fin:bH}{s:Ring}{b:aJ}{arr ab cap:Nat}{cur:Array Value}{bs:List (Bq Y)}{σ:Y.σ}{k:Nat}{E:List (Nat×Obj)}{S:ai}{M:Nat→Prop}{w:World}{cut:Bool}
theorem tL {v:Value}(hv:v.oneCell'=true):∀ u∈dA v k cut,u.oneCell'=true:=by
 intro u hu
 simp only [dA,List.mem_cons,List.not_mem_nil,or_false] at hu
 rcases hu with rfl | rfl | rfl | rfl
 ·exact hv
 ·rfl
 ·rfl
 ·rfl
theorem Ro {n m:Nat}{x y u v:Value}(h:x=u)(h2:y=v):[(n,x),(m,y)]=[(n,u),(m,v)]:=by rw [h,h2]
structure TI (Y:aN)(Fin:bH)(s:Ring)(b:aJ)(arr ab cap:Nat)(cur:Array Value)(bs:List (Bq Y))(σ:Y.σ)(k:Nat)(E:List (Nat×Obj))(cut:Bool)(b4 b5:Nat)(i:Nat)(S:ai)(M:Nat→Prop)(a:Act)(w:World):Prop where
 size:a.tmps.size=55
 defers:a.defers=[]
 s4:a.eval (.tmp 4)=.pointer (some ⟨b4,0,none⟩)
 s5:a.eval (.tmp 5)=.pointer (some ⟨b5,0,none⟩)
 Y0:a.eval (.tmp 17)=.slice (some ⟨ab,0,none⟩) bs.length cap
 Za:a.eval (.tmp 18)=.int .i64 (bs.length:Nat)
 Zb:a.eval (.tmp 19)=.int .i64 (i:Nat)
 le:i≤bs.length
 ga:∃ v A more,Row 46 1 v i ((bs.take i).map fun x=>x.k.ans) A∧GW Y Fin s b arr ab cap cur bs σ k ((b5,bC v k cut) :: (b4,bC (.slice none 0 0) 0 false) :: (A ++ (more ++ E))) S M w
theorem Rp (h8:bs.length≤8)(hown:∀ x∈bs,x.k.own=0)(hG:GW Y Fin s b arr ab cap cur bs σ k E S M w) :
  bn Try.prog true 35 #[.pointer (some ⟨b.R,0,none⟩),.bool cut] (fun e S' M' w'=>∃ v A more,e=.returned (.agg (dA v k cut).toArray)∧Row 46 1 v bs.length (bs.map fun x=>x.k.ans) A∧GW Y Fin s b arr ab cap cur bs σ k (A ++ (more ++ E)) S' M' w') S M w:=by
 obtain ⟨hS,hE,hf,hq,hv0,hv4,hok,hm,ji⟩:=id hG
 subst hS
 refine eQ Try.func35 Rn ?_
 obtain ⟨a,ha,hs,hd,he⟩:=entered Try.func35 #[.pointer (some ⟨b.R,0,none⟩),.bool cut] .normal (N:=55) rfl (by show 2≤55;decide)
 have h0:=he 0 _ rfl
 have h1:=he 1 _ rfl
 rw [← ha]
 clear ha he
 refine ak (kG [0] (kX ae (d:=some 4) (t:=43) eI (z:=.agg (dA (.slice none 0 0) 0 false).toArray) af hm fun b4 w hm=>?_))
 refine aA ?_
 replace hm:=hm.perm List.perm_append_comm
 refine ak (kG [0,1,2,3,4,5,6,7] (kM (v:=.pointer (some ⟨b.R,0,none⟩)) 8 0 hm fun w hm=>?_))
 refine kN 9 8 hm fun w hm=>kP (fo:=4) (off:=0) 10 99 9 3 hm fun w hm=>lV Try.func35 rfl ae (d:=some 11) (t:=3) (x:=.tmp 10) eI (G:=G2 b 0 True) hE ⟨hf.shut,hf.room⟩ (k:=4) (v:=.int .i64 (k:Nat)) eV (by show 4≠b.q;omega) (by show 4≠b.q+1;omega) hv4 af ?_
 refine kM (v:=.bool cut) 12 1 hm fun w hm=>kR (d:=some 13) (v:=.agg (dA (.slice none 0 0) k cut).toArray) (p:=.build 43 #[(2,.tmp 11),(3,.tmp 12)]) (fun o ho=>ik ho (vs:=[(2,.int .i64 (k:Nat)),(3,.bool cut)]) (by simp only [List.map_cons,List.map_nil];exact Ro eV eV) af) hm fun w hm=>?_
 refine kX ae (d:=some 5) (t:=43) eI (z:=.agg (dA (.slice none 0 0) 0 false).toArray) af hm fun b5 w hm=>?_
 replace hm:=hm.perm List.perm_append_comm
 refine lX ae (d:=none) (t:=43) (x:=.tmp 5) (y:=.tmp 13) eI (n:=0) (b:=b5) eV (vs:=dA (.slice none 0 0) k cut) eV hm rfl rfl af (tL rfl) fun w hm=>?_
 rw [bV]
 refine aA (ak (ak (kG [0,1,2,3,4,5] (kM (v:=.pointer (some ⟨b.R,0,none⟩)) 14 0 hm fun w hm=>?_))))
 refine kN 15 14 hm fun w hm=>kP (fo:=0) (off:=0) 16 99 15 0 hm fun w hm=>lV Try.func35 rfl ae (d:=some 17) (t:=90) (x:=.tmp 16) eI (G:=G2 b 0 True) hE ⟨hf.shut,hf.room⟩ (k:=0) (v:=.slice (some ⟨ab,0,none⟩) bs.length cap) eV (by show 0≠b.q;omega) (by show 0≠b.q+1;omega) hv0 af ?_
 refine kR (d:=some 18) (gN (t:=90) (x:=.tmp 17) (ad:=some ⟨ab,0,none⟩) (len:=bs.length) (cap:=cap) af eV) hm fun w hm=>?_
 refine kR (d:=some 19) (p:=.move (.const (.int .i64 0))) (fun o ho=>bK (v:=.int .i64 ((0:Nat):Int)) ho rfl) hm fun w hm=>?_
 refine aA (eH (kE (X:=Nat) (r:=InvImage (· < ·) (fun i=>bs.length - i)) (InvImage.wf _ Nat.lt_wfRel.wf) (fun i S M a w=>TI Y Fin s b arr ab cap cur bs σ k E cut b4 b5 i S M a w) 0 ?_ fun i S M a w hI=>?_))
 ·refine ⟨by simp only [size_put];exact hs,by simp only [bO];exact hd,eV,eV,eV,eV,eV,Nat.zero_le _,.slice none 0 0,[],[],⟨rfl,.inl ⟨rfl,rfl,rfl⟩⟩,hG.with (fun c hc=>.inl (.inl hc)) hm⟩
 clear hG hm hs hd h0 h1 hE hf hq hv0 hv4 hok ji
 obtain ⟨hs,hd,h4,h5,Zc,h18,h19,hle,v,A,more,hrow,hG⟩:=hI
 obtain ⟨hS,hE,hf,hq,hv0,hv4,hok,hm,ji⟩:=id hG
 subst hS
 refine ak (kG [0] (kR (d:=some 20) (jC (t:=3) (t':=3) (x:=.tmp 19) (y:=(.tmp 18)) (k:=((i:Nat):Int)) (m:=((bs.length:Nat):Int)) h19 h18) hm fun w hm=>?_))
 refine aA ?_
 by_cases hi:i < bs.length
 ·have hdec:decide (((i:Nat):Int) < ((bs.length:Nat):Int))=true:=by simp [hi]
  refine ak (kY (by rw [eP];exact congrArg Value.bool hdec) ?_)
  refine bS ?_
  obtain ⟨x,hx⟩:∃ x,bs[i]?=some x:=⟨_,List.getElem?_eq_getElem hi⟩
  have AZ:=List.mem_of_getElem? hx
  obtain ⟨ja,hja⟩:=List.mem_iff_getElem?.1 (show (ab,Obj.cells cur 116 (0,0))∈((b5,bC v k cut) :: (b4,bC (.slice none 0 0) 0 false) :: (A ++ (more ++ E)) ++ books ab cur bs) ++ Y.sh σ from aO ((bR ((List.mem_cons_self ..)))))
  have hp:=ji i x hx
  have Hf:(x.k.bb,x.k.obj)∈books ab cur bs:=List.mem_cons_of_mem _ (List.mem_flatMap.2 ⟨x,AZ,List.mem_cons_self ..⟩)
  have tH:∃ o n c,x.k.ans=.slice o n c:=by
   rcases (hok x AZ).row.2 with ⟨e,_⟩ | ⟨g,cp,cu,e,_⟩
   ·exact ⟨_,_,_,e⟩
   ·exact ⟨_,_,_,e⟩
  refine ak (eH (ak (kG [0,1,2,3,4] (kM (v:=.int .i64 (i:Nat)) 21 19 hm fun w hm=>?_))))
  refine kR (d:=some 22) (p:=.indexAddr 90 (.tmp 17) (.tmp 19)) (fun o ho=>iI (ad:=⟨ab,0,none⟩) (len:=bs.length) (cap:=cap) (k:=.i64) (i:=(i:Nat)) (sz:=1) ho eV eV ⟨ag,ag⟩ af af) hm fun w hm=>?_
  refine kL (d:=some 23) (t:=116) (x:=.tmp 22) (n:=ja) (b:=ab) (k:=i) (by rw [eP,if_pos rfl,Int.toNat_natCast,Nat.mul_one,Addr.add_mid,Nat.zero_add]) hm (by rw [List.getElem?_append_left (List.getElem?_eq_some_iff.1 hja).1];exact hja) (v:=.pointer (some ⟨x.k.bb,0,none⟩)) hp fun w hm=>?_
  refine kS (v:=.int .i64 (i:Nat)) 6 21 hm fun w hm=>kS (v:=.pointer (some ⟨x.k.bb,0,none⟩)) 7 23 hm fun w hm=>aA (ak (QJ (b5:=b5) (bb:=x.k.bb) (n:=i) (L:=(b4,bC (.slice none 0 0) 0 false) :: ((more ++ E) ++ (books ab cur bs ++ Y.sh σ))) bJ eV eV (List.mem_cons_of_mem _ (bR ((aO (Hf))))) tH hrow ag (hm.perm Rk) fun a w M' sb v' A' hs1 hd1 hk1 hup hrow' hm=>?_))
  have g4:a.eval (.tmp 4)=.pointer (some ⟨b4,0,none⟩):=(hk1 4 ae).trans eV
  have g5:a.eval (.tmp 5)=.pointer (some ⟨b5,0,none⟩):=(hk1 5 ae).trans eV
  have g7:a.eval (.tmp 7)=.pointer (some ⟨x.k.bb,0,none⟩):=(hk1 7 ae).trans eV
  have g17:a.eval (.tmp 17)=.slice (some ⟨ab,0,none⟩) bs.length cap:=(hk1 17 ae).trans eV
  have g18:a.eval (.tmp 18)=.int .i64 (bs.length:Nat):=(hk1 18 ae).trans eV
  have g19:a.eval (.tmp 19)=.int .i64 (i:Nat):=(hk1 19 ae).trans eV
  have gd:a.defers=[]:=hd1.trans bJ
  replace hm:=hm.perm Rl
  obtain ⟨jb,hjb⟩:=List.mem_iff_getElem?.1 (show (x.k.bb,x.k.obj)∈(((b5,bC v' k cut) :: (b4,bC (.slice none 0 0) 0 false) :: (A' ++ (((sb,.cells #[x.k.ans] 46 (0,0)) :: more) ++ E))) ++ books ab cur bs) ++ Y.sh σ from aO ((bR (Hf))))
  refine ak (kG [0,1,2,3,4] (kM (v:=.pointer (some ⟨x.k.bb,0,none⟩)) 33 7 hm fun w hm=>?_))
  refine kN 34 33 hm fun w hm=>kP (fo:=5) (off:=0) 35 118 34 5 hm fun w hm=>kL (d:=some 36) (t:=3) (x:=.tmp 35) (n:=jb) (b:=x.k.bb) (k:=5) eV hm (by rw [List.getElem?_append_left (List.getElem?_eq_some_iff.1 hjb).1];exact hjb) (v:=.int .i64 ((0:Nat):Int)) (by show some (Value.int .i64 (x.k.own:Nat))=_;rw [hown x AZ]) fun w hm=>?_
  refine kR (d:=some 37) (xY (t:=3) (t':=3) (x:=.tmp 36) (k:=0) eV) hm fun w hm=>?_
  refine aA (kF eV ?_)
  refine bS (kG [0,1] (kR (d:=some 53) (mM (t:=3) (t':=3) (x:=.tmp 19) (k:=i) ag eV) hm fun w hm=>?_))
  refine kM (v:=.int .i64 ((i+1:Nat):Int)) 19 53 hm fun w hm=>aA (⟨i+1,by show bs.length - (i+1) < bs.length - i;omega,by simp only [size_put];exact hs1,by simp only [bO];exact gd,eV,eV,eV,eV,eV,hi,v',A',(sb,.cells #[x.k.ans] 46 (0,0)) :: more,?_,hG.with hup hm⟩)
  rw [List.take_add_one,hx,List.map_append]
  exact hrow'
 ·have hdec:decide (((i:Nat):Int) < ((bs.length:Nat):Int))=false:=by simp [hi]
  refine ak (kF (by rw [eP];exact congrArg Value.bool hdec) ?_)
  refine lG ?_
  simp only [Bool.false_eq_true,↓reduceIte,if_true]
  have hin:i=bs.length:=by omega
  subst hin
  rw [List.take_of_length_le (Nat.le_refl _)] at hrow
  refine ak (kG [0,1] (vW ae (d:=some 54) (t:=43) (x:=.tmp 5) eI (n:=0) (b:=b5) (off:=0) eV hm rfl (vs:=dA v k cut) (fun j v hj=>by rw [Nat.zero_add];simpa using hj) af af fun w hm=>?_))
  refine lX ae (d:=none) (t:=43) (x:=.tmp 4) (y:=.tmp 54) eI (n:=1) (b:=b4) eV (vs:=dA v k cut) eV hm rfl rfl af (tL (tF hrow)) fun w hm=>?_
  rw [bV]
  refine aA (eG ?_)
  have hm:Mm Try.prog _ _ (((b5,bC v k cut) :: (b4,bC v k cut) :: (A ++ (more ++ E)) ++ books ab cur bs) ++ Y.sh σ) (halves bs):=hm
  exact fT (vU (sl:=4) (t:=43) (b:=b4) (vs:=dA v k cut) (e:=43) (fz:=(0,0)) rfl bJ eV af af hm (aO ((aO ((aO ((List.mem_cons_of_mem _ (List.mem_cons_self ..)))))))) fun w1 hr=>⟨v,A,(b5,bC v k cut) :: (b4,bC v k cut) :: more,rfl,hrow,hG.with (fun _ hc=>hc) ((hm.rely hr).perm Rm)⟩)
end
end Go.Proofs.Ytanploaffndpjaa
namespace Go.Blind
open Go.Conc Go.RowKit
theorem Ba {P:Program}{a:Act}{t t':TypeId}{x y:Operand}{k m:Int}(hx:a.eval x=.int .i64 k)(hy:a.eval y=.int .i64 m):∀ o:Oper,o.op=.binOp .geq t x y t'→dn P a o (.bool (decide (m≤k))):=fun o hop w1=>by
 have e:execOp a.eval o=(do pure (Next.value (← (do eqGuard .geq t x y (.int .i64 k) (.int .i64 m);binOp .geq t (.int .i64 k) (.int .i64 m))))):=by
  unfold execOp
  rw [hop,← hx,← hy]
 have hg:eqGuard .geq t x y (.int .i64 k) (.int .i64 m)=Pure.pure ():=rfl
 have hb:binOp .geq t (.int .i64 k) (.int .i64 m)=Pure.pure (.bool (decide (m≤k))):=by simp [binOp,Op.intCmp]
 rw [e,hg,hb]
 exact ⟨rfl,rfl⟩
theorem tN {α:Type}{W:List α}{x y c a:α}:(x :: (y :: W ++ [c,a])).Perm (a :: (x :: (y :: W ++ [c]))):=by
 classical
 exact List.perm_iff_count.2 fun z=>by
  simp only [List.count_append,List.count_cons,List.count_nil,List.cons_append]
  omega
theorem Rq {α:Type}{W Z:List α}{x y c a:α}:(((x :: (y :: W ++ Z)) ++ [c]) ++ [a]).Perm (x :: (y :: (c :: a :: W) ++ Z)):=by
 classical
 exact List.perm_iff_count.2 fun z=>by
  simp only [List.count_append,List.count_cons,List.count_nil,List.cons_append]
  omega
end Go.Blind
namespace Go.Proofs.Ytanploaffndpjaa
open Go Go.Blind Go.Conc
def cellL (cb ab:Nat)(hne:cb≠ab):aN where
 σ:=Nat
 K:=Nat×Option Nat
 Call:=Nat
 B:=[cb,ab]
 sh x:=[(cb,.cells #[.slice (some ⟨ab,0,none⟩) 1 1] 53 (0,0)),(ab,.cells #[.int .i64 (x:Nat)] 62 (0,0))]
 fst _:=rfl
 nodup:=by simp [hne]
 begin v:=(v,none)
 line q x:=match q with
  | (v,none)=>if v≤x then (x,.inr (aQ false x 0 0).toArray) else (x,.inl (v,some x))
  | (v,some y)=>if x=y then (v,.inr (aQ false v 0 0).toArray) else (x,.inl (v,none))
theorem Rt:Try.f111.body=some (.seq (.region 0 (opsOf 0 Try.f111.body) false) (.block 0 (.loop (.block 1 (.seq (.region 1 (opsOf 1 Try.f111.body) false) (.seq (.region 2 (opsOf 2 Try.f111.body) false) (.seq (.seq (.region 3 (opsOf 3 Try.f111.body) false) (.cond (.tmp 15) (.seq (.region 4 (opsOf 4 Try.f111.body) false) .ret) .skip)) (.seq (.region 5 (opsOf 5 Try.f111.body) false) (.seq (.region 6 (opsOf 6 Try.f111.body) false) (.cond (.tmp 24) (.seq (.region 7 (opsOf 7 Try.f111.body) false) .ret) .skip)))))))))):=by kernel_rfl
section
variable {cb ab:Nat}{hne:cb≠ab}{p:Post}{wb b3 b6 n v:Nat}{k:Int}{cs:List Nat}{wl:List (Nat×Obj)}{S:ai}{M:Nat→Prop}{w:World}
def vX (hne:cb≠ab)(v:Nat)(cs:List Nat)(q:(cellL cb ab hne).bL):Prop:=q=(none,v :: cs)∨q=(some (v,none),cs)
theorem vX.le {q:(cellL cb ab hne).bL}(h:vX hne v cs q){s:Nat}(hs:v≤s):(cellL cb ab hne).dM q s=(s,fP (aQ false s 0 0).toArray,if cs.isEmpty then none else some (none,cs)):=by
 have:(cellL cb ab hne).line (v,none) s=(s,.inr (aQ false s 0 0).toArray):=if_pos hs
 rcases h with rfl | rfl
 ·show (cellL cb ab hne).fin cs ((cellL cb ab hne).line (v,none) s)=_
  rw [this];rfl
 ·show (cellL cb ab hne).fin cs ((cellL cb ab hne).line (v,none) s)=_
  rw [this];rfl
theorem vX.lt {q:(cellL cb ab hne).bL}(h:vX hne v cs q){s:Nat}(hs:¬ v≤s):(cellL cb ab hne).dM q s=(s,gL,some (some (v,some s),cs)):=by
 have:(cellL cb ab hne).line (v,none) s=(s,.inl (v,some s)):=if_neg hs
 rcases h with rfl | rfl
 ·show (cellL cb ab hne).fin cs ((cellL cb ab hne).line (v,none) s)=_
  rw [this];rfl
 ·show (cellL cb ab hne).fin cs ((cellL cb ab hne).line (v,none) s)=_
  rw [this];rfl
theorem Ru {s:Nat}:(cellL cb ab hne).dM (some (v,some s),cs) s=(v,fP (aQ false v 0 0).toArray,if cs.isEmpty then none else some (none,cs)):=by
 have:(cellL cb ab hne).line (v,some s) s=(v,.inr (aQ false v 0 0).toArray):=if_pos rfl
 show (cellL cb ab hne).fin cs ((cellL cb ab hne).line (v,some s) s)=_
 rw [this];rfl
theorem Rv {s s2:Nat}(h:¬ s2=s):(cellL cb ab hne).dM (some (v,some s),cs) s2=(s2,gL,some (some (v,none),cs)):=by
 have:(cellL cb ab hne).line (v,some s) s2=(s2,.inl (v,none)):=if_neg h
 show (cellL cb ab hne).fin cs ((cellL cb ab hne).line (v,some s) s2)=_
 rw [this];rfl
structure MF (wb ab b3 b6:Nat)(a:Act):Prop where
 size:a.tmps.size=28
 defers:a.defers=[]
 s1:a.eval (.tmp 1)=.pointer (some ⟨wb,0,none⟩)
 s2:a.eval (.tmp 2)=.pointer (some ⟨ab,0,none⟩)
 s3:a.eval (.tmp 3)=.pointer (some ⟨b3,0,none⟩)
 s6:a.eval (.tmp 6)=.pointer (some ⟨b6,0,none⟩)
def MI (cb ab:Nat)(hne:cb≠ab)(p:Post)(wb b3 b6 v:Nat)(k:Int)(cs:List Nat)(wl:List (Nat×Obj))(n:Nat)(S:ai)(M:Nat→Prop)(a:Act)(w:World):Prop :=
 MF wb ab b3 b6 a∧((∃ s,S=dP Try.prog (cellL cb ab hne) p n (none,v :: cs) s∧Mm Try.prog M w ((p.pb,aR p true false) :: ((wb,bY p k) :: ((b3,.cells #[.int .i64 (v:Nat)] 79 (0,0)) :: (b6,dW false 0 0 0) :: wl) ++ (cellL cb ab hne).sh s)) [])∨∃ q s s',S=dP Try.prog (cellL cb ab hne) p n q s∧(cellL cb ab hne).dM q s=(s',gL,some (some (v,none),cs))∧Mm Try.prog M w ((p.pb,aR p false false) :: ((wb,bY p k) :: ((b3,.cells #[.int .i64 (v:Nat)] 79 (0,0)) :: (b6,dW false 0 0 0) :: wl) ++ (cellL cb ab hne).sh s')) [])
theorem Hg {x:Int}:∀ u∈aQ false x 0 0,u.oneCell'=true:=by
 intro u hu
 simp only [aQ,List.mem_cons,List.not_mem_nil,or_false] at hu
 rcases hu with rfl | rfl | rfl | rfl | rfl | rfl | rfl | rfl | rfl <;> rfl
theorem Hl (bF:p.ob=aR p false false){a:Act}{Q:aZ}{q:(cellL cb ab hne).bL}{s:Nat}(hq:vX hne v cs q)(hF:MF wb ab b3 b6 a)(hm:Mm Try.prog M w ((p.pb,aR p false false) :: ((wb,bY p k) :: ((b3,.cells #[.int .i64 (v:Nat)] 79 (0,0)) :: (b6,dW false 0 0 0) :: wl) ++ (cellL cb ab hne).sh s)) [])
  (hgo:∀ n' S M a w,n' < n→MI cb ab hne p wb b3 b6 v k cs wl n' S M a w→Q .normal S M a w)(hret:∀ x n' q' s0 s' M a w,MF wb ab b3 b6 a→(cellL cb ab hne).dM q' s0=(s',fP (aQ false x 0 0).toArray,if cs.isEmpty then none else some (none,cs))→Mm Try.prog M w ((p.pb,aR p false false) :: ((wb,bY p k) :: ((b3,.cells #[.int .i64 (v:Nat)] 79 (0,0)) :: (b6,dW false x 0 0) :: wl) ++ (cellL cb ab hne).sh s')) []→Q .ret (dP Try.prog (cellL cb ab hne) p n' q' s0) M a w) :
  aM Try.prog false 111 .normal (.seq (.region 2 (opsOf 2 Try.f111.body) false) (.seq (.seq (.region 3 (opsOf 3 Try.f111.body) false) (.cond (.tmp 15) (.seq (.region 4 (opsOf 4 Try.f111.body) false) .ret) .skip)) (.seq (.region 5 (opsOf 5 Try.f111.body) false) (.seq (.region 6 (opsOf 6 Try.f111.body) false) (.cond (.tmp 24) (.seq (.region 7 (opsOf 7 Try.f111.body) false) .ret) .skip))))) Q (dP Try.prog (cellL cb ab hne) p n q s) M a w:=by
 obtain ⟨hs,hd,h1,h2,h3,h6⟩:=hF
 refine ak (kG [0,1,2] (kM (v:=.pointer (some ⟨ab,0,none⟩)) 10 2 hm fun w hm=>?_))
 refine kC (d:=some 11) (args:=#[.tmp 10]) (ats:=#[81]) Try.func18 (ys:=#[.pointer (some ⟨ab,0,none⟩)]) (by simp only [List.map_toArray,List.map_cons,List.map_nil];exact iM eV) (bG (Qh (x:=((s:Nat):Int)) (e:=62) (hm.perm tN) _) fun e S1 M1 w hq1=>?_)
 obtain ⟨hS1,⟨rfl,hm⟩,fC⟩:=hq1
 rw [hS1]
 replace hm:=hm.perm tN.symm
 refine kS (v:=.int .i64 (s:Nat)) 7 11 hm fun w hm=>aA (ak (ak (kG [0,1,2,3] (kM (v:=.int .i64 (s:Nat)) 12 7 hm fun w hm=>?_))))
 refine kP (fo:=0) (off:=0) 13 79 3 0 hm fun w hm=>kL (d:=some 14) (t:=3) (x:=.tmp 13) (n:=2) (b:=b3) (k:=0) eV hm rfl (v:=.int .i64 (v:Nat)) rfl fun w hm=>?_
 refine kR (d:=some 15) (Ba (t:=3) (t':=3) (x:=.tmp 12) (y:=.tmp 14) (k:=((s:Nat):Int)) (m:=((v:Nat):Int)) eV eV) hm fun w hm=>?_
 refine aA ?_
 by_cases hvs:v≤s
 ·have hdec:decide (((v:Nat):Int)≤((s:Nat):Int))=true:=by simp [hvs]
  refine kY (by rw [eP];exact congrArg Value.bool hdec) ?_
  refine ak (kG [0,1,2] (kM (v:=.int .i64 (s:Nat)) 16 7 hm fun w hm=>?_))
  refine kR (d:=some 17) (v:=.agg (aQ false ((s:Nat):Int) 0 0).toArray) (p:=.build 48 #[(4,.tmp 16)]) (fun o ho=>ik ho (vs:=[(4,.int .i64 ((s:Nat):Int))]) (by simp only [List.map_cons,List.map_nil];exact congrArg (fun x=>[(4,x)]) eV) af) hm fun w hm=>?_
  refine lX ae (d:=none) (t:=48) (x:=.tmp 6) (y:=.tmp 17) eI (n:=3) (b:=b6) eV (vs:=aQ false ((s:Nat):Int) 0 0) eV hm rfl rfl af Hg fun w hm=>?_
  rw [bV]
  refine aA (eG ?_)
  simp only [Bool.false_eq_true,↓reduceIte]
  exact hret ((s:Nat):Int) n q s s _ _ _ ⟨by simp only [size_put];exact hs,by simp only [bO];exact hd,eV,eV,eV,eV⟩ (hq.le hvs) hm
 ·have hdec:decide (((v:Nat):Int)≤((s:Nat):Int))=false:=by simp [hvs]
  refine kF (by rw [eP];exact congrArg Value.bool hdec) ?_
  refine bS (ak (kG [0,1] (kM (v:=.pointer (some ⟨wb,0,none⟩)) 18 1 hm fun w hm=>?_)))
  refine kC (d:=some 19) (args:=#[.tmp 18]) (ats:=#[69]) Try.func36 (ys:=#[.pointer (some ⟨wb,0,none⟩)]) (by simp only [List.map_toArray,List.map_cons,List.map_nil];exact iM eV) (bG (Fv bF (hq.lt hvs) hm) fun e S2 M2 w hq2=>?_)
  obtain ⟨rfl,n2,Ho,hn2,rfl,hm⟩:=hq2
  obtain ⟨s2,hs2⟩:∃ u:Nat,u=Ho:=⟨Ho,rfl⟩
  subst hs2
  refine aA (ak (kG [0,1,2,3,4] (kM (v:=.pointer (some ⟨ab,0,none⟩)) 20 2 hm fun w hm=>?_)))
  refine kM (v:=.int .i64 (s:Nat)) 21 7 hm fun w hm=>kP (fo:=0) (off:=0) 22 79 3 0 hm fun w hm=>kL (d:=some 23) (t:=3) (x:=.tmp 22) (n:=2) (b:=b3) (k:=0) eV hm rfl (v:=.int .i64 (v:Nat)) rfl fun w hm=>?_
  have Rw:=hm
  by_cases hss:s2=s
  ·subst hss
   refine kC (d:=some 24) (args:=#[.tmp 20,.tmp 21,.tmp 23]) (ats:=#[81,3,3]) Try.func108 (ys:=#[.pointer (some ⟨ab,0,none⟩),.int .i64 ((s2:Nat):Int),.int .i64 ((v:Nat):Int)]) (by simp only [List.map_toArray,List.map_cons,List.map_nil];exact yB eV eV eV) (bG (Qi (x:=((s2:Nat):Int)) (y:=((v:Nat):Int)) (e:=62) (Rw.perm tN) _) fun e S3 M3 w hq3=>?_)
   obtain ⟨vY,⟨rfl,hm⟩,Hq⟩:=hq3
   rw [vY]
   replace hm:=hm.perm tN.symm
   refine aA (kY eV ?_)
   refine ak (kG [0,1,2,3] (kP (fo:=0) (off:=0) 25 79 3 0 hm fun w hm=>?_))
   refine kL (d:=some 26) (t:=3) (x:=.tmp 25) (n:=2) (b:=b3) (k:=0) eV hm rfl (v:=.int .i64 (v:Nat)) rfl fun w hm=>?_
   refine kR (d:=some 27) (v:=.agg (aQ false ((v:Nat):Int) 0 0).toArray) (p:=.build 48 #[(4,.tmp 26)]) (fun o ho=>ik ho (vs:=[(4,.int .i64 ((v:Nat):Int))]) (by simp only [List.map_cons,List.map_nil];exact congrArg (fun x=>[(4,x)]) eV) af) hm fun w hm=>?_
   refine lX ae (d:=none) (t:=48) (x:=.tmp 6) (y:=.tmp 27) eI (n:=3) (b:=b6) eV (vs:=aQ false ((v:Nat):Int) 0 0) eV hm rfl rfl af Hg fun w hm=>?_
   rw [bV]
   refine aA (eG ?_)
   exact hret ((v:Nat):Int) n2 (some (v,some s2),cs) s2 v _ _ _ ⟨by simp only [size_put];exact hs,by simp only [bO];exact hd,eV,eV,eV,eV⟩ Ru hm
  ·have hne2:¬ ((s2:Nat):Int)=((s:Nat):Int):=fun e=>hss ag
   refine kC (d:=some 24) (args:=#[.tmp 20,.tmp 21,.tmp 23]) (ats:=#[81,3,3]) Try.func108 (ys:=#[.pointer (some ⟨ab,0,none⟩),.int .i64 ((s:Nat):Int),.int .i64 ((v:Nat):Int)]) (by simp only [List.map_toArray,List.map_cons,List.map_nil];exact yB eV eV eV) (bG (Qj (x:=((s2:Nat):Int)) (o:=((s:Nat):Int)) (y:=((v:Nat):Int)) (e:=62) hne2 (hm.perm tN) _) fun e S3 M3 w hq3=>?_)
   obtain ⟨vY,⟨rfl,hm⟩,Hq⟩:=hq3
   rw [vY]
   replace hm:=hm.perm tN.symm
   refine aA (kF eV ?_)
   refine bS ?_
   exact hgo n2 _ _ _ _ ag ⟨⟨by simp only [size_put];exact hs,by simp only [bO];exact hd,eV,eV,eV,eV⟩,.inr ⟨_,_,_,rfl,Rv hss,hm⟩⟩
end
end Go.Proofs.Ytanploaffndpjaa
namespace Go.Proofs.Ytanploaffndpjaa
open Go Go.Blind Go.Conc
section
variable {cb ab:Nat}{hne:cb≠ab}{p:Post}{wb n v:Nat}{k:Int}{cs:List Nat}{wl:List (Nat×Obj)}{M:Nat→Prop}{w:World}
theorem Ry (bF:p.ob=aR p false false){s:Nat}(hm:Mm Try.prog M w ((p.pb,aR p true false) :: ((wb,bY p k) :: wl ++ (cellL cb ab hne).sh s)) []) :
  bn Try.prog false 111 #[.agg #[.int .i64 (v:Nat)],.pointer (some ⟨wb,0,none⟩),.pointer (some ⟨ab,0,none⟩)] (vI (cellL cb ab hne) p wb k wl cs) (dP Try.prog (cellL cb ab hne) p n (none,v :: cs) s) M w:=by
 refine eQ Try.func111 Rt ?_
 obtain ⟨a,ha,hs,hd,he⟩:=entered Try.func111 #[.agg #[.int .i64 (v:Nat)],.pointer (some ⟨wb,0,none⟩),.pointer (some ⟨ab,0,none⟩)] .normal (N:=28) rfl (by show 3≤28;decide)
 have h0:=he 0 _ rfl
 have h1:=he 1 _ rfl
 have h2:=he 2 _ rfl
 rw [← ha]
 clear ha he
 refine ak (kG [0,1] (je ae (d:=some 3) (t:=79) (x:=.tmp 0) eI (cells:=#[.int .i64 (v:Nat)]) ((congrArg Value.cells (show _=Value.agg #[.int .i64 (v:Nat)] from h0)).trans rfl) hm fun b3 w hm=>?_))
 refine kX ae (d:=some 6) (t:=48) eI (z:=.agg (aQ false 0 0 0).toArray) af hm fun b6 w hm=>?_
 refine aA ?_
 replace hm:=hm.perm Rq
 refine eH (kE (X:=Nat) (r:=(· < ·)) Nat.lt_wfRel.wf (fun n S M a w=>MI cb ab hne p wb b3 b6 v k cs wl n S M a w) n ?_ fun n S M a w hI=>?_)
 ·exact ⟨⟨by simp only [size_put];exact hs,by simp only [bO];exact hd,eV,eV,eV,eV⟩,.inl ⟨s,rfl,hm⟩⟩
 clear hm hs hd h0 h1 h2
 have hret:∀ {Q:aZ},(∀ S M a w,rE Try.prog 111 Try.f111 (vI (cellL cb ab hne) p wb k wl cs) .ret S M a w→Q .ret S M a w)→∀ (x:Int) n' q' s0 s' M a w,MF wb ab b3 b6 a→(cellL cb ab hne).dM q' s0=(s',fP (aQ false x 0 0).toArray,if cs.isEmpty then none else some (none,cs))→Mm Try.prog M w ((p.pb,aR p false false) :: ((wb,bY p k) :: ((b3,.cells #[.int .i64 (v:Nat)] 79 (0,0)) :: (b6,dW false x 0 0) :: wl) ++ (cellL cb ab hne).sh s')) []→Q .ret (dP Try.prog (cellL cb ab hne) p n' q' s0) M a w:=by
  intro Q hQ x n' q' s0 s' M a w hF hl hm
  refine hQ _ _ _ _ (fT (vU (sl:=6) (t:=48) (b:=b6) (vs:=aQ false x 0 0) (e:=48) (fz:=(0,0)) rfl hF.defers hF.s6 af af hm (by simp [dW]) fun w1 hr=>⟨false,x,0,0,n',q',s0,s',rfl,rfl,hl,(hm.rely hr).sub ?_⟩))
  exact (List.Sublist.cons_cons _ (List.Sublist.cons_cons _ (List.Sublist.append ((List.Sublist.refl wl).cons _ |>.cons _) (List.Sublist.refl _))))
 obtain ⟨hF,hI⟩:=hI
 obtain ⟨hs,hd,h1,h2,h3,h6⟩:=id hF
 rcases hI with ⟨s,rfl,hm⟩ | ⟨q,s,s',rfl,hl,hm⟩
 ·refine eH (ak (kG [0,1] (kM (v:=.pointer (some ⟨wb,0,none⟩)) 8 1 hm fun w hm=>?_)))
  refine kC (d:=some 9) (args:=#[.tmp 8]) (ats:=#[69]) Try.func36 (ys:=#[.pointer (some ⟨wb,0,none⟩)]) (by simp only [List.map_toArray,List.map_cons,List.map_nil];exact iM eV) (bG (Om hm) fun e S1 M1 w hq1=>?_)
  obtain ⟨rfl,rfl,hM1,hm2⟩:=hq1
  refine aA ?_
  exact Hl bF (s:=s) (.inl rfl) ⟨by simp only [size_put];exact hs,by simp only [bO];exact hd,eV,eV,eV,eV⟩ hm2 (fun n' S M a w hlt hI'=>⟨n',hlt,hI'⟩) (hret fun S M a w h=>h)
 ·refine eH (ak (kG [0,1] (kM (v:=.pointer (some ⟨wb,0,none⟩)) 8 1 hm fun w hm=>?_)))
  refine kC (d:=some 9) (args:=#[.tmp 8]) (ats:=#[69]) Try.func36 (ys:=#[.pointer (some ⟨wb,0,none⟩)]) (by simp only [List.map_toArray,List.map_cons,List.map_nil];exact iM eV) (bG (Fv bF hl hm) fun e S1 M1 w hq1=>?_)
  obtain ⟨rfl,n1,Hr,hn1,rfl,hm⟩:=hq1
  obtain ⟨s1,hs1⟩:∃ u:Nat,u=Hr:=⟨Hr,rfl⟩
  subst hs1
  refine aA ?_
  exact Hl bF (s:=s1) (.inr rfl) ⟨by simp only [size_put];exact hs,by simp only [bO];exact hd,eV,eV,eV,eV⟩ hm (fun n' S M a w hlt hI'=>⟨n',ag,hI'⟩) (hret fun S M a w h=>h)
end
section
variable {Y:aN}{Fin:bH}{arr ab cap:Nat}{cur:Array Value}{S:ai}{M:Nat→Prop}{w:World}{R N rb ob g u m:Nat}{TB mX:List (Nat×Obj)}{pe:Ps Y}
def GDone (Y:aN)(Fin:bH)(R N arr ab cap:Nat)(cur:Array Value)(mX:List (Nat×Obj))(pe:Ps Y)(S:ai)(M:Nat→Prop)(w:World):Prop :=
 ∃ (s:Ring) (b:aJ) (bs:List (Bq Y)) (E:List (Nat×Obj)),(∀ p∈mX,p∈E)∧b.R=R∧b.n=N∧bs.map Bq.pure=pe.bs∧GA Y Fin s b arr ab cap cur bs pe.σ pe.k E S M w
theorem Ih {l:List Nat}{ts:List Int}{last:Int}(h:l≠[]):Tu.jh l ts last=((Tu.jf l ts last:Nat):Int):=if_neg h
theorem GDone.rely (h:GDone Y Fin R N arr ab cap cur mX pe S M w){w1:World}(hr:ay Try.prog M w w1):GDone Y Fin R N arr ab cap cur mX pe S M w1:=by
 obtain ⟨s,b,bs,E,h0,h1,h2,h3,h4⟩:=h
 exact ⟨s,b,bs,E,h0,h1,h2,h3,h4.rely (h4.mem.rely hr)⟩
theorem SN {a:Act}{Q:aZ}(hu:u < 1000000)(hI:GI Y Fin R N arr ab cap cur rb ob g u TB mX pe m S M a w)
  (hgo:∀ m' S M a w,m' < m→GI Y Fin R N arr ab cap cur rb ob g u TB mX pe m' S M a w→Q .normal S M a w)(hend:∀ S M a w,a.defers=[]→GDone Y Fin R N arr ab cap cur mX pe S M w→Q (.exit 0) S M a w)(hret:∀ S M a w,a.defers=[]→GDone Y Fin R N arr ab cap cur mX pe S M w→Q .ret S M a w) :
  aM Try.prog true 29 .normal (.seq (.seq (.region 1 (opsOf 1 Try.f29.body) false) (.cond (.tmp 21) .skip (.exit 0))) (.block 1 (.seq (.seq (.region 2 (opsOf 2 Try.f29.body) false) (.block 2 (.loop (.seq (.region 3 (opsOf 3 Try.f29.body) false) (.seq (.cond (.tmp 28) .skip (.exit 2)) (.seq (.block 3 (.seq (.region 4 (opsOf 4 Try.f29.body) false) (.region 5 (opsOf 5 Try.f29.body) false))) (.region 6 (opsOf 6 Try.f29.body) false))))))) (.seq (.region 7 (opsOf 7 Try.f29.body) false) (.seq (.seq (.region 8 (opsOf 8 Try.f29.body) false) (.cond (.tmp 42) .ret .skip)) (.region 9 (opsOf 9 Try.f29.body) false)))))) Q S M a w:=by
 obtain ⟨hs,hd,h0,h1,h2,s,b,bs,σ,k,ts,last,ao,c,B,more,hsub,rfl,rfl,h8,hO,h6,fK,hG⟩:=hI
 obtain ⟨hS,hE,hf,hq,hz,hv0,hv1,hv4,hbn,hcr,hok,hm,jW,ji⟩:=id hG
 subst hS
 refine ak (ak (kG [0,1,2,3,4,5] (kM (v:=.pointer (some ⟨b.R,0,none⟩)) 16 0 hm fun w hm=>?_)))
 refine kN 17 16 hm fun w hm=>kP (fo:=4) (off:=0) 18 99 17 3 hm fun w hm=>lV Try.func29 rfl ae (d:=some 19) (t:=3) (x:=.tmp 18) eI (G:=G0 b 0) hE ⟨hf.shut,hf.room⟩ (k:=4) (v:=.int .i64 (k:Nat)) eV (by show 4≠b.q;omega) (by show 4≠b.q+1;omega) hv4 af ?_
 refine kM (v:=.int .i64 (u:Nat)) 20 2 hm fun w hm=>kR (d:=some 21) (jC (t:=3) (t':=3) (x:=.tmp 19) (y:=(.tmp 20)) (k:=((k:Nat):Int)) (m:=((u:Nat):Int)) eV eV) hm fun w hm=>?_
 refine aA ?_
 by_cases yF:k < u
 ·have hdec:decide (((k:Nat):Int) < ((u:Nat):Int))=true:=by simp [yF]
  refine kY (by rw [eP];exact congrArg Value.bool hdec) ?_
  refine bS (eH (ak (ak (kG [0,1,2,3,4,5] (kM (v:=.pointer (some ⟨b.R,0,none⟩)) 22 0 hm fun w hm=>?_)))))
  refine kN 23 22 hm fun w hm=>kP (fo:=0) (off:=0) 24 99 23 0 hm fun w hm=>lV Try.func29 rfl ae (d:=some 25) (t:=90) (x:=.tmp 24) eI (G:=G0 b 0) hE ⟨hf.shut,hf.room⟩ (k:=0) (v:=.slice (some ⟨ab,0,none⟩) bs.length cap) eV (by show 0≠b.q;omega) (by show 0≠b.q+1;omega) hv0 af ?_
  refine kR (d:=some 26) (gN (t:=90) (x:=.tmp 25) (ad:=some ⟨ab,0,none⟩) (len:=bs.length) (cap:=cap) af eV) hm fun w hm=>?_
  refine kR (d:=some 27) (p:=.move (.const (.int .i64 0))) (fun o ho=>bK (v:=.int .i64 ((0:Nat):Int)) ho rfl) hm fun w hm=>?_
  refine aA (eH (kE (X:=Nat) (r:=InvImage (· < ·) (fun i=>bs.length - i)) (InvImage.wf _ Nat.lt_wfRel.wf) (fun i S M a w=>RI Y Fin s b arr ab cap cur bs σ k rb ob u B ((ob,gP ts.length ao c (last+1)) :: (TB ++ more)) i S M a w) 0 ?_ fun i S M a w hI=>?_))
  ·refine ⟨by simp only [size_put];exact hs,by simp only [bO];exact hd,eV,eV,eV,eV,eV,eV,eV,Nat.zero_le _,?_⟩
   have:(fun j=>if j < 0 then oz (bs.map Bq.pure) j else B j)=B:=by funext j;simp
   rw [this]
   exact hG.rely hm
  refine Ri h8 hI (fun S M a w hi hI'=>⟨i+1,?_,hI'⟩) (fun S M a w hI'=>?_)
  ·show bs.length - (i+1) < bs.length - i;omega
  simp only [Bool.false_eq_true,↓reduceIte,if_true]
  clear hI hm hG
  obtain ⟨hs,hd,h0,h1,h2,h6,Rj,He,h27,hle,hG⟩:=hI'
  have hrd:Tu.bE (fun j=>if j < bs.length then oz (bs.map Bq.pure) j else B j) bs.length=(⟨bs.map Bq.pure,σ,k,ts,last⟩:Ps Y).fF:=by
   unfold Ps.fF
   rw [List.length_map]
   exact Tu.QM fun i hi=>if_pos hi
  generalize (fun j=>if j < bs.length then oz (bs.map Bq.pure) j else B j)=B' at hrd hG
  obtain ⟨hS,hE,hf,hq,hz,hv0,hv1,hv4,hbn,hcr,hok,hm,jW,ji⟩:=id hG
  subst hS
  refine ak (kG [0,1,2,3] (kM (v:=.pointer (some ⟨ob,0,none⟩)) 38 1 hm fun w hm=>?_))
  refine kM (v:=.slice (some ⟨rb,0,none⟩) bs.length bs.length) 39 6 hm fun w hm=>?_
  have hpm:Mm Try.prog _ _ ((ob,gP ts.length ao c (last+1)) :: (TB ++ (rb,iL B' bs.length) :: (more ++ (books ab cur bs ++ Y.sh σ)))) (halves bs):=hm.perm (by
   simp only [List.cons_append,List.append_assoc]
   exact (List.Perm.swap _ _ _).trans (List.perm_middle.symm.cons _))
  refine kC (d:=some 40) (args:=#[.tmp 38,.tmp 39]) (ats:=#[104,126]) Try.func44 (ys:=#[.pointer (some ⟨ob,0,none⟩),.slice (some ⟨rb,0,none⟩) bs.length bs.length]) (by simp only [List.map_toArray,List.map_cons,List.map_nil];exact tK eV eV) (bG (Q9 hO h8 hpm _) fun e S' M2 w hq2=>?_)
  obtain ⟨rfl,⟨rfl,gZ,c',lD,hm⟩,dF⟩:=hq2
  replace hm:Mm Try.prog _ _ (((rb,iL B' bs.length) :: (ob,gP (Tu.jE (Tu.bE B' bs.length) ts).length gZ c' (Tu.mV (Tu.bE B' bs.length) ts last+1)) :: (TB ++ more) ++ books ab cur bs) ++ Y.sh σ) (halves bs):=hm.perm (by
   simp only [List.cons_append,List.append_assoc]
   exact (List.perm_middle.cons _).trans (List.Perm.swap _ _ _))
  have hG2:=hG.with dF hm
  clear hG hpm jW
  rw [hrd] at hG2 lD hm ⊢
  refine kS (v:=.int .i64 (Tu.jh (⟨bs.map Bq.pure,σ,k,ts,last⟩:Ps Y).fF ts last)) 9 40 hm fun w hm=>aA (ak (ak (kG [0,1] (kM (v:=.int .i64 (Tu.jh (⟨bs.map Bq.pure,σ,k,ts,last⟩:Ps Y).fF ts last)) 41 9 hm fun w hm=>?_))))
  refine kR (d:=some 42) (jC (t:=3) (t':=3) (x:=.tmp 41) (y:=(.const (.int .i64 0))) (k:=(Tu.jh (⟨bs.map Bq.pure,σ,k,ts,last⟩:Ps Y).fF ts last)) (m:=0) eV rfl) hm fun w hm=>?_
  refine aA ?_
  by_cases hl:(⟨bs.map Bq.pure,σ,k,ts,last⟩:Ps Y).fF=[]
  ·have hdec:decide (Tu.jh (⟨bs.map Bq.pure,σ,k,ts,last⟩:Ps Y).fF ts last < 0)=true:=by rw [hl];rfl
   refine kY (by rw [eP];exact congrArg Value.bool hdec) ?_
   refine eG ?_
   simp only [Bool.false_eq_true,↓reduceIte]
   refine hret _ _ _ _ bJ ?_
   cases m with
   | zero =>
    obtain ⟨rfl,_⟩:=fK
    exact ⟨s,b,bs,_,fun p hp=>List.mem_cons_of_mem _ (List.mem_cons_of_mem _ (bR ((hsub p hp)))),rfl,rfl,rfl,hG2.rely hm⟩
   | succ m =>
    obtain ⟨a',⟨_,hne,_⟩,_⟩:=fK
    exact absurd hl hne
  ·have hdec:decide (Tu.jh (⟨bs.map Bq.pure,σ,k,ts,last⟩:Ps Y).fF ts last < 0)=false:=by rw [Ih hl];simp
   refine kF (by rw [eP];exact congrArg Value.bool hdec) ?_
   refine bS ?_
   cases m with
   | zero =>
    obtain ⟨_,hz | hz⟩:=fK
    ·exact absurd yF (Nat.not_lt.2 hz)
    ·exact absurd hz hl
   | succ m =>
    obtain ⟨a',⟨_,_,xp,x1,σ',hxp,ht,b1,b2,b3,b4,b5,rfl⟩,fK⟩:=fK
    obtain ⟨j,hj⟩:∃ j,Tu.jf (⟨bs.map Bq.pure,σ,k,ts,last⟩:Ps Y).fF ts last=j:=⟨_,rfl⟩
    have SQ:Tu.jh (⟨bs.map Bq.pure,σ,k,ts,last⟩:Ps Y).fF ts last=((j:Nat):Int):=by rw [Ih hl,hj]
    have hlj:Tu.mV (⟨bs.map Bq.pure,σ,k,ts,last⟩:Ps Y).fF ts last=((j:Nat):Int):=(if_neg hl).trans (by rw [hj])
    have htj:Tu.jE (⟨bs.map Bq.pure,σ,k,ts,last⟩:Ps Y).fF ts=ts.tail:=if_neg hl
    simp only [hj] at hxp fK
    rw [hlj,htj] at hG2 hm
    rw [htj] at lD
    rw [SQ]
    have hxp:(bs.map Bq.pure)[j]?=some xp:=hxp
    rw [List.getElem?_map] at hxp
    obtain ⟨x,hx,rfl⟩:=Option.map_eq_some_iff.1 hxp
    have hjl:j < bs.length:=(List.getElem?_eq_some_iff.1 hx).1
    have hB:=hG2.yn
    obtain ⟨ja,hja⟩:=List.mem_iff_getElem?.1 hB.arr
    have hp:=ji j x hx
    refine kG [0,1,2,3,4,5,6,7,8] (kM (v:=.pointer (some ⟨b.R,0,none⟩)) 43 0 hm fun w hm=>?_)
    refine kM (v:=.pointer (some ⟨b.R,0,none⟩)) 44 0 hm fun w hm=>kN 45 44 hm fun w hm=>kP (fo:=0) (off:=0) 46 99 45 0 hm fun w hm=>lV Try.func29 rfl ae (d:=some 47) (t:=90) (x:=.tmp 46) eI (G:=G0 b 0) hE ⟨hf.shut,hf.room⟩ (k:=0) (v:=.slice (some ⟨ab,0,none⟩) bs.length cap) eV (by show 0≠b.q;omega) (by show 0≠b.q+1;omega) hv0 af ?_
    refine kM (v:=.int .i64 (j:Nat)) 48 9 hm fun w hm=>kR (d:=some 49) (p:=.indexAddr 90 (.tmp 47) (.tmp 48)) (fun o ho=>iI (ad:=⟨ab,0,none⟩) (len:=bs.length) (cap:=cap) (k:=.i64) (i:=(j:Nat)) (sz:=1) ho eV eV ⟨ag,ag⟩ af af) hm fun w hm=>?_
    refine kL (d:=some 50) (t:=116) (x:=.tmp 49) (n:=ja) (b:=ab) (k:=j) (by rw [eP,if_pos rfl,Int.toNat_natCast,Nat.mul_one,Addr.add_mid,Nat.zero_add]) hm (by rw [List.getElem?_append_left (List.getElem?_eq_some_iff.1 hja).1];exact hja) (v:=.pointer (some ⟨x.k.bb,0,none⟩)) hp fun w hm=>?_
    refine kC (d:=some 51) (args:=#[.tmp 43,.tmp 50]) (ats:=#[88,116]) Try.func45 (ys:=#[.pointer (some ⟨b.R,0,none⟩),.pointer (some ⟨x.k.bb,0,none⟩)]) (by simp only [List.map_toArray,List.map_cons,List.map_nil];exact tK eV eV) (bG (QD (hG2.rely hm) hx ht ag (Nat.lt_of_lt_of_le b1 ae) (Nat.lt_of_lt_of_le b2 ae) b3 b4 (Int.lt_of_lt_of_le b5 ae)) fun e S' M3 w hq3=>?_)
    obtain ⟨rfl,s',b',x',L',hx',hR,hN,hG3⟩:=hq3
    refine aA (hgo m _ _ _ _ (Nat.lt_succ_self _) ⟨by simp only [size_put];exact hs,by simp only [bO];exact hd,eV,eV,eV,s',b',bs.set j x',σ',k+1,ts.tail,((j:Nat):Int),gZ,c',B',more ++ L',(fun p hp=>aO ((hsub p hp))),hR,hN,by rw [List.length_set];exact h8,lD,?_,?_,?_⟩)
    ·rw [List.length_set]
     exact eV
    ·rw [List.map_set,hx']
     exact fK
    ·rw [List.length_set]
     simpa only [List.cons_append,List.append_assoc] using hG3
 ·have hdec:decide (((k:Nat):Int) < ((u:Nat):Int))=false:=by simp [yF]
  refine kF (by rw [eP];exact congrArg Value.bool hdec) ?_
  refine lG ?_
  simp only [Bool.false_eq_true,↓reduceIte]
  refine hend _ _ _ _ bJ ?_
  cases m with
  | zero =>
   obtain ⟨rfl,_⟩:=fK
   exact ⟨s,b,bs,_,fun p hp=>List.mem_cons_of_mem _ (List.mem_cons_of_mem _ (bR ((hsub p hp)))),rfl,rfl,rfl,hG.rely hm⟩
  | succ m =>
   obtain ⟨a',⟨hlt,_⟩,_⟩:=fK
   exact absurd hlt yF
theorem SS {s:Ring}{b:aJ}{bs:List (Bq Y)}{σ:Y.σ}{k:Nat}{ts:List Int}{last:Int}{ao:Option Addr}{c:Nat}{more:List (Nat×Obj)}(hu:u < 1000000)(h8:bs.length≤8)(hO:mW ob g ts ao c TB)(fK:Way u m ⟨bs.map Bq.pure,σ,k,ts,last⟩ pe)(hG:GA Y Fin s b arr ab cap cur bs σ k ((ob,gP ts.length ao c (last+1)) :: (TB ++ more)) S M w) :
  bn Try.prog true 29 #[.pointer (some ⟨b.R,0,none⟩),.pointer (some ⟨ob,0,none⟩),.int .i64 (u:Nat)] (fun e S' M' w'=>e=.returned (.tuple #[])∧GDone Y Fin b.R b.n arr ab cap cur more pe S' M' w') S M w:=by
 obtain ⟨hS,hE,hf,hq,hz,hv0,hv1,hv4,hbn,hcr,hok,hm,jW,ji⟩:=id hG
 subst hS
 refine eQ Try.func29 Rc ?_
 obtain ⟨a,ha,hs,hd,he⟩:=entered Try.func29 #[.pointer (some ⟨b.R,0,none⟩),.pointer (some ⟨ob,0,none⟩),.int .i64 (u:Nat)] .normal (N:=52) rfl (by show 3≤52;decide)
 have h0:=he 0 _ rfl
 have h1:=he 1 _ rfl
 have h2:=he 2 _ rfl
 rw [← ha]
 clear ha he
 refine ak (kG [0,1,2,3,4,5,6] (kM (v:=.pointer (some ⟨b.R,0,none⟩)) 10 0 hm fun w hm=>?_))
 refine kN 11 10 hm fun w hm=>kP (fo:=0) (off:=0) 12 99 11 0 hm fun w hm=>lV Try.func29 rfl ae (d:=some 13) (t:=90) (x:=.tmp 12) eI (G:=G0 b 0) hE ⟨hf.shut,hf.room⟩ (k:=0) (v:=.slice (some ⟨ab,0,none⟩) bs.length cap) eV (by show 0≠b.q;omega) (by show 0≠b.q+1;omega) hv0 af ?_
 refine kR (d:=some 14) (gN (t:=90) (x:=.tmp 13) (ad:=some ⟨ab,0,none⟩) (len:=bs.length) (cap:=cap) af eV) hm fun w hm=>?_
 refine G9 ae (d:=some 15) (t:=126) (e:=4) (x:=.tmp 14) (y:=.tmp 14) eI (z:=.bool false) (bytes:=1) (n:=bs.length) af af rfl eV eV ag ag hm fun rb w hm=>?_
 refine kS (v:=.slice (some ⟨rb,0,none⟩) bs.length bs.length) 6 15 hm fun w hm=>aA (eH (kE (X:=Nat) (r:=(· < ·)) Nat.lt_wfRel.wf (fun m S M a w=>GI Y Fin b.R b.n arr ab cap cur rb ob g u TB more pe m S M a w) m ?_ fun m S M a w hI=>?_))
 ·refine ⟨by simp only [size_put];exact hs,by simp only [bO];exact hd,eV,eV,eV,s,b,bs,σ,k,ts,last,ao,c,fun _=>false,more,(fun _ hp=>hp),rfl,rfl,h8,hO,eV,fK,?_⟩
  refine hG.with (fun _ hc=>.inl hc) (hm.perm ?_)
  rw [Rh]
  exact (List.perm_append_comm).trans (List.Perm.of_eq (by simp only [List.cons_append,List.nil_append,List.append_assoc]))
 refine SN hu hI (fun m' S M a w hlt hI'=>⟨m',hlt,hI'⟩) (fun S M a w hd hD=>?_) (fun S M a w hd hD=>?_)
 ·simp only [Bool.false_eq_true,↓reduceIte,if_true]
  exact mI (iZ rfl hd fun w1 hr=>⟨rfl,hD.rely hr⟩)
 ·simp only [Bool.false_eq_true,↓reduceIte]
  exact fT (iZ rfl hd fun w1 hr=>⟨rfl,hD.rely hr⟩)
end
end Go.Proofs.Ytanploaffndpjaa
namespace Go.Blind
open Go.Conc Go.RowKit
section
variable {P:Program}{main:Bool}{fn:FuncId}{kd:CallKind}{Q:aZ}{S:ai}{M:Nat→Prop}{a:Act}{w:World}{ops:Array Oper}{i:Nat}{d:Option Tmp}{rest:List Nat}
theorem vZ {j sj:Nat}(hi:(ops[i]?).map (fun o=>(o.dst,o.guard))=some (d,some (j,true)))(hj:(ops[j]?).bind (·.dst)=some sj)(hv:a.eval (.tmp sj)=.bool false)(h:aG P main fn kd ops rest Q S M (a.put d undef) w):aG P main fn kd ops (i :: rest) Q S M a w:=by
 obtain ⟨o,ho,hq⟩:=Option.map_eq_some_iff.1 hi
 simp only [Prod.mk.injEq] at hq
 obtain ⟨rfl,hg⟩:=hq
 have hy:yielded ops a.tmps j≠some true:=by
  unfold yielded
  rw [hj]
  simp only [Option.bind_some]
  simp only [Act.eval,Array.getD_eq_getD_getElem?] at hv
  cases hs:a.tmps[sj]? with
  | none=>simp
  | some x =>
   rw [hs] at hv
   simp only [Option.getD_some] at hv
   subst hv
   simp
 refine dx (ET ho ?_ h)
 unfold Region.wanted
 rw [hg]
 simpa using hy
theorem mY {x y z:Operand}{v:Value}(hx:a.eval x=.bool false)(hz:a.eval z=v):∀ o:Oper,o.op=.pick x y z→dn P a o v:=fun o hop w1=>by
 have e:execOp a.eval o=Pure.pure (Next.value v):=by
  unfold execOp
  rw [hop]
  simp only [hx,hz]
  rfl
 rw [e]
 exact ⟨rfl,rfl⟩
end
end Go.Blind
namespace Go.Proofs.Ytanploaffndpjaa
open Go Go.Blind Go.Conc
theorem Rz:Try.f33.body=some (.seq (.region 0 (opsOf 0 Try.f33.body) false) (.block 0 (.loop (.seq (.region 1 (opsOf 1 Try.f33.body) false) (.seq (.cond (.tmp 10) .skip (.exit 0)) (.seq (.block 1 (.seq (.region 2 (opsOf 2 Try.f33.body) false) (.seq (.region 3 (opsOf 3 Try.f33.body) false) (.cond (.tmp 24) (.seq (.region 4 (opsOf 4 Try.f33.body) false) (.region 5 (opsOf 5 Try.f33.body) false)) .skip)))) (.region 6 (opsOf 6 Try.f33.body) false))))))):=by kernel_rfl
section
variable {Y:aN}{Fin:bH}{s:Ring}{b:aJ}{arr ab cap:Nat}{cur:Array Value}{bs:List (Bq Y)}{σ:Y.σ}{k:Nat}{E:List (Nat×Obj)}{S:ai}{M:Nat→Prop}{w:World}
structure LI (Y:aN)(Fin:bH)(s:Ring)(b:aJ)(arr ab cap:Nat)(cur:Array Value)(bs:List (Bq Y))(σ:Y.σ)(k:Nat)(E:List (Nat×Obj))(i:Nat)(S:ai)(M:Nat→Prop)(a:Act)(w:World):Prop where
 size:a.tmps.size=38
 defers:a.defers=[]
 s7:a.eval (.tmp 7)=.slice (some ⟨ab,0,none⟩) bs.length cap
 s8:a.eval (.tmp 8)=.int .i64 (bs.length:Nat)
 s9:a.eval (.tmp 9)=.int .i64 (i:Nat)
 le:i≤bs.length
 ga:GA Y Fin s b arr ab cap cur bs σ k E S M w
theorem RA (h8:bs.length≤8)(hl0:∀ x∈bs,x.k.left=0)(hG:GA Y Fin s b arr ab cap cur bs σ k E S M w) :
  bn Try.prog true 33 #[.pointer (some ⟨b.R,0,none⟩)] (fun e S' M' w'=>e=.returned (.tuple #[])∧GA Y Fin s b arr ab cap cur bs σ k E S' M' w') S M w:=by
 obtain ⟨hS,hE,hf,hq,hz,hv0,hv1,hv4,hbn,hcr,hok,hm,jW,ji⟩:=id hG
 subst hS
 refine eQ Try.func33 Rz ?_
 obtain ⟨a,ha,hs,hd,he⟩:=entered Try.func33 #[.pointer (some ⟨b.R,0,none⟩)] .normal (N:=38) rfl (by show 1≤38;decide)
 have h0:=he 0 _ rfl
 rw [← ha]
 clear ha he
 refine ak (kG [0,1,2,3,4,5] (kM (v:=.pointer (some ⟨b.R,0,none⟩)) 4 0 hm fun w hm=>?_))
 refine kN 5 4 hm fun w hm=>kP (fo:=0) (off:=0) 6 99 5 0 hm fun w hm=>lV Try.func33 rfl ae (d:=some 7) (t:=90) (x:=.tmp 6) eI (G:=G0 b 0) hE ⟨hf.shut,hf.room⟩ (k:=0) (v:=.slice (some ⟨ab,0,none⟩) bs.length cap) eV (by show 0≠b.q;omega) (by show 0≠b.q+1;omega) hv0 af ?_
 refine kR (d:=some 8) (gN (t:=90) (x:=.tmp 7) (ad:=some ⟨ab,0,none⟩) (len:=bs.length) (cap:=cap) af eV) hm fun w hm=>?_
 refine kR (d:=some 9) (p:=.move (.const (.int .i64 0))) (fun o ho=>bK (v:=.int .i64 ((0:Nat):Int)) ho rfl) hm fun w hm=>?_
 refine aA (eH (kE (X:=Nat) (r:=InvImage (· < ·) (fun i=>bs.length - i)) (InvImage.wf _ Nat.lt_wfRel.wf) (fun i S M a w=>LI Y Fin s b arr ab cap cur bs σ k E i S M a w) 0 ?_ fun i S M a w hI=>?_))
 ·exact ⟨by simp only [size_put];exact hs,by simp only [bO];exact hd,eV,eV,eV,Nat.zero_le _,hG.rely hm⟩
 clear hG hm hs hd h0 hE hf hq hz hv0 hv1 hv4 hbn hcr hok jW ji
 obtain ⟨hs,hd,h7,h8',h9,hle,hG⟩:=hI
 obtain ⟨hS,hE,hf,hq,hz,hv0,hv1,hv4,hbn,hcr,hok,hm,jW,ji⟩:=id hG
 subst hS
 refine ak (kG [0] (kR (d:=some 10) (jC (t:=3) (t':=3) (x:=.tmp 9) (y:=(.tmp 8)) (k:=((i:Nat):Int)) (m:=((bs.length:Nat):Int)) h9 h8') hm fun w hm=>?_))
 refine aA ?_
 by_cases hi:i < bs.length
 ·have hdec:decide (((i:Nat):Int) < ((bs.length:Nat):Int))=true:=by simp [hi]
  refine ak (kY (by rw [eP];exact congrArg Value.bool hdec) ?_)
  refine bS ?_
  obtain ⟨x,hx⟩:∃ x,bs[i]?=some x:=⟨_,List.getElem?_eq_getElem hi⟩
  have hB:=hG.yn
  obtain ⟨ja,hja⟩:=List.mem_iff_getElem?.1 hB.arr
  have hp:=ji i x hx
  obtain ⟨jb,hjb⟩:=List.mem_iff_getElem?.1 (hB.mem x.k (List.mem_map_of_mem (List.mem_of_getElem? hx))).1
  have hlx:=hl0 x (List.mem_of_getElem? hx)
  refine ak (eH (ak (kG [0,1,2] (kR (d:=some 11) (p:=.indexAddr 90 (.tmp 7) (.tmp 9)) (fun o ho=>iI (ad:=⟨ab,0,none⟩) (len:=bs.length) (cap:=cap) (k:=.i64) (i:=(i:Nat)) (sz:=1) ho eV eV ⟨ag,ag⟩ af af) hm fun w hm=>?_))))
  refine kL (d:=some 12) (t:=116) (x:=.tmp 11) (n:=ja) (b:=ab) (k:=i) (by rw [eP,if_pos rfl,Int.toNat_natCast,Nat.mul_one,Addr.add_mid,Nat.zero_add]) hm (by rw [List.getElem?_append_left (List.getElem?_eq_some_iff.1 hja).1];exact hja) (v:=.pointer (some ⟨x.k.bb,0,none⟩)) hp fun w hm=>?_
  refine kS (v:=.pointer (some ⟨x.k.bb,0,none⟩)) 3 12 hm fun w hm=>aA (ak (kG [0,1,2,3,4,5,6,7,8,9,10,11] (kM (v:=.pointer (some ⟨x.k.bb,0,none⟩)) 13 3 hm fun w hm=>?_)))
  refine kN 14 13 hm fun w hm=>kP (fo:=1) (off:=0) 15 118 14 1 hm fun w hm=>kL (d:=some 16) (t:=3) (x:=.tmp 15) (n:=jb) (b:=x.k.bb) (k:=1) eV hm (by rw [List.getElem?_append_left (List.getElem?_eq_some_iff.1 hjb).1];exact hjb) (v:=.int .i64 ((0:Nat):Int)) (by show some (Value.int .i64 x.k.left)=_;rw [hlx];rfl) fun w hm=>?_
  refine kR (d:=some 17) (xY (t:=3) (t':=3) (x:=.tmp 16) (k:=0) eV) hm fun w hm=>?_
  refine kM (v:=.bool (decide (0 < 0))) 18 17 hm fun w hm=>vZ (d:=some 19) (j:=5) (sj:=18) af af eV ?_
  refine vZ (d:=some 20) (j:=5) (sj:=18) af af eV ?_
  refine vZ (d:=some 21) (j:=5) (sj:=18) af af eV ?_
  refine vZ (d:=some 22) (j:=5) (sj:=18) af af eV ?_
  refine vZ (d:=some 23) (j:=5) (sj:=18) af af eV ?_
  refine kR (d:=some 24) (mY (x:=.tmp 18) (y:=.tmp 23) (z:=.const (.bool false)) eV (v:=.bool false) rfl) hm fun w hm=>?_
  refine aA (kF eV ?_)
  refine bS (kG [0,1] (kR (d:=some 37) (mM (t:=3) (t':=3) (x:=.tmp 9) (k:=i) ag eV) hm fun w hm=>?_))
  refine kM (v:=.int .i64 ((i+1:Nat):Int)) 9 37 hm fun w hm=>aA ?_
  exact ⟨i+1,by show bs.length - (i+1) < bs.length - i;omega,by simp only [size_put];exact hs,by simp only [bO];exact hd,eV,(by rw [eN,eN,eN,eN,eN,eN,eN,eN,eN,eN,eN,eN,eN,eN,eN,eN,eN,eN];exact h8'),eV,hi,hG.rely hm⟩
 ·have hdec:decide (((i:Nat):Int) < ((bs.length:Nat):Int))=false:=by simp [hi]
  refine ak (kF (by rw [eP];exact congrArg Value.bool hdec) ?_)
  refine lG ?_
  simp only [Bool.false_eq_true,↓reduceIte,if_true]
  exact mI (iZ rfl bJ fun w1 hr=>⟨rfl,hG.rely (hm.rely hr)⟩)
end
end Go.Proofs.Ytanploaffndpjaa
namespace Go.Blind
open Go.Conc Go.RowKit
section
variable {P:Program}{main:Bool}{fn:FuncId}{kd:CallKind}{Q:aZ}{S:ai}{M:Nat→Prop}{a:Act}{w:World}{ops:Array Oper}{i:Nat}{d:Option Tmp}{rest:List Nat}{l r A:List (Nat×Obj)}
theorem RB {t t':TypeId}{x:Operand}{v:Value}{b:Bool}(hg:∀ w1,(eqGuard .eql t x (.const (.slice none 0 0)) v (.slice none 0 0)).run P w1=.ok () w1∧(eqGuard .eql t x (.const (.slice none 0 0)) v (.slice none 0 0)).events P w1 #[]=#[])(hb:∀ w1,(binOp .eql t v (.slice none 0 0)).run P w1=.ok (.bool b) w1∧(binOp .eql t v (.slice none 0 0)).events P w1 #[]=#[])(hx:a.eval x=v):∀ o:Oper,o.op=.binOp .eql t x (.const (.slice none 0 0)) t'→dn P a o (.bool b):=fun o hop w1=>by
 have e:execOp a.eval o=(do pure (Next.value (← (do eqGuard .eql t x (.const (.slice none 0 0)) v (.slice none 0 0);binOp .eql t v (.slice none 0 0))))):=by
  unfold execOp
  rw [hop,← hx]
  rfl
 rw [e]
 refine ⟨?_,?_⟩
 ·simp only [Sem.run_bind,(hg w1).1,(hb w1).1,Result.andThen_ok,Sem.run_pure]
 ·simp only [Sem.events_bind,Sem.run_bind,(hg w1).1,(hb w1).1,(hg w1).2,(hb w1).2,Result.evThen_ok,Result.andThen_ok,Sem.events_pure]
theorem RD (hkd:kd≠.early){t e:TypeId}(hi:aV ops i d (.buildSlice t 0 #[]))(hu:P.underlying t=some (.slice e)){sz:Nat}(hinfo:(P.info? e).map (·.size)=some sz)(hm:Mm P M w l r)
  (h:∀ b w1,Mm P (plus M b) w1 (l ++ [(b,.cells #[] e (0,0))]) r→aG P main fn kd ops rest Q S (plus M b) (a.put d (.slice (some ⟨b,0,none⟩) 0 0)) w1):aG P main fn kd ops (i :: rest) Q S M a w:=by
 obtain ⟨o,ho,rfl,hop,hw⟩:=hi.at a
 obtain ⟨inf,jD,hq⟩:=Option.map_eq_some_iff.1 hinfo
 have e1:execOp a.eval o=(do pure (Next.value (← Instr.buildSlice t 0 #[]))):=by
  unfold execOp
  simp only [hop,List.map_toArray,List.map_nil]
 have hsz:∀ w1:World,(sizeOf e).run P w1=.ok sz w1:=fun w1=>by simp [sizeOf,typeInfo,jD,hq]
 have hr:∀ w1:World,(Instr.buildSlice t 0 #[]).run P w1=.ok (.slice (some ⟨w1.heap.size,0,none⟩) 0 0) (w1.alloc (.cells #[] e (0,0))):=fun w1=>by
  unfold Instr.buildSlice
  simp [Sem.run_bind,run_underlying hu,hsz,Instr.fill,newRow]
  rw [show Array.range 0=#[] from by simp [Array.range],Array.map_empty]
 have hev:∀ w1:World,(Instr.buildSlice t 0 #[]).events P w1 #[]=#[]:=fun w1=>by
  unfold Instr.buildSlice
  simp [Sem.events_bind,run_underlying hu,events_underlying,events_sizeOf,hsz,Instr.fill,newRow]
 refine dx (jr hkd ho hw fun w1 hR K' hK=>?_)
 have hm1:=hm.rely hR
 have hlist:listed P fn a o w1=#[]:=listed_nil (by rw [e1,Sem.events_bind,hr];exact hev w1)
 rw [e1,Sem.run_bind,hr]
 exact hK _ _ _ (by rw [hlist];exact nP _) (h w1.heap.size _ (hm1.new _))
theorem RE (hkd:kd≠.early){sx x:Operand}{t:TypeId}(hi:aV ops i d (.call { callee:=.builtin .append,args:=#[sx,x],argTypes:=#[t,t] })){e:TypeId}{z:Value}{size bytes n m sb c:Nat}{v:Value}{xs news:List Value}{eS:TypeId}{fz:Nat×Nat}
  (hs:a.eval sx=v)(hm0:0 < m)(hx:a.eval x=.slice (some ⟨sb,0,none⟩) m c)(ht:P.underlying t=some (.slice e))(hinfo:(P.info? e).map (fun i=>(i.zero,i.size,i.bytes))=some (some z,size,bytes))(hzs:z.cells.size=size)(hpos:0 < size)(hrow:Row e size v n xs A)(hm:Mm P M w (A ++ l) r)(hsb:(sb,Obj.cells news.toArray eS fz)∈l)(hlen:news.length=m * size)(h1:∀ u∈news,u.oneCell'=true)(h63:n+m≤maxLen)(hbytes:(n+m) * bytes≤140737488355328)
  (h:∀ v' A' M' w',Row e size v' (n+m) (xs ++ news) A'→(∀ c,M c→M' c)→Mm P M' w' (A' ++ l) r→aG P main fn kd ops rest Q S M' (a.put d v') w'):aG P main fn kd ops (i :: rest) Q S M a w:=by
 obtain ⟨o,ho,rfl,hop,hw⟩:=hi.at a
 exact dx (Gw hkd ho hw hop hs hm0 hx ht hinfo hzs hpos hrow hm hsb hlen h1 h63 hbytes h)
theorem wh {t:TypeId}{x y:Operand}{b n cp i sz:Nat}(hx:a.eval x=.slice (some ⟨b,0,none⟩) n cp)(hy:a.eval y=.int .i64 (i:Nat))(hi:i < n)(hu:P.underlying t=some (.slice (P.elem t)))(hs:(P.info? (P.elem t)).map (·.size)=some sz):∀ o:Oper,o.op=.indexAddr t x y→dn P a o (.pointer (some ⟨b,i * sz,none⟩)):=fun o ho=>by
 have:=iI (P:=P) (ad:=⟨b,0,none⟩) (len:=n) (cap:=cp) (k:=.i64) (i:=(i:Nat)) (sz:=sz) ho hx hy ⟨ag,ag⟩ hu hs
 rw [Int.toNat_natCast,Addr.add_mid,Nat.zero_add] at this
 exact this
theorem RF {c:Array Value}{k:Nat}{v:Value}(h:c[k]?=some v):c.setIfInBounds k v=c:=by
 apply Array.ext
 ·simp
 ·intro j h1 h2
  rw [Array.getElem_setIfInBounds]
  split
  ·rename_i e
   subst e
   have:=(Array.getElem?_eq_some_iff.1 h).2
   exact this.symm
  ·rfl
end
end Go.Blind
namespace Go.Proofs.Ytanploaffndpjaa
open Go Go.Blind Go.Conc
theorem RG:Try.f41.body=some (.seq (.region 0 (opsOf 0 Try.f41.body) false) (.seq (.seq (.region 1 (opsOf 1 Try.f41.body) false) (.cond (.tmp 4) (.seq (.region 2 (opsOf 2 Try.f41.body) false) .ret) .skip)) (.seq (.region 3 (opsOf 3 Try.f41.body) false) .ret))):=by kernel_rfl
section
variable {M:Nat→Prop}{w:World}{L r:List (Nat×Obj)}{cb n cap:Nat}{xs:List Value}{eS:TypeId}{fz:Nat×Nat}{main:Bool}
theorem RH (hm:Mm Try.prog M w L r)(S:ai):bn Try.prog main 42 #[.slice none 0 0] (fun e S' M' w'=>S'=S∧(e=.returned (.slice none 0 0)∧Mm Try.prog M' w' L r)∧∀ c,M c→M' c) S M w:=by
 have hn:=hm.nodup
 rw [List.map_append] at hn
 refine vK (R0:=fun e M' w'=>e=.returned (.slice none 0 0)∧Mm Try.prog M' w' L r) (fun S=>?_) S
 refine bG (sF sJ (f:=42) af ⟨_,Try.func42⟩ (fun y hy=>by rw [Array.mem_singleton.1 hy];exact Old.bX _ _) hm [] (fun b hb=>by cases hb) (R:=fun e v=>e=.returned (.slice none 0 0)) (fun v _ hv=>(FW v).mono fun _ _ h=>h.1) (fun u h=>by cases h)) fun e S' M' w' h=>?_
 obtain ⟨rfl,K,v,ha',h⟩:=h
 have hk:=ha'.kept L (fun p hp=>⟨hp,fun z=>by cases z⟩) (List.nodup_append.1 hn).1
 cases e with
 | returned y =>
  obtain ⟨x,hx,hr⟩:=h
  cases hx
  have hy:=hr.old ha'.old (Old.bX (n:=w.heap.size) (G:=GL) 0 0)
  subst hy
  exact ⟨rfl,rfl,hk⟩
 | panicked qs =>
  obtain ⟨ps,hx,_⟩:=h
  cases hx
 | outgrown=>exact h.elim
theorem RJ (hcb:(cb,Obj.cells xs.toArray eS fz)∈L)(hlen:xs.length=n * 5)(hn:0 < n)(hn2:n≤64)(h1:∀ u∈xs,u.oneCell'=true)(hm:Mm Try.prog M w L r)(S:ai):bn Try.prog main 41 #[.slice (some ⟨cb,0,none⟩) n cap] (fun e S' M' w'=>S'=S∧(∀ c,M c→M' c)∧∃ v' A',e=.returned v'∧Row 32 5 v' n xs A'∧Mm Try.prog M' w' (A' ++ L) r) S M w:=by
 refine eQ Try.func41 RG ?_
 obtain ⟨a,ha,hs,hd,he⟩:=entered Try.func41 #[.slice (some ⟨cb,0,none⟩) n cap] .normal (N:=8) rfl (by show 1≤8;decide)
 have h0:=he 0 _ rfl
 rw [← ha]
 clear ha he
 refine ak (kG [0] (kR (d:=some 2) (p:=.assign (.const (.slice none 0 0))) (fun o ho=>eB (v:=.slice none 0 0) ho rfl) hm fun w hm=>?_))
 refine aA (ak (ak (kG [0,1] (kM (v:=.slice (some ⟨cb,0,none⟩) n cap) 3 0 hm fun w hm=>?_))))
 refine kR (d:=some 4) (RB (t:=22) (t':=22) (x:=.tmp 3) (v:=.slice (some ⟨cb,0,none⟩) n cap) (b:=false) (fun w1=>⟨af,af⟩) (fun w1=>⟨af,af⟩) eV) hm fun w hm=>?_
 refine aA (kF eV ?_)
 refine bS (ak (kG [0,1,2,3] (RD ae (d:=some 5) (t:=22) (e:=32) eI af (sz:=5) af hm fun eb w hm=>?_)))
 refine kM (v:=.slice (some ⟨cb,0,none⟩) n cap) 6 0 hm fun w hm=>?_
 replace hm:=hm.perm List.perm_append_comm
 refine RE ae (d:=some 7) (sx:=.tmp 5) (x:=.tmp 6) (t:=22) eI (e:=32) (z:=.agg #[.int .i64 0,.int .i64 0,.int .i64 0,.int .i64 0,.slice none 0 0]) (size:=5) (bytes:=56) (n:=0) (m:=n) (sb:=cb) (c:=cap) (v:=.slice (some ⟨eb,0,none⟩) 0 0) (xs:=[]) (news:=xs) (eS:=eS) (fz:=fz) eV hn eV af af rfl ae (A:=[(eb,.cells #[] 32 (0,0))]) ⟨rfl,.inr ⟨eb,0,#[],rfl,rfl,Nat.le_refl _,by unfold maxLen;omega,rfl,rfl⟩⟩ hm hcb hlen h1 (by unfold maxLen;omega) ag fun v' A' M' w hrow hup hm=>?_
 rw [Nat.zero_add,List.nil_append] at hrow
 refine kS (v:=v') 2 7 hm fun w hm=>aA (eG ?_)
 exact fT (pF (t:=2) rfl bJ (y:=v') eV fun w1 hr=>⟨rfl,fun c hc=>hup c (.inl hc),v',A',rfl,hrow,hm.rely hr⟩)
structure OI (n g cp:Nat)(cur:Array Value)(L r:List (Nat×Obj))(S0:ai)(M0:Nat→Prop)(i:Nat)(S:ai)(M:Nat→Prop)(a:Act)(w:World):Prop where
 stop:S=S0
 size:a.tmps.size=24
 defers:a.defers=[]
 s3:a.eval (.tmp 3)=.slice (some ⟨g,0,none⟩) n cp
 s8:a.eval (.tmp 8)=.int .i64 (n:Nat)
 s9:a.eval (.tmp 9)=.int .i64 (i:Nat)
 le:i≤n
 up:∀ c,M0 c→M c
 mem:Mm Try.prog M w ((g,.cells cur 32 (0,0)) :: L) r
theorem RL:Try.f27.body=some (.seq (.region 0 (opsOf 0 Try.f27.body) false) (.seq (.region 1 (opsOf 1 Try.f27.body) false) (.seq (.seq (.region 2 (opsOf 2 Try.f27.body) false) (.block 0 (.loop (.seq (.region 3 (opsOf 3 Try.f27.body) false) (.seq (.cond (.tmp 10) .skip (.exit 0)) (.seq (.block 1 (.seq (.region 4 (opsOf 4 Try.f27.body) false) (.region 5 (opsOf 5 Try.f27.body) false))) (.region 6 (opsOf 6 Try.f27.body) false))))))) (.seq (.region 7 (opsOf 7 Try.f27.body) false) .ret)))):=by kernel_rfl
theorem RN (hcb:(cb,Obj.cells xs.toArray eS fz)∈L)(hlen:xs.length=n * 5)(hn:0 < n)(hn2:n≤64)(h1:∀ u∈xs,u.oneCell'=true)(hnil:∀ i,i < n→xs[i * 5+4]?=some (.slice none 0 0))(hm:Mm Try.prog M w L r)(S:ai):bn Try.prog main 27 #[.slice (some ⟨cb,0,none⟩) n cap] (fun e S' M' w'=>S'=S∧(∀ c,M c→M' c)∧∃ g cp cur,e=.returned (.slice (some ⟨g,0,none⟩) n cp)∧n≤cp∧cur.toList.take (n * 5)=xs∧Mm Try.prog M' w' ((g,.cells cur 32 (0,0)) :: L) r) S M w:=by
 refine eQ Try.func27 RL ?_
 obtain ⟨a,ha,hs,hd,he⟩:=entered Try.func27 #[.slice (some ⟨cb,0,none⟩) n cap] .normal (N:=24) rfl (by show 1≤24;decide)
 have h0:=he 0 _ rfl
 rw [← ha]
 clear ha he
 refine ak (kG [0] (kR (d:=some 2) (p:=.assign (.const (.slice none 0 0))) (fun o ho=>eB (v:=.slice none 0 0) ho rfl) hm fun w hm=>?_))
 refine aA (ak (kG [0,1,2] (kM (v:=.slice (some ⟨cb,0,none⟩) n cap) 5 0 hm fun w hm=>?_)))
 refine kC (d:=some 6) (args:=#[.tmp 5]) (ats:=#[22]) Try.func41 (ys:=#[.slice (some ⟨cb,0,none⟩) n cap]) (by rw [Array.map_singleton,eP];rfl) (bG (RJ hcb hlen hn hn2 h1 hm _) fun e S' M1 w hq=>?_)
 obtain ⟨hS,hup,v1,A1,rfl,hrow,hm⟩:=hq
 rw [hS]
 rcases hrow.2 with ⟨_,e0,_⟩ | ⟨g,cp,cur,rfl,rfl,hcp,hmx,hcs,htk⟩
 ·omega
 refine kS (v:=.slice (some ⟨g,0,none⟩) n cp) 3 6 hm fun w hm=>aA (ak (ak (kG [0,1,2] (kM (v:=.slice (some ⟨g,0,none⟩) n cp) 7 3 hm fun w hm=>?_))))
 refine kR (d:=some 8) (gN (t:=22) (x:=.tmp 7) (ad:=some ⟨g,0,none⟩) (len:=n) (cap:=cp) af eV) hm fun w hm=>?_
 refine kR (d:=some 9) (p:=.move (.const (.int .i64 0))) (fun o ho=>bK (v:=.int .i64 ((0:Nat):Int)) ho rfl) hm fun w hm=>?_
 refine aA ?_
 have hat:∀ i,i < n→cur[i * 5+4]?=some (.slice none 0 0):=fun i hi=>by
  have h2:=hnil i hi
  rw [← htk,List.getElem?_take_of_lt ag] at h2
  simpa using h2
 have hcsz:cur.size=cp * 5:=hcs
 refine eH (kE (X:=Nat) (r:=InvImage (· < ·) (fun i=>n - i)) (InvImage.wf _ Nat.lt_wfRel.wf) (fun i S' M' a w=>OI n g cp cur L r S M i S' M' a w) 0 ?_ fun i S' M' a w hI=>?_)
 ·exact ⟨rfl,by simp only [size_put];exact hs,by simp only [bO];exact hd,eV,eV,eV,Nat.zero_le _,hup,hm⟩
 clear hm hs hd h0 hup hS
 obtain ⟨rfl,hs,hd,h3,h8,h9,hle,hup,hm⟩:=hI
 refine ak (kG [0] (kR (d:=some 10) (jC (t:=3) (t':=3) (x:=.tmp 9) (y:=(.tmp 8)) (k:=((i:Nat):Int)) (m:=((n:Nat):Int)) h9 h8) hm fun w hm=>?_))
 refine aA ?_
 by_cases hi:i < n
 ·have hdec:decide (((i:Nat):Int) < ((n:Nat):Int))=true:=by simp [hi]
  refine ak (kY (by rw [eP];exact congrArg Value.bool hdec) ?_)
  refine bS (ak (eH (ak (kG [0,1] (kM (v:=.int .i64 (i:Nat)) 11 9 hm fun w hm=>?_)))))
  refine kS (v:=.int .i64 (i:Nat)) 4 11 hm fun w hm=>aA (kG [0,1,2,3,4,5,6,7,8,9,10] (kM (v:=.slice (some ⟨g,0,none⟩) n cp) 12 3 hm fun w hm=>?_))
  refine kM (v:=.int .i64 (i:Nat)) 13 4 hm fun w hm=>kM (v:=.slice (some ⟨g,0,none⟩) n cp) 14 3 hm fun w hm=>kM (v:=.int .i64 (i:Nat)) 15 4 hm fun w hm=>kR (d:=some 16) (wh (t:=22) (x:=.tmp 14) (y:=.tmp 15) (b:=g) (n:=n) (cp:=cp) (i:=i) (sz:=5) eV eV hi af af) hm fun w hm=>?_
  refine kR (v:=.pointer (some ⟨g,i * 5+4,none⟩)) (d:=some 17) (p:=.fieldAddr 32 (.tmp 16) 4) (fun o ho=>bZ (fo:=4) (off:=i * 5) ho eV af) hm fun w hm=>?_
  refine kL (d:=some 18) (t:=30) (x:=.tmp 17) (n:=0) (b:=g) (k:=i * 5+4) eV hm rfl (v:=.slice none 0 0) (hat i hi) fun w hm=>?_
  refine kC (d:=some 19) (args:=#[.tmp 18]) (ats:=#[30]) Try.func42 (ys:=#[.slice none 0 0]) (by rw [Array.map_singleton,eP];rfl) (bG (RH hm _) fun e S2 M2 w hq=>?_)
  obtain ⟨hS2,⟨rfl,hm⟩,dF⟩:=hq
  rw [hS2]
  refine kR (d:=some 20) (wh (t:=22) (x:=.tmp 12) (y:=.tmp 13) (b:=g) (n:=n) (cp:=cp) (i:=i) (sz:=5) eV eV hi af af) hm fun w hm=>?_
  refine kR (v:=.pointer (some ⟨g,i * 5+4,none⟩)) (d:=some 21) (p:=.fieldAddr 32 (.tmp 20) 4) (fun o ho=>bZ (fo:=4) (off:=i * 5) ho eV af) hm fun w hm=>?_
  refine lU ae Try.func27 rfl (d:=none) (t:=30) (x:=.tmp 21) (y:=.tmp 19) eI (n:=0) (b:=g) (k:=i * 5+4) (v:=.slice none 0 0) eV eV hm rfl (Array.getElem?_eq_some_iff.1 (hat i hi)).1 af rfl fun w hm=>?_
  rw [bV]
  rw [RF (hat i hi)] at hm
  refine aA (kG [0,1] (kR (d:=some 22) (mM (t:=3) (t':=3) (x:=.tmp 9) (k:=i) ag eV) hm fun w hm=>?_))
  refine kM (v:=.int .i64 ((i+1:Nat):Int)) 9 22 hm fun w hm=>aA ?_
  exact ⟨i+1,by show n - (i+1) < n - i;omega,rfl,by simp only [size_put];exact hs,by simp only [bO];exact hd,eV,eV,eV,hi,fun c hc=>dF c (hup c hc),hm⟩
 ·have hdec:decide (((i:Nat):Int) < ((n:Nat):Int))=false:=by simp [hi]
  refine ak (kF (by rw [eP];exact congrArg Value.bool hdec) ?_)
  refine lG ?_
  simp only [Bool.false_eq_true,↓reduceIte,if_true]
  refine ak (kG [0,1] (kM (v:=.slice (some ⟨g,0,none⟩) n cp) 23 3 hm fun w hm=>?_))
  refine kS (v:=.slice (some ⟨g,0,none⟩) n cp) 2 23 hm fun w hm=>aA (eG ?_)
  exact fT (pF (t:=2) rfl bJ (y:=.slice (some ⟨g,0,none⟩) n cp) eV fun w1 hr=>⟨rfl,hup,g,cp,cur,rfl,hcp,htk,hm.rely hr⟩)
end
end Go.Proofs.Ytanploaffndpjaa
namespace Go.Blind
open Go.Conc Go.RowKit
section
variable {P:Program}{main:Bool}{fn:FuncId}{kd:CallKind}{Q:aZ}{S:ai}{M:Nat→Prop}{a:Act}{w:World}{ops:Array Oper}{i:Nat}{d:Option Tmp}{rest:List Nat}{l r:List (Nat×Obj)}{p:Op}
def bB (ops:Array Oper)(a:Act)(i:Nat)(d:Option Tmp)(p:Op):Prop:=∃ o,ops[i]?=some o∧o.dst=d∧o.op=p∧Region.wanted o (yielded ops a.tmps)=true
theorem bB.of {j sj:Nat}{b:Bool}(hi:(ops[i]?).map (fun o=>(o.dst,o.op,o.guard))=some (d,p,some (j,b)))(hj:(ops[j]?).bind (·.dst)=some sj)(hs:sj < a.tmps.size)(hv:a.eval (.tmp sj)=.bool b):bB ops a i d p:=by
 obtain ⟨o,ho,hq⟩:=Option.map_eq_some_iff.1 hi
 simp only [Prod.mk.injEq] at hq
 refine ⟨o,ho,hq.1,hq.2.1,?_⟩
 unfold Region.wanted yielded
 rw [hq.2.2]
 simp only [Act.eval,Array.getD_eq_getD_getElem?,Array.getElem?_eq_getElem hs,Option.getD_some] at hv
 simp only [hj,Option.bind_some,Array.getElem?_eq_getElem hs,hv]
 simp
theorem bT (hkd:kd≠.early)(hi:bB ops a i d p){v:Value}(hr:∀ o,o.op=p→dn P a o v)(hm:Mm P M w l r)(h:∀ w1,Mm P M w1 l r→aG P main fn kd ops rest Q S M (a.put d v) w1):aG P main fn kd ops (i :: rest) Q S M a w:=by
 obtain ⟨o,ho,rfl,hop,hw⟩:=hi
 exact dx (aS hkd ho hw (hr o hop) hm h)
theorem kZ (hkd:kd≠.early){t:TypeId}{x:Operand}(hi:bB ops a i d (.load t x)){n b k:Nat}(hx:a.eval x=.pointer (some ⟨b,k,none⟩)){c:Array Value}{e:TypeId}{fz:Nat×Nat}{v:Value}(hm:Mm P M w l r)(hb:(l ++ r)[n]?=some (b,.cells c e fz))(hv:c[k]?=some v)(hud:(P.underlying t).map TypeDesc.isRow=some false)
  (h:∀ w1,Mm P M w1 l r→aG P main fn kd ops rest Q S M (a.put d v) w1):aG P main fn kd ops (i :: rest) Q S M a w:=by
 obtain ⟨o,ho,rfl,hop,hw⟩:=hi
 exact dx (eU hkd ho hw hop hx hm hb hv hud h)
theorem RO {o:Oper}{x:Operand}{name:String}{t:TypeId}{v:Value}{us:Array Value}(hop:o.op=.nilCheck x)(hx:a.eval x=.func (.method name) #[.iface t v] us)(hn:∀ w1,(nilAhead (P.types.size+Made.depth) t v name).run P w1=.ok (some false) w1∧(nilAhead (P.types.size+Made.depth) t v name).events P w1 #[]=#[]):dn P a o (.func (.method name) #[.iface t v] us):=fun w1=>by
 have e:execOp a.eval o=(do
   let q ← program
   let r ← nilAhead (q.types.size+Made.depth) t v name
   if (r != some false)=true then do
    unsupported (.noEntry "op/nilCheck.the method's receiver behind this interface value is a nil pointer, or cannot be seen to be none, and the arguments act or may panic (ledger 612)")
    pure (Next.value (.func (.method name) #[.iface t v] us))
   else pure (Next.value (.func (.method name) #[.iface t v] us))):=by
  unfold execOp
  rw [hop]
  simp only [hx]
  rfl
 rw [e]
 refine ⟨?_,?_⟩
 ·simp [Sem.run_bind,(hn w1).1]
 ·simp [Sem.events_bind,(hn w1).1,(hn w1).2]
def Shut (ops:Array Oper)(f:Array Bool):Prop:=∀ i j,on f i=true→waits ops i j=true→on f j=true
theorem Shut.zero {n:Nat}:Shut ops (Array.replicate n false):=fun i j h=>by
 unfold on at h
 rw [Array.getD_eq_getD_getElem?,Array.getElem?_replicate] at h
 split at h <;> cases h
theorem Shut.step {f:Array Bool}(h:Shut ops f){i:Nat}(hi:i < f.size)(hd:∀ j,waits ops i j=true→on f j=true):Shut ops (f.setIfInBounds i true):=fun x j hx hw=>by
 have mono:on f j=true→on (f.setIfInBounds i true) j=true:=fun hj=>by
  rw [xS j hi];split
  ·rfl
  ·exact hj
 by_cases e:i=x
 ·subst e;exact mono (hd j hw)
 ·rw [xS x hi,if_neg e] at hx
  exact mono (h x j hx hw)
end
end Go.Blind
namespace Go.Proofs.Ytanploaffndpjaa
open Go Go.Blind Go.Conc
theorem Hu:Try.f22.body=some (.seq (.region 0 (opsOf 0 Try.f22.body) false) (.seq (.seq (.region 1 (opsOf 1 Try.f22.body) false) (.cond (.tmp 19) (.seq (.region 2 (opsOf 2 Try.f22.body) false) (.seq (.region 3 (opsOf 3 Try.f22.body) false) .ret)) .skip)) (.seq (.region 4 (opsOf 4 Try.f22.body) true) .ret))):=by kernel_rfl
def RP:List (Option Nat):=[some 23,some 24,some 25,some 26,some 27,some 28,some 29,some 30,some 31,some 32,some 33,some 34,none]
abbrev Gd:Type:=Bool×Int×Int×Int
def qM (cb ab wb v:Nat)(γ:Gd):Nat→Value
 | 0=>.iface 79 (.agg #[.int .i64 (v:Nat)])
 | 1=>.pointer (some ⟨wb,0,none⟩)
 | 2=>.pointer (some ⟨cb,0,none⟩)
 | 3=>.pointer (some ⟨cb,0,none⟩)
 | 4=>.pointer (some ⟨cb,0,none⟩)
 | 5=>.slice (some ⟨ab,0,none⟩) 1 1
 | 6=>.int .i64 ((0:Nat):Int)
 | 7=>.pointer (some ⟨ab,0 * 1,none⟩)
 | 8=>.func (.method "skein/cell.do") #[.iface 79 (.agg #[.int .i64 (v:Nat)])] #[]
 | 9=>.func (.method "skein/cell.do") #[.iface 79 (.agg #[.int .i64 (v:Nat)])] #[]
 | 10=>.iface 79 (.agg #[.int .i64 (v:Nat)])
 | 11=>.agg (aQ γ.1 γ.2.1 γ.2.2.1 γ.2.2.2).toArray
 | _=>undef
section
variable {cb ab:Nat}{hne:cb≠ab}{p:Post}{wb b8 n v:Nat}{k:Int}{cs:List Nat}{wl:List (Nat×Obj)}{M:Nat→Prop}{w:World}{s:Nat}
def Hw (cb ab:Nat)(hne:cb≠ab)(p:Post)(wb b8:Nat)(k:Int)(wl:List (Nat×Obj))(cs:List Nat)(γ:Gd)(ob:Obj)(S:ai)(M:Nat→Prop)(w:World):Prop :=
 ∃ (n':Nat) (q':(cellL cb ab hne).bL) (s0 s':(cellL cb ab hne).σ),S=dP Try.prog (cellL cb ab hne) p n' q' s0∧(cellL cb ab hne).dM q' s0=(s',fP (aQ γ.1 γ.2.1 γ.2.2.1 γ.2.2.2).toArray,if cs.isEmpty then none else some (none,cs))∧Mm Try.prog M w ((p.pb,aR p false false) :: ((wb,bY p k) :: ((b8,ob) :: wl) ++ (cellL cb ab hne).sh s')) []
def Hy (cb ab:Nat)(hne:cb≠ab)(p:Post)(wb b8 s:Nat)(k:Int)(wl:List (Nat×Obj))(cs:List Nat)(S0:ai)(γ:Gd)(f:Array Bool)(S:ai)(M:Nat→Prop)(w:World):Prop :=
 Shut (opsOf 4 Try.f22.body) f∧if on f 11 then Hw cb ab hne p wb b8 k wl cs γ (if on f 12 then dW γ.1 γ.2.1 γ.2.2.1 γ.2.2.2 else dW false 0 0 0) S M w else S=S0∧Mm Try.prog M w ((p.pb,aR p true false) :: ((wb,bY p k) :: ((b8,dW false 0 0 0) :: wl) ++ (cellL cb ab hne).sh s)) []
theorem RQ (bF:p.ob=aR p false false){a0:Act}{Q:aZ}(hs:a0.tmps.size=35)(h0:a0.eval (.tmp 0)=.pointer (some ⟨cb,0,none⟩))(h1:a0.eval (.tmp 1)=.pointer (some ⟨wb,0,none⟩))(h2:a0.eval (.tmp 2)=.int .i64 ((0:Nat):Int))(h3:a0.eval (.tmp 3)=.iface 79 (.agg #[.int .i64 (v:Nat)]))(h8:a0.eval (.tmp 8)=.pointer (some ⟨b8,0,none⟩))(hm:Mm Try.prog M w ((p.pb,aR p true false) :: ((wb,bY p k) :: ((b8,dW false 0 0 0) :: wl) ++ (cellL cb ab hne).sh s)) [])
  (hQ:∀ γ S a w M,a.tmps.size=35→a.defers=a0.defers→a.eval (.tmp 8)=.pointer (some ⟨b8,0,none⟩)→Hw cb ab hne p wb b8 k wl cs γ (dW γ.1 γ.2.1 γ.2.2.1 γ.2.2.2) S M w→Q .normal S M a w) :
  aM Try.prog false 22 .normal (.region 4 (opsOf 4 Try.f22.body) true) Q (dP Try.prog (cellL cb ab hne) p n (none,v :: cs) s) M a0 w:=by
 refine jy af RP (by rw [hs];kernel_rfl) (Γ:=Gd) (qM cb ab wb v) (fun γ f S' M' w=>Hy cb ab hne p wb b8 s k wl cs (dP Try.prog (cellL cb ab hne) p n (none,v :: cs) s) γ f S' M' w) (false,0,0,0) (fun w1 hr=>?_) (fun i hi γ f S' M' a w o ho hg hM hoi az hC=>?_) (fun γ f S' M' a w hall hM hC=>?_)
 ·refine ⟨Shut.zero,?_⟩
  rw [kW]
  simp only [Bool.false_eq_true,if_false]
  exact ⟨trivial,oq (hm.rely hr)⟩
 ·have hsz:f.size=13:=hM.size
  have hw:=jd (a:=a) (ops:=(opsOf 4 Try.f22.body)) hg
  have hlt:i < 13:=hi
  obtain ⟨hsh,hC⟩:=hC
  have hsh':=hsh.step (i:=i) ag az
  by_cases Zd:i < 11
  ·have h11:on f 11=false:=Bool.eq_false_iff.2 fun h=>by
    have d10:=hsh 11 10 h af
    have d7:=hsh 11 7 h af
    have d5:=hsh 7 5 d7 af
    have d4:=hsh 5 4 d5 af
    have d3:=hsh 4 3 d4 af
    have:on f i=true:=by
     rcases (by omega:i=0∨i=1∨i=2∨i=3∨i=4∨i=5∨i=6∨i=7∨i=8∨i=9∨i=10) with rfl | rfl | rfl | rfl | rfl | rfl | rfl | rfl | rfl | rfl | rfl
     ·exact hsh 10 0 d10 af
     ·exact hsh 11 1 h af
     ·exact hsh 3 2 d3 af
     ·exact d3
     ·exact d4
     ·exact d5
     ·exact hsh 7 6 d7 af
     ·exact d7
     ·exact hsh 10 8 d10 af
     ·exact hsh 10 9 d10 af
     ·exact d10
    rw [hoi] at this;cases this
   rw [h11] at hC
   simp only [Bool.false_eq_true,if_false] at hC
   obtain ⟨rfl,hmm⟩:=hC
   have still:∀ w1 x,x=qM cb ab wb v γ i→Mm Try.prog M' w1 ((p.pb,aR p true false) :: ((wb,bY p k) :: ((b8,dW false 0 0 0) :: wl) ++ (cellL cb ab hne).sh s)) []→∃ γ':Gd,a.put o.dst x=a.put o.dst (qM cb ab wb v γ' i)∧(∀ j,on f j=true→qM cb ab wb v γ' j=qM cb ab wb v γ j)∧Hy cb ab hne p wb b8 s k wl cs (dP Try.prog (cellL cb ab hne) p n (none,v :: cs) s) γ' (f.setIfInBounds i true) (dP Try.prog (cellL cb ab hne) p n (none,v :: cs) s) M' w1:=by
    intro w1 x hx hm1
    refine ⟨γ,by rw [hx],fun _ _=>rfl,hsh',?_⟩
    rw [aB (show i≠11 by omega),h11]
    simp only [Bool.false_eq_true,if_false]
    exact ⟨trivial,hm1⟩
   rcases (by omega:i=0∨i=1∨i=2∨i=3∨i=4∨i=5∨i=6∨i=7∨i=8∨i=9∨i=10) with rfl | rfl | rfl | rfl | rfl | rfl | rfl | rfl | rfl | rfl | rfl
   ·exact aS ae ho hw (bK (x:=.tmp 3) (aC af ho) ((hM.slot ae).trans h3)) hmm fun w1=>still w1 _ rfl
   ·exact aS ae ho hw (bK (x:=.tmp 1) (aC af ho) ((hM.slot ae).trans h1)) hmm fun w1=>still w1 _ rfl
   ·exact aS ae ho hw (bK (x:=.tmp 0) (aC af ho) ((hM.slot ae).trans h0)) hmm fun w1=>still w1 _ rfl
   ·exact aS ae ho hw (jA (x:=.tmp 25) (aC af ho) (hM.val 2 25 rfl (az 2 af))) hmm fun w1=>still w1 _ rfl
   ·exact aS ae ho hw (bZ (t:=53) (x:=.tmp 26) (k:=0) (fo:=0) (aC af ho) (hM.val 3 26 rfl (az 3 af)) af) hmm fun w1=>still w1 _ rfl
   ·obtain ⟨jc,hjc⟩:=List.mem_iff_getElem?.1 (show (cb,Obj.cells #[.slice (some ⟨ab,0,none⟩) 1 1] 53 (0,0))∈((p.pb,aR p true false) :: ((wb,bY p k) :: ((b8,dW false 0 0 0) :: wl) ++ (cellL cb ab hne).sh s)) ++ [] by simp [cellL])
    exact eU ae ho hw (t:=51) (x:=.tmp 27) (aC af ho) (n:=jc) (b:=cb) (k:=0) (hM.val 4 27 rfl (az 4 af)) hmm hjc (v:=.slice (some ⟨ab,0,none⟩) 1 1) rfl af fun w1=>still w1 _ rfl
   ·exact aS ae ho hw (bK (x:=.tmp 2) (aC af ho) ((hM.slot ae).trans h2)) hmm fun w1=>still w1 _ rfl
   ·exact aS ae ho hw (wh (t:=51) (x:=.tmp 28) (y:=.tmp 29) (b:=ab) (n:=1) (cp:=1) (i:=0) (sz:=1) (hM.val 5 28 rfl (az 5 af)) (hM.val 6 29 rfl (az 6 af)) ae af af o (aC af ho)) hmm fun w1=>still w1 _ rfl
   ·exact aS ae ho hw (Ar (fn:=.method "skein/cell.do") (first:=#[.tmp 23]) (cap:=#[]) (vs:=#[.iface 79 (.agg #[.int .i64 (v:Nat)])]) (us:=#[]) (by simp [hM.val 0 23 rfl (az 0 af),qM]) ah o (aC af ho)) hmm fun w1=>still w1 _ rfl
   ·exact aS ae ho hw (RO (x:=.tmp 31) (aC af ho) (hM.val 8 31 rfl (az 8 af)) (fun w1=>⟨af,af⟩)) hmm fun w1=>still w1 _ rfl
   ·exact aS ae ho hw (bK (x:=.tmp 23) (aC af ho) (hM.val 0 23 rfl (az 0 af))) hmm fun w1=>still w1 _ rfl
  ·rcases (by omega:i=11∨i=12) with rfl | rfl
   ·rw [hoi] at hC
    simp only [Bool.false_eq_true,if_false] at hC
    obtain ⟨rfl,hmm⟩:=hC
    have h12:on f 12=false:=Bool.eq_false_iff.2 fun h=>by have:=hsh 12 11 h af;rw [hoi] at this;cases this
    have v10:=hM.val 10 33 rfl (az 10 af)
    have v1:=hM.val 1 24 rfl (az 1 af)
    have v7:=hM.val 7 30 rfl (az 7 af)
    refine FC ae ho hw (recv:=.tmp 33) (name:= "skein/cell.do") (args:=#[.tmp 24,.tmp 30]) (ats:=#[69,81]) (aC af ho) v10 (rc:=.agg #[.int .i64 (v:Nat)]) (f:=111) (fun w1=>⟨af,af⟩) Try.func111 af af (ys:=#[.agg #[.int .i64 (v:Nat)],.pointer (some ⟨wb,0,none⟩),.pointer (some ⟨ab,0,none⟩)]) (by simp [v1,v7,qM]) (Ry (cs:=cs) bF hmm) fun e S2 M2 w2 hd=>?_
    obtain ⟨ok,n1,m1,er,n',q',s0,s',rfl,rfl,hl,hm2⟩:=hd
    refine ⟨_,rfl,(ok,n1,m1,er),rfl,fun j hj=>?_,hsh',?_⟩
    ·match j,hj with
     | 11,hj=>rw [hoi] at hj;cases hj
     | 0,_=>rfl
     | 1,_=>rfl
     | 2,_=>rfl
     | 3,_=>rfl
     | 4,_=>rfl
     | 5,_=>rfl
     | 6,_=>rfl
     | 7,_=>rfl
     | 8,_=>rfl
     | 9,_=>rfl
     | 10,_=>rfl
     | n+12,_=>rfl
    ·rw [bP ag,aB ae,h12]
     exact ⟨n',q',s0,s',rfl,hl,hm2⟩
   ·have d11:=az 11 af
    rw [d11,hoi] at hC
    obtain ⟨n',q',s0,s',rfl,hl,hmm⟩:=hC
    simp only [Bool.false_eq_true,if_false] at hmm
    have v11:=hM.val 11 34 rfl d11
    refine qG ae ho hw (t:=48) (x:=.tmp 8) (y:=.tmp 34) (aC af ho) (n:=2) (b:=b8) ((hM.slot ae).trans h8) (vs:=aQ γ.1 γ.2.1 γ.2.2.1 γ.2.2.2) v11 hmm rfl rfl af xU fun w1 hm1=>⟨γ,rfl,fun _ _=>rfl,hsh',?_⟩
    rw [aB ae,d11,bP ag]
    exact ⟨n',q',s0,s',rfl,hl,hm1⟩
 ·obtain ⟨hsh,hC⟩:=hC
  rw [hall 11 ae,hall 12 ae] at hC
  exact hQ γ S' a w M' (hM.fV.trans hs) hM.defers ((hM.slot ae).trans h8) hC
end
end Go.Proofs.Ytanploaffndpjaa

/- Of the proof. -/
import Derived.Test.YtanploaffndpjaaJ14
import Derived.Laws.AppendOwn
import Derived.Conc.AppendEvents3
import Derived.Conc.AppendWalk
import Derived.Conc.SmallLaws
import Derived.Laws.ResultCell
set_option maxRecDepth 100000
set_option linter.unusedSimpArgs false
set_option linter.unusedVariables false
namespace Go.Blind
open Go.Conc
def Row (e:TypeId)(size:Nat)(v:Value)(n:Nat)(xs:List Value)(A:List (Nat×Obj)):Prop :=
 xs.length=n * size∧((v=.slice none 0 0∧n=0∧A=[])∨∃ g cap cur,v=.slice (some ⟨g,0,none⟩) n cap∧A=[(g,.cells cur e (0,0))]∧n≤cap∧cap≤maxLen∧cur.size=cap * size∧cur.toList.take (n * size)=xs)
section
variable {P:Program}{main:Bool}{fn:FuncId}{kd:CallKind}{K:ai→(Nat→Prop)→Act→World→Prop}{S:ai}{M:Nat→Prop}{a:Act}{w:World}{ops:Array Oper}{i:Nat}{o:Oper}{l r A:List (Nat×Obj)}
theorem Mm.sub {l':List (Nat×Obj)}(h:Mm P M w l r)(hs:l'.Sublist l):Mm P M w l' r :=
 ⟨fun p hp=>h.own p (hs.subset hp),h.rd,h.low,h.aX,h.base,h.nodup.sublist ((hs.append (List.Sublist.refl r)).map Prod.fst)⟩
theorem Gw (hkd:kd≠.early)(ho:ops[i]?=some o)(hw:Region.wanted o (yielded ops a.tmps)=true){sx x:Operand}{t:TypeId}(hop:o.op=.call { callee:=.builtin .append,args:=#[sx,x],argTypes:=#[t,t] }){e:TypeId}{z:Value}{size bytes n m sb c:Nat}{v:Value}{xs news:List Value}{eS:TypeId}{fz:Nat×Nat}
  (hs:a.eval sx=v)(hm0:0 < m)(hx:a.eval x=.slice (some ⟨sb,0,none⟩) m c)(ht:P.underlying t=some (.slice e))(hinfo:(P.info? e).map (fun i=>(i.zero,i.size,i.bytes))=some (some z,size,bytes))(hzs:z.cells.size=size)(hpos:0 < size)(hrow:Row e size v n xs A)(hm:Mm P M w (A ++ l) r)(hsb:(sb,Obj.cells news.toArray eS fz)∈l)(hlen:news.length=m * size)(h1:∀ u∈news,u.oneCell'=true)(h63:n+m≤maxLen)(hbytes:(n+m) * bytes≤140737488355328)
  (h:∀ v' A' M' w',Row e size v' (n+m) (xs ++ news) A'→(∀ c,M c→M' c)→Mm P M' w' (A' ++ l) r→K S M' (a.put o.dst v') w'):cK P main fn kd ops i K S M a w:=by
 obtain ⟨inf,hi,hq⟩:=Option.map_eq_some_iff.1 hinfo
 simp only [Prod.mk.injEq] at hq
 obtain ⟨hz,hsz,hby⟩:=hq
 refine jr hkd ho hw fun w1 hR K' hK=>?_
 have hm1:=hm.rely hR
 have hown:w1.ownsRow 0 e size v n xs:=⟨hrow.1,hrow.2.imp (fun q=>⟨q.1,q.2.1⟩) fun ⟨g,cap,cur,q1,q2,q3,q4,q5,q6⟩=>⟨g,cap,cur,q1,Nat.zero_le _,(hm1.own (g,.cells cur e (0,0)) (by simp [q2])).2,q3,q4,q5,q6⟩⟩
 have vP:=hm1.own _ (bR (hsb))
 have hnews:∀ (j:Nat) u,news[j]?=some u→w1.cell? ((⟨sb,0,none⟩:Addr).add j)=some u:=fun j u hj=>by
  rw [Addr.add_mid]
  exact cell_of vP.2 (by simpa using hj)
 have hl1:news.length=m * size:=hlen
 obtain ⟨v',w',hr,hown',hgr,hnil⟩:=run_append_own (P:=P) w1 0 t o.type e inf z size bytes ht hi hz hsz hby hzs hpos v n xs hown ⟨sb,0,none⟩ m c news hl1 hnews h1 h63 hbytes (Nat.zero_le _)
 have Az:(execOp a.eval o).run P w1=.ok (.value v') w':=by
  unfold execOp
  simp only [hop,resolve,invoke,builtin,Sem.run_bind,Sem.run_pure,Result.andThen_ok,List.map_toArray,List.map_cons,List.map_nil,hs,hx,hr]
 have yj:∀ M2:Nat→Prop,(∀ c,M c→M2 c)→∀ ev∈listed P fn a o w1,Mine M2 ev:=fun M2 hM2 ev hev=>by
  have hev:=iG hev
  rw [events_append_op sx x t hop hs hx #[]] at hev
  have key:=events_append_where (P:=P) w1 0 t o.type e inf z size bytes ht hi hz hsz hby v n xs hown ⟨sb,0,none⟩ m c news hl1 hnews h1 h63 hbytes ev hev
  rcases key with ⟨ad,k1,k2⟩ | ⟨mk,rfl,hmn⟩
  ·have hf:full M ad.block:=by
    rcases k2 with ⟨_,k3⟩ | k3
    ·rw [k3];exact vP.1
    ·rcases hrow.2 with ⟨rfl,_,_⟩ | ⟨g,cap,cur,rfl,q2,_⟩
     ·cases k3
     ·have:ad.block=g:=Option.some.inj k3
      rw [this];exact (hm1.own (g,.cells cur e (0,0)) (by simp [q2])).1
   unfold Mine
   rw [k1]
   exact ⟨hf.elim fun q1 q2=>.inl (hM2 _ q1),fun _=>⟨hM2 _ hf.1,hM2 _ hf.2⟩⟩
  ·have:mk=.noRoom:=hmn
   subst this
   trivial
 rw [Az]
 have fresh:∀ (ob:Obj) (cap':Nat),v'=.slice (some ⟨w1.heap.size,0,none⟩) (n+m) cap'→w'=w1.drew.alloc ob→K' (a.put o.dst v') w':=fun ob cap' Gy AA=>by
  have hmd:Mm P M w1.drew (A ++ l) r:=⟨hm1.own,hm1.rd,hm1.low,hm1.aX,hm1.base,hm1.nodup⟩
  have hmn:=hmd.new ob
  have g:=nP (P:=P) (M:=M) (w:=w1.drew) ob
  have hG:dY P M (plus M w1.heap.size) w1 w' (listed P fn a o w1):=by
   rw [AA]
   exact ⟨g.size,g.low,g.aX,g.still,g.iff,g.tape,g.os,g.output,Nat.le_trans (Nat.le_succ _) g.drawn,yj _ fun c hc=>.inl hc⟩
  obtain ⟨cur',AB,hR'⟩:∃ cur',w'.heap[w1.heap.size]?=some (.cells cur' e (0,0))∧Row e size v' (n+m) (xs ++ news) [(w1.heap.size,.cells cur' e (0,0))]:=by
   rcases hown'.2 with ⟨_,q2⟩ | ⟨g',cap,cur,q1,_,q3,q4,q5,q6,q7⟩
   ·omega
   ·rw [Gy] at q1
    cases q1
    exact ⟨cur,q3,hown'.1,.inr ⟨_,_,cur,Gy,rfl,q4,q5,q6,q7⟩⟩
  have bF:ob=.cells cur' e (0,0):=by
   rw [AA] at AB
   have:(w1.drew.alloc ob).heap[w1.heap.size]?=some ob:=by show (w1.heap.push ob)[w1.heap.size]?=_;simp
   rw [this] at AB
   exact Option.some.inj AB
  refine hK _ _ _ hG (h v' _ _ _ hR' (fun c hc=>.inl hc) ?_)
  rw [AA,← bF]
  exact (hmn.perm (l':=[(w1.heap.size,ob)] ++ (A ++ l)) List.perm_append_comm).sub (List.Sublist.append (List.Sublist.refl _) (List.sublist_append_right A l))
 rcases hrow.2 with ⟨rfl,rfl,rfl⟩ | ⟨g,cap,cur,rfl,hA,hnc,hcm,hcs,htk⟩
 ·have hr2:=run_append_nil (P:=P) w1 t o.type e inf z ht hi hz ⟨sb,0,none⟩ m c news (by rw [hl1,hsz]) hnews ag (by simp only [maxLen] at h63;omega) (by rw [hby];have:=hbytes;rw [Nat.zero_add] at this;omega)
  rw [hr] at hr2
  cases hr2
  exact fresh _ (grownCap w1 m 0 e) (by rw [Nat.zero_add]) rfl
 ·by_cases hroom:n+m≤cap
  ·have hg:=(hm1.own (g,.cells cur e (0,0)) (by simp [hA]))
   have hfit:n * inf.size+news.length≤cur.size:=by
    rw [hcs,hsz,hlen,← Nat.add_mul]
    exact Nat.mul_le_mul_right _ hroom
   have hr2:=run_append_room (P:=P) w1 t o.type e inf ht hi g n cap cur hg.2 ⟨sb,0,none⟩ m c news (by rw [hl1,hsz]) hnews h1 hroom hfit
   rw [hr] at hr2
   cases hr2
   subst hA
   obtain ⟨X,hX⟩:∃ X,X=(cur.toList.take (n * inf.size) ++ news ++ cur.toList.drop (n * inf.size+news.length)).toArray:=⟨_,rfl⟩
   rw [← hX] at hown' ⊢
   have hrow':(w1.setRow g X).heap[g]?=some (.cells X e (0,0)):=setRow_heap w1 g cur _ e _ hg.2
   have hne:∀ y,y≠g→(w1.setRow g X).heap[y]?=w1.heap[y]?:=fun y hy=>by
    simp only [World.setRow,Array.getElem?_modify]
    rw [if_neg (fun z=>hy z.symm)]
   have hsize:(w1.setRow g X).heap.size=w1.heap.size:=by simp [World.setRow]
   have lN:∀ k,k < P.globals.size→∃ c e fz,(w1.setRow g X).heap[k]?=some (.cells c e fz):=fun k hk=>by
    by_cases q:k=g
    ·subst q;exact ⟨_,_,_,hrow'⟩
    ·rw [hne k q];exact hm1.aX k hk
   have hR':Row e size (.slice (some ⟨g,0,none⟩) (n+m) cap) (n+m) (xs ++ news) [(g,.cells X e (0,0))]:=by
    rcases hown'.2 with ⟨q1,_⟩ | ⟨g',cap',cur',q1,_,q3,q4,q5,q6,q7⟩
    ·cases q1
    ·cases q1
     rw [hrow'] at q3
     cases q3
     exact ⟨hown'.1,.inr ⟨g,cap,X,rfl,rfl,q4,q5,q6,q7⟩⟩
   refine hK _ _ M ⟨by rw [hsize];exact Nat.le_refl _,fun hl y hy=>by rw [hsize];exact hl y hy,fun _=>lN,fun y _ hn=>hne y fun q=>hn (by rw [q];exact hg.1),fun y=>⟨.inl,fun z=>z.elim id fun z=>absurd z.2 (by rw [hsize];exact Nat.not_lt.2 z.1)⟩,rfl,rfl,rfl,Nat.le_refl _,yj M fun _ hc=>hc⟩ (h _ _ M _ hR' (fun _ hc=>hc) ?_)
   exact hm1.turn (n:=0) (b:=g) (o':=.cells X e (0,0)) rfl hrow' hne hsize lN
  ·have hr2:=run_append_grow (P:=P) w1 t o.type e inf z ht hi hz ⟨g,0,none⟩ n cap xs (by rw [hown.1,hsz]) (hown.cells (g:=g) rfl) ⟨sb,0,none⟩ m c news (by rw [hl1,hsz]) hnews ag (by simp only [maxLen] at h63;omega) (growslice_fits ag (by rw [hby];exact hbytes))
   rw [hr] at hr2
   cases hr2
   exact fresh _ _ rfl rfl
theorem AF (hkd:kd≠.early)(ho:ops[i]?=some o)(hw:Region.wanted o (yielded ops a.tmps)=true){sx x:Operand}{t:TypeId}(hop:o.op=.call { callee:=.builtin .append,args:=#[sx,x],argTypes:=#[t,t] }){e:TypeId}{z:Value}{size bytes n sb c:Nat}{v:Value}{xs news:List Value}{eS:TypeId}{fz:Nat×Nat}
  (hs:a.eval sx=v)(hx:a.eval x=.slice (some ⟨sb,0,none⟩) 1 c)(ht:P.underlying t=some (.slice e))(hinfo:(P.info? e).map (fun i=>(i.zero,i.size,i.bytes))=some (some z,size,bytes))(hzs:z.cells.size=size)(hpos:0 < size)(hrow:Row e size v n xs A)(hm:Mm P M w (A ++ l) r)(hsb:(sb,Obj.cells news.toArray eS fz)∈l)(hlen:news.length=size)(h1:∀ u∈news,u.oneCell'=true)(h63:n+1≤maxLen)(hbytes:(n+1) * bytes≤140737488355328)
  (h:∀ v' A' M' w',Row e size v' (n+1) (xs ++ news) A'→(∀ c,M c→M' c)→Mm P M' w' (A' ++ l) r→K S M' (a.put o.dst v') w'):cK P main fn kd ops i K S M a w:=by
 exact Gw hkd ho hw hop hs ae hx ht hinfo hzs hpos hrow hm hsb (by rw [Nat.one_mul];exact hlen) h1 h63 hbytes h
theorem AJ (hkd:kd≠.early)(ho:ops[i]?=some o)(hw:Region.wanted o (yielded ops a.tmps)=true){t e:TypeId}{y:Operand}{z u:Value}{size:Nat}{cells:Array Value}(hop:o.op=.buildSlice t 1 #[(0,y)])(hu:P.underlying t=some (.slice e))(hinfo:(P.info? e).map (fun i=>(i.zero,i.size))=some (some z,size))(hsmall:1 * size≤2 ^ 24)(hpos:¬ 1 * size=0)(hy:a.eval y=u)(vQ:Instr.fill (fun i=>some (i * size,size)) ((Array.range (1 * size)).map (z.cells[· % z.cells.size]!)) [(0,u)]=some cells)(hm:Mm P M w l r)
  (h:∀ b w1,Mm P (plus M b) w1 (l ++ [(b,.cells cells e (0,0))]) r→K S (plus M b) (a.put o.dst (.slice (some ⟨b,0,none⟩) 1 1)) w1):cK P main fn kd ops i K S M a w:=by
 obtain ⟨inf,hi,hq⟩:=Option.map_eq_some_iff.1 hinfo
 simp only [Prod.mk.injEq] at hq
 have e1:execOp a.eval o=(do pure (Next.value (← Instr.buildSlice t 1 #[(0,u)]))):=by
  unfold execOp
  simp only [hop,List.map_toArray,List.map_cons,List.map_nil,hy]
 have hsz:∀ w1:World,(sizeOf e).run P w1=.ok size w1:=fun w1=>by simp [sizeOf,typeInfo,hi,hq.2]
 have lS:∀ w1:World,(zeroValue e).run P w1=.ok z w1:=fun w1=>by simp [zeroValue,typeInfo,hi,hq.1]
 have hns:¬ 1 * size > 2 ^ 24:=Nat.not_lt.2 hsmall
 have hr:∀ w1:World,(Instr.buildSlice t 1 #[(0,u)]).run P w1=.ok (.slice (some ⟨w1.heap.size,0,none⟩) 1 1) (w1.alloc (.cells cells e (0,0))):=fun w1=>by
  unfold Instr.buildSlice
  simp only [Sem.run_bind,run_underlying hu,Result.andThen_ok,hsz,if_neg hns,if_neg hpos,lS,Sem.run_pure,vQ]
  rfl
 have hev:∀ w1:World,(Instr.buildSlice t 1 #[(0,u)]).events P w1 #[]=#[]:=fun w1=>by
  unfold Instr.buildSlice
  simp only [Sem.events_bind,run_underlying hu,Result.evThen_ok,events_underlying,events_sizeOf,events_zeroValue,hsz,if_neg hns,if_neg hpos,lS,Sem.run_pure,Sem.events_pure,vQ]
  rfl
 refine jr hkd ho hw fun w1 hR K' hK=>?_
 have hm1:=hm.rely hR
 have hlist:listed P fn a o w1=#[]:=listed_nil (by rw [e1,Sem.events_bind,hr];exact hev w1)
 rw [e1,Sem.run_bind,hr]
 exact hK _ _ _ (by rw [hlist];exact nP _) (h w1.heap.size _ (hm1.new _))
theorem Qo {t t':TypeId}{x:Operand}{k:Int}(h0:0 < k)(hk:k < 4611686018427387904)(hx:a.eval x=.int .i64 k):∀ o:Oper,o.op=.binOp .sub t x (.const (.int .i64 1)) t'→dn P a o (.int .i64 (k - 1)):=fun o hop w1=>by
 have e:execOp a.eval o=(do pure (Next.value (← (do eqGuard .sub t x (.const (.int .i64 1)) (.int .i64 k) (.int .i64 1);binOp .sub t (.int .i64 k) (.int .i64 1))))):=by
  unfold execOp
  rw [hop,← hx]
  rfl
 have hb:binOp .sub t (.int .i64 k) (.int .i64 1)=Pure.pure (.int .i64 (k - 1)):=by
  have:IntKind.i64.wrap (k - 1)=k - 1:=wrap_small _ ag ag
  simp [binOp,Op.intArith,this]
 have hg:eqGuard .sub t x (.const (.int .i64 1)) (.int .i64 k) (.int .i64 1)=Pure.pure ():=rfl
 rw [e,hb,hg]
 exact ⟨rfl,rfl⟩
theorem jC {t t':TypeId}{x y:Operand}{k m:Int}(hx:a.eval x=.int .i64 k)(hy:a.eval y=.int .i64 m):∀ o:Oper,o.op=.binOp .lss t x y t'→dn P a o (.bool (decide (k < m))):=fun o hop w1=>by
 have e:execOp a.eval o=(do pure (Next.value (← (do eqGuard .lss t x y (.int .i64 k) (.int .i64 m);binOp .lss t (.int .i64 k) (.int .i64 m))))):=by
  unfold execOp
  rw [hop,← hx,← hy]
 have hb:binOp .lss t (.int .i64 k) (.int .i64 m)=Pure.pure (.bool (decide (k < m))):=by simp [binOp,Op.intCmp]
 have hg:eqGuard .lss t x y (.int .i64 k) (.int .i64 m)=Pure.pure ():=rfl
 rw [e,hb,hg]
 exact ⟨rfl,rfl⟩
theorem AL {t:TypeId}{x:Operand}{v:Bool}(hx:a.eval x=.bool v):∀ o:Oper,o.op=.unOp .not t x→dn P a o (.bool !v):=fun o hop w1=>by
 have e:execOp a.eval o=(do pure (Next.value (← Op.unary .not (.bool v)))):=by
  unfold execOp
  rw [hop,← hx]
 have hb:Op.unary .not (.bool v)=Pure.pure (.bool !v):=by simp [Op.unary]
 rw [e,hb]
 exact ⟨rfl,rfl⟩
end
end Go.Blind
namespace Go.Proofs.Ytanploaffndpjaa
open Go Go.Blind Go.Conc
def aW (bg en ow:Int)(ok:Bool)(n m e:Int):List Value:=[.int .i64 bg,.int .i64 en,.int .i64 ow,.bool ok,.int .i64 n,.int .i64 m,.int .i64 e,.slice none 0 0,.slice none 0 0]
def Gz (bg en ow:Int)(ok:Bool)(n m e:Int):Obj:=.cells (aW bg en ow ok n m e).toArray 48 (0,0)
def E1:List (Option Nat):=[some 6,some 7,some 8,some 9,some 10,some 11,some 12,some 13,some 14,some 15,none,some 16,none,some 17,none]
section
variable {Y:aN}{M:Nat→Prop}{a0:Act}{w:World}{Q:aZ}{l r:List (Nat×Obj)}{bb pb b4:Nat}{left halt:Int}{steps begin own step:Nat}{fell:Bool}{ans:Value}{S:ai}{ok:Bool}{n1 n2 er:Int}{main:Bool}
def vR (bb b4 begin own step:Nat):Nat→Value
 | 0=>.pointer (some ⟨bb,0,none⟩)
 | 1=>.pointer (some ⟨bb,0,none⟩)
 | 2=>.pointer (some ⟨bb,4,none⟩)
 | 3=>.int .i64 begin
 | 4=>.int .i64 step
 | 5=>.pointer (some ⟨bb,0,none⟩)
 | 6=>.pointer (some ⟨bb,0,none⟩)
 | 7=>.pointer (some ⟨bb,5,none⟩)
 | 8=>.int .i64 own
 | 9=>.pointer (some ⟨b4,0,none⟩)
 | 11=>.pointer (some ⟨b4,1,none⟩)
 | 13=>.pointer (some ⟨b4,2,none⟩)
 | _=>undef
def sW (bb pb b4:Nat)(left halt:Int)(steps begin own step:Nat)(fell:Bool)(ans:Value)(ok:Bool)(n1 n2 er:Int)(l:List (Nat×Obj))(x y z:Bool):List (Nat×Obj) :=
 (bb,bD pb left halt steps begin own fell ans) :: (b4,Gz (if x then begin else 0) (if y then step else 0) (if z then own else 0) ok n1 n2 er) :: l
theorem Qp (hs:a0.tmps.size=38)(h0:a0.eval (.tmp 0)=.pointer (some ⟨bb,0,none⟩))(h2:a0.eval (.tmp 2)=.int .i64 step)(h4:a0.eval (.tmp 4)=.pointer (some ⟨b4,0,none⟩))(hm:Mm Try.prog M w (sW bb pb b4 left halt steps begin own step fell ans ok n1 n2 er l false false false) r)
  (hQ:∀ a w,a.tmps.size=38→a.defers=a0.defers→(∀ x,some x∉E1→a.eval (.tmp x)=a0.eval (.tmp x))→Mm Try.prog M w (sW bb pb b4 left halt steps begin own step fell ans ok n1 n2 er l true true true) r→Q .normal S M a w) :
  aM Try.prog main 71 .normal (.region 1 (opsOf 1 Try.f71.body) true) Q S M a0 w:=by
 refine jy af E1 (by rw [hs];kernel_rfl) (Γ:=Unit) (fun _=>vR bb b4 begin own step) (fun _ k S' M' w=>S'=S∧M'=M∧Mm Try.prog M w (sW bb pb b4 left halt steps begin own step fell ans ok n1 n2 er l (on k 10) (on k 12) (on k 14)) r) () (fun w1 hr=>?_) (fun i hi γ k S' M' a w o ho hg hM hoi az hC=>?_) (fun γ k S' M' a w hall hM hC=>?_)
 ·have zz:∀ i,on (Array.replicate (opsOf 1 Try.f71.body).size false) i=false:=fun i=>by
   unfold on
   rw [Array.getD_eq_getD_getElem?,Array.getElem?_replicate]
   split <;> rfl
  rw [zz,zz,zz]
  have hm1:=hm.rely hr
  exact ⟨rfl,rfl,⟨hm1.own,hm1.rd,hm1.low,hm1.aX,hm1.base,hm1.nodup⟩⟩
 ·obtain ⟨rfl,rfl,hC⟩:=hC
  have hsz:k.size=15:=hM.size
  have hw:=jd (a:=a) (ops:=(opsOf 1 Try.f71.body)) hg
  have hlt:i < 15:=hi
  have still:∀ w1 x,i≠10→i≠12→i≠14→x=vR bb b4 begin own step i→Mm Try.prog M' w1 (sW bb pb b4 left halt steps begin own step fell ans ok n1 n2 er l (on k 10) (on k 12) (on k 14)) r→∃ γ':Unit,a.put o.dst x=a.put o.dst (vR bb b4 begin own step i)∧(∀ j,on k j=true→vR bb b4 begin own step j=vR bb b4 begin own step j)∧S'=S'∧M'=M'∧Mm Try.prog M' w1 (sW bb pb b4 left halt steps begin own step fell ans ok n1 n2 er l (on (k.setIfInBounds i true) 10) (on (k.setIfInBounds i true) 12) (on (k.setIfInBounds i true) 14)) r:=by
   intro w1 x i1 i2 i3 hx hm1
   refine ⟨(),by rw [hx],fun _ _=>rfl,rfl,rfl,?_⟩
   rw [aB i1,aB i2,aB i3]
   exact hm1
  rcases (by omega:i=0∨i=1∨i=2∨i=3∨i=4∨i=5∨i=6∨i=7∨i=8∨i=9∨i=10∨i=11∨i=12∨i=13∨i=14) with rfl | rfl | rfl | rfl | rfl | rfl | rfl | rfl | rfl | rfl | rfl | rfl | rfl | rfl | rfl
  ·exact aS ae ho hw (bK (x:=.tmp 0) (aC af ho) ((hM.slot ae).trans h0)) hC fun w1=>still w1 _ ae ae ae rfl
  ·exact aS ae ho hw (jA (x:=.tmp 6) (aC af ho) (hM.val 0 6 rfl (az 0 af))) hC fun w1=>still w1 _ ae ae ae rfl
  ·exact aS ae ho hw (bZ (t:=118) (x:=.tmp 7) (k:=4) (fo:=4) (aC af ho) (hM.val 1 7 rfl (az 1 af)) af) hC fun w1=>still w1 _ ae ae ae rfl
  ·exact eU ae ho hw (t:=3) (x:=.tmp 8) (aC af ho) (n:=0) (b:=bb) (k:=4) (hM.val 2 8 rfl (az 2 af)) hC rfl (v:=.int .i64 begin) rfl af fun w1=>still w1 _ ae ae ae rfl
  ·exact aS ae ho hw (bK (x:=.tmp 2) (aC af ho) ((hM.slot ae).trans h2)) hC fun w1=>still w1 _ ae ae ae rfl
  ·exact aS ae ho hw (bK (x:=.tmp 0) (aC af ho) ((hM.slot ae).trans h0)) hC fun w1=>still w1 _ ae ae ae rfl
  ·exact aS ae ho hw (jA (x:=.tmp 11) (aC af ho) (hM.val 5 11 rfl (az 5 af))) hC fun w1=>still w1 _ ae ae ae rfl
  ·exact aS ae ho hw (bZ (t:=118) (x:=.tmp 12) (k:=5) (fo:=5) (aC af ho) (hM.val 6 12 rfl (az 6 af)) af) hC fun w1=>still w1 _ ae ae ae rfl
  ·exact eU ae ho hw (t:=3) (x:=.tmp 13) (aC af ho) (n:=0) (b:=bb) (k:=5) (hM.val 7 13 rfl (az 7 af)) hC rfl (v:=.int .i64 own) rfl af fun w1=>still w1 _ ae ae ae rfl
  ·exact aS ae ho hw (bZ (t:=48) (x:=.tmp 4) (k:=0) (fo:=0) (aC af ho) ((hM.slot ae).trans h4) af) hC fun w1=>still w1 _ ae ae ae rfl
  ·refine qJ ae Try.func71 rfl ho hw (t:=3) (x:=.tmp 15) (y:=.tmp 9) (aC af ho) (n:=1) (b:=b4) (k:=0) (hM.val 9 15 rfl (az 9 af)) (hM.val 3 9 rfl (az 3 af)) hC rfl (by show 0 < 9;decide) af rfl fun w1 hm1=>⟨(),rfl,fun _ _=>rfl,rfl,rfl,?_⟩
   rw [bP ag,aB ae,aB ae]
   exact hm1
  ·exact aS ae ho hw (bZ (t:=48) (x:=.tmp 4) (k:=1) (fo:=1) (aC af ho) ((hM.slot ae).trans h4) af) hC fun w1=>still w1 _ ae ae ae rfl
  ·refine qJ ae Try.func71 rfl ho hw (t:=3) (x:=.tmp 16) (y:=.tmp 10) (aC af ho) (n:=1) (b:=b4) (k:=1) (hM.val 11 16 rfl (az 11 af)) (hM.val 4 10 rfl (az 4 af)) hC rfl (by show 1 < 9;decide) af rfl fun w1 hm1=>⟨(),rfl,fun _ _=>rfl,rfl,rfl,?_⟩
   rw [aB ae,bP ag,aB ae]
   exact hm1
  ·exact aS ae ho hw (bZ (t:=48) (x:=.tmp 4) (k:=2) (fo:=2) (aC af ho) ((hM.slot ae).trans h4) af) hC fun w1=>still w1 _ ae ae ae rfl
  ·refine qJ ae Try.func71 rfl ho hw (t:=3) (x:=.tmp 17) (y:=.tmp 14) (aC af ho) (n:=1) (b:=b4) (k:=2) (hM.val 13 17 rfl (az 13 af)) (hM.val 8 14 rfl (az 8 af)) hC rfl (by show 2 < 9;decide) af rfl fun w1 hm1=>⟨(),rfl,fun _ _=>rfl,rfl,rfl,?_⟩
   rw [aB ae,aB ae,bP ag]
   exact hm1
 ·obtain ⟨rfl,rfl,hC⟩:=hC
  rw [hall 10 ae,hall 12 ae,hall 14 ae] at hC
  exact hQ a w (hM.fV.trans hs) hM.defers (fun x hx=>hM.slot hx) hC
def E2:List (Option Nat):=[some 18,some 19,some 20,some 21,some 22,some 23,some 24,some 25,some 26,some 27,none]
def nZ (bb:Nat)(ans:Value)(BL:List Value)(γ:Nat×Value):Nat→Value
 | 0=>.pointer (some ⟨bb,0,none⟩)
 | 1=>.pointer (some ⟨bb,0,none⟩)
 | 2=>.pointer (some ⟨bb,0,none⟩)
 | 3=>.pointer (some ⟨bb,7,none⟩)
 | 4=>ans
 | 5=>.agg BL.toArray
 | 6=>.slice (some ⟨γ.1,0,none⟩) 1 1
 | 7=>γ.2
 | 8=>.pointer (some ⟨bb,0,none⟩)
 | 9=>.pointer (some ⟨bb,7,none⟩)
 | _=>undef
theorem Qq {bb:Nat}{ans:Value}{BL:List Value}{γ:Nat×Value}(b:Nat){j:Nat}(h:j≠6):nZ bb ans BL (b,γ.2) j=nZ bb ans BL γ j:=by
 match j,h with
 | 0,_=>rfl
 | 1,_=>rfl
 | 2,_=>rfl
 | 3,_=>rfl
 | 4,_=>rfl
 | 5,_=>rfl
 | 7,_=>rfl
 | 8,_=>rfl
 | 9,_=>rfl
 | j+10,_=>rfl
theorem Qr {bb:Nat}{ans:Value}{BL:List Value}{γ:Nat×Value}(v:Value){j:Nat}(h:j≠7):nZ bb ans BL (γ.1,v) j=nZ bb ans BL γ j:=by
 match j,h with
 | 0,_=>rfl
 | 1,_=>rfl
 | 2,_=>rfl
 | 3,_=>rfl
 | 4,_=>rfl
 | 5,_=>rfl
 | 6,_=>rfl
 | 8,_=>rfl
 | 9,_=>rfl
 | j+10,_=>rfl
structure HE2 (bb pb b4:Nat)(left halt:Int)(steps begin own:Nat)(fell:Bool)(ans:Value)(BL:List Value)(nr:Nat)(xs:List Value)(A l r:List (Nat×Obj))(M:Nat→Prop)(γ:Nat×Value)(f4 f6 f7 f10:Bool)(M':Nat→Prop)(w:World):Prop where
 up:∀ c,M c→M' c
 need:f7=true→f6=true∧f4=true
 last:f10=true→f7=true
 mem:∃ A',(if f7 then Row 48 9 γ.2 (nr+1) (xs ++ BL) A' else A'=A)∧Mm Try.prog M' w (A' ++ ((bb,bD pb left halt steps begin own fell (if f10 then γ.2 else ans)) :: (b4,.cells BL.toArray 48 (0,0)) :: ((if f6 then [(γ.1,.cells BL.toArray 48 (0,0))] else []) ++ l))) r
theorem vS {bg en ow:Int}:∀ x∈aW bg en ow ok n1 n2 er,x.oneCell'=true:=by
 intro x hx
 simp only [aW,List.mem_cons,List.not_mem_nil,or_false] at hx
 rcases hx with rfl | rfl | rfl | rfl | rfl | rfl | rfl | rfl | rfl <;> rfl
theorem Qs {bg en ow:Int}{BL:List Value}(hBL:BL=aW bg en ow ok n1 n2 er){nr:Nat}{xs:List Value}{A:List (Nat×Obj)}(hrow:Row 48 9 ans nr xs A)(hnr:nr < 1000000)(hs:a0.tmps.size=38)(h0:a0.eval (.tmp 0)=.pointer (some ⟨bb,0,none⟩))(h4:a0.eval (.tmp 4)=.pointer (some ⟨b4,0,none⟩))(hm:Mm Try.prog M w (A ++ ((bb,bD pb left halt steps begin own fell ans) :: (b4,.cells BL.toArray 48 (0,0)) :: l)) r)
  (hQ:∀ a w M' v' A' sb,a.tmps.size=38→a.defers=a0.defers→(∀ x,some x∉E2→a.eval (.tmp x)=a0.eval (.tmp x))→(∀ c,M c→M' c)→Row 48 9 v' (nr+1) (xs ++ BL) A'→Mm Try.prog M' w (A' ++ ((bb,bD pb left halt steps begin own fell v') :: (b4,.cells BL.toArray 48 (0,0)) :: ([(sb,.cells BL.toArray 48 (0,0))] ++ l))) r→Q .normal S M' a w) :
  aM Try.prog main 71 .normal (.region 2 (opsOf 2 Try.f71.body) true) Q S M a0 w:=by
 refine jy af E2 (by rw [hs];kernel_rfl) (Γ:=Nat×Value) (fun γ=>nZ bb ans BL γ) (fun γ k S' M' w=>S'=S∧HE2 bb pb b4 left halt steps begin own fell ans BL nr xs A l r M γ (on k 4) (on k 6) (on k 7) (on k 10) M' w) (0,undef) (fun w1 hr=>?_) (fun i hi γ k S' M' a w o ho hg hM hoi az hC=>?_) (fun γ k S' M' a w hall hM hC=>?_)
 ·have zz:∀ i,on (Array.replicate (opsOf 2 Try.f71.body).size false) i=false:=fun i=>by
   unfold on
   rw [Array.getD_eq_getD_getElem?,Array.getElem?_replicate]
   split <;> rfl
  rw [zz,zz,zz,zz]
  have hm1:=hm.rely hr
  exact ⟨rfl,fun _ h=>h,fun h=>(by cases h),fun h=>(by cases h),A,rfl,⟨hm1.own,hm1.rd,hm1.low,hm1.aX,hm1.base,hm1.nodup⟩⟩
 ·obtain ⟨rfl,hC⟩:=hC
  have hsz:k.size=11:=hM.size
  have hw:=jd (a:=a) (ops:=(opsOf 2 Try.f71.body)) hg
  have hlt:i < 11:=hi
  obtain ⟨g1,g2,g3,A',g4,dQ⟩:=hC
  have still:∀ w1 x,i≠6→i≠7→i≠10→x=nZ bb ans BL γ i→Mm Try.prog M' w1 (A' ++ ((bb,bD pb left halt steps begin own fell (if on k 10 then γ.2 else ans)) :: (b4,.cells BL.toArray 48 (0,0)) :: ((if on k 6 then [(γ.1,.cells BL.toArray 48 (0,0))] else []) ++ l))) r→∃ γ',a.put o.dst x=a.put o.dst (nZ bb ans BL γ' i)∧(∀ j,on k j=true→nZ bb ans BL γ' j=nZ bb ans BL γ j)∧S'=S'∧HE2 bb pb b4 left halt steps begin own fell ans BL nr xs A l r M γ' (on (k.setIfInBounds i true) 4) (on (k.setIfInBounds i true) 6) (on (k.setIfInBounds i true) 7) (on (k.setIfInBounds i true) 10) M' w1:=by
   intro w1 x i1 i2 i3 hx hm1
   refine ⟨γ,by rw [hx],fun _ _=>rfl,rfl,g1,fun h=>?_,fun h=>?_,A',?_,?_⟩
   ·rw [aB i2] at h
    rw [aB i1]
    refine ⟨(g2 h).1,?_⟩
    by_cases e:i=4
    ·rw [e,bP ag]
    ·rw [aB e];exact (g2 h).2
   ·rw [aB i3] at h
    rw [aB i2];exact g3 h
   ·rw [aB i2];exact g4
   ·rw [aB i1,aB i3];exact hm1
  obtain ⟨jb,hjb⟩:∃ jb:Nat,((A' ++ ((bb,bD pb left halt steps begin own fell (if on k 10 then γ.2 else ans)) :: (b4,.cells BL.toArray 48 (0,0)) :: ((if on k 6 then [(γ.1,.cells BL.toArray 48 (0,0))] else []) ++ l))) ++ r)[jb]?=some (bb,bD pb left halt steps begin own fell (if on k 10 then γ.2 else ans)):=List.mem_iff_getElem?.1 ah
  obtain ⟨j4,qI⟩:∃ j4:Nat,((A' ++ ((bb,bD pb left halt steps begin own fell (if on k 10 then γ.2 else ans)) :: (b4,.cells BL.toArray 48 (0,0)) :: ((if on k 6 then [(γ.1,.cells BL.toArray 48 (0,0))] else []) ++ l))) ++ r)[j4]?=some (b4,.cells BL.toArray 48 (0,0)):=List.mem_iff_getElem?.1 ah
  rcases (by omega:i=0∨i=1∨i=2∨i=3∨i=4∨i=5∨i=6∨i=7∨i=8∨i=9∨i=10) with rfl | rfl | rfl | rfl | rfl | rfl | rfl | rfl | rfl | rfl | rfl
  ·exact aS ae ho hw (bK (x:=.tmp 0) (aC af ho) ((hM.slot ae).trans h0)) dQ fun w1=>still w1 _ ae ae ae rfl
  ·exact aS ae ho hw (bK (x:=.tmp 0) (aC af ho) ((hM.slot ae).trans h0)) dQ fun w1=>still w1 _ ae ae ae rfl
  ·exact aS ae ho hw (jA (x:=.tmp 19) (aC af ho) (hM.val 1 19 rfl (az 1 af))) dQ fun w1=>still w1 _ ae ae ae rfl
  ·exact aS ae ho hw (bZ (t:=118) (x:=.tmp 20) (k:=7) (fo:=7) (aC af ho) (hM.val 2 20 rfl (az 2 af)) af) dQ fun w1=>still w1 _ ae ae ae rfl
  ·have n7:on k 7=false:=by
    cases hz:on k 7 with
    | false=>rfl
    | true=>have:=(g2 hz).2;rw [hoi] at this;cases this
   have n10:on k 10=false:=by
    cases hz:on k 10 with
    | false=>rfl
    | true=>have:=g3 hz;rw [n7] at this;cases this
   exact eU ae ho hw (t:=46) (x:=.tmp 21) (aC af ho) (n:=jb) (b:=bb) (k:=7) (hM.val 3 21 rfl (az 3 af)) dQ hjb (v:=ans) (by rw [n10];rfl) af fun w1=>still w1 _ ae ae ae rfl
  ·exact pq ae ho hw (t:=48) (x:=.tmp 4) (aC af ho) (n:=j4) (b:=b4) (off:=0) ((hM.slot ae).trans h4) dQ qI (vs:=BL) (fun j v hj=>by simpa using hj) af (by rw [hBL];kernel_rfl) fun w1=>still w1 _ ae ae ae rfl
  ·have n7:on k 7=false:=by
    cases hz:on k 7 with
    | false=>rfl
    | true=>have:=(g2 hz).1;rw [hoi] at this;cases this
   have n10:on k 10=false:=by
    cases hz:on k 10 with
    | false=>rfl
    | true=>have:=g3 hz;rw [n7] at this;cases this
   refine AJ ae ho hw (t:=46) (e:=48) (y:=.tmp 23) (z:=.agg (aQ false 0 0 0).toArray) (u:=.agg BL.toArray) (size:=9) (cells:=BL.toArray) (aC af ho) af af ae ae (hM.val 5 23 rfl (az 5 af)) (by rw [hBL];kernel_rfl) dQ fun sb w1 hm1=>?_
   refine ⟨(sb,γ.2),rfl,fun j hj=>Qq sb fun z=>(by rw [z,hoi] at hj;cases hj),rfl,fun c hc=>.inl (g1 c hc),fun h=>?_,fun h=>?_,A',?_,?_⟩
   ·rw [aB ae,n7] at h;cases h
   ·rw [aB ae,n10] at h;cases h
   ·rw [n7] at g4
    rw [aB ae,n7];exact g4
   ·rw [bP ag,aB ae]
    rw [hoi] at hm1
    refine hm1.perm ?_
    simp only [Bool.false_eq_true,if_false,if_true,List.nil_append,List.append_assoc]
    refine List.Perm.append_left A' ?_
    simp only [List.cons_append]
    exact ((List.perm_append_comm (l₁:=l)).cons _).cons _
  ·have d6:=az 6 af
   have d4:=az 4 af
   have n10:on k 10=false:=by
    cases hz:on k 10 with
    | false=>rfl
    | true=>have:=g3 hz;rw [hoi] at this;cases this
   rw [hoi] at g4
   simp only [Bool.false_eq_true,if_false] at g4
   subst g4
   rw [d6,n10] at dQ
   refine AF ae ho hw (sx:=.tmp 22) (x:=.tmp 24) (t:=46) (aC af ho) (e:=48) (z:=.agg (aQ false 0 0 0).toArray) (size:=9) (bytes:=104) (n:=nr) (sb:=γ.1) (c:=1) (v:=ans) (xs:=xs) (news:=BL) (hM.val 4 22 rfl d4) (hM.val 6 24 rfl d6) af af rfl ae hrow dQ (List.mem_cons_of_mem _ (List.mem_cons_of_mem _ (List.mem_cons_self ..))) (by rw [hBL];rfl) (by rw [hBL];exact vS) (by simp only [maxLen];omega) ag fun v' A2 M2 w2 hR2 hup hm2=>?_
   refine ⟨(γ.1,v'),rfl,fun j hj=>Qr v' fun z=>(by rw [z,hoi] at hj;cases hj),rfl,fun c hc=>hup c (g1 c hc),fun h=>?_,fun h=>?_,A2,?_,?_⟩
   ·rw [aB ae,aB ae];exact ⟨d6,d4⟩
   ·rw [aB ae,n10] at h;cases h
   ·rw [bP ag];exact hR2
   ·rw [aB ae,aB ae,d6,n10];exact hm2
  ·exact aS ae ho hw (jA (x:=.tmp 18) (aC af ho) (hM.val 0 18 rfl (az 0 af))) dQ fun w1=>still w1 _ ae ae ae rfl
  ·exact aS ae ho hw (bZ (t:=118) (x:=.tmp 26) (k:=7) (fo:=7) (aC af ho) (hM.val 8 26 rfl (az 8 af)) af) dQ fun w1=>still w1 _ ae ae ae rfl
  ·have d7:=az 7 af
   rw [d7] at g4
   simp only [if_true] at g4
   obtain ⟨g,cap,cur,ev,rfl,_⟩:∃ g cap cur,γ.2=.slice (some ⟨g,0,none⟩) (nr+1) cap∧A'=[(g,.cells cur 48 (0,0))]∧True:=by
    rcases g4.2 with ⟨_,q,_⟩ | ⟨g,cap,cur,q1,q2,_⟩
    ·omega
    ·exact ⟨g,cap,cur,q1,q2,trivial⟩
   rw [hoi] at dQ
   refine qJ ae Try.func71 rfl ho hw (t:=46) (x:=.tmp 27) (y:=.tmp 25) (aC af ho) (n:=1) (b:=bb) (k:=7) (v:=γ.2) (hM.val 9 27 rfl (az 9 af)) (hM.val 7 25 rfl d7) dQ rfl (by show 7 < 8;decide) af (by rw [ev];rfl) fun w1 hm1=>?_
   refine ⟨γ,rfl,fun _ _=>rfl,rfl,g1,fun h=>?_,fun h=>?_,[(g,.cells cur 48 (0,0))],?_,?_⟩
   ·rw [aB ae,aB ae];exact g2 d7
   ·rw [aB ae];exact d7
   ·rw [aB ae,d7];exact g4
   ·rw [bP ag,aB ae];exact hm1
 ·obtain ⟨rfl,g1,g2,g3,A',g4,dQ⟩:=hC
  rw [hall 7 ae] at g4
  rw [hall 6 ae,hall 10 ae] at dQ
  exact hQ a w M' γ.2 A' γ.1 (hM.fV.trans hs) hM.defers (fun x hx=>hM.slot hx) g1 g4 dQ
end
theorem Qt:Try.f71.body=some (.seq (.region 0 (opsOf 0 Try.f71.body) false) (.seq (.region 1 (opsOf 1 Try.f71.body) true) (.seq (.region 2 (opsOf 2 Try.f71.body) true) (.seq (.region 3 (opsOf 3 Try.f71.body) false) (.region 4 (opsOf 4 Try.f71.body) false))))):=by kernel_rfl
section
variable {M:Nat→Prop}{a:Act}{w:World}{Q:aZ}{l r A:List (Nat×Obj)}{bb pb b4 i:Nat}{left halt:Int}{steps begin own step nr:Nat}{fell:Bool}{ans:Value}{S:ai}{ok:Bool}{n1 n2 er:Int}{main:Bool}{xs:List Value}
theorem Qu (hs:a.tmps.size=38)(h1:a.eval (.tmp 0)=.pointer (some ⟨bb,0,none⟩))(hm:Mm Try.prog M w l r)(hb:l[i]?=some (bb,bD pb left halt steps begin own fell ans))(hl0:0 < left)(hl1:left < 4611686018427387904)(hQ:∀ a' w',a'.tmps.size=38→a'.defers=a.defers→(∀ x:Nat,x < 5→a'.eval (.tmp x)=a.eval (.tmp x))→Mm Try.prog M w' (l.set i (bb,bD pb (left - 1) halt steps begin own fell ans)) r→Q .normal S M a' w') :
  aM Try.prog main 71 .normal (.region 3 (opsOf 3 Try.f71.body) false) Q S M a w:=by
 refine kG [0,1,2,3,4,5,6,7] (kM (v:=.pointer (some ⟨bb,0,none⟩)) 28 0 hm fun w hm=>?_)
 refine kN 29 28 hm fun w hm=>kP (fo:=1) (off:=0) 30 118 29 1 hm fun w hm=>kL (d:=some 31) (t:=3) (x:=.tmp 30) (n:=i) (b:=bb) (k:=1) eV hm (by rw [List.getElem?_append_left (List.getElem?_eq_some_iff.1 hb).1];exact hb) (v:=.int .i64 left) rfl fun w hm=>?_
 refine kR (d:=some 32) (Qo (t:=3) (t':=3) (x:=.tmp 31) (k:=left) hl0 hl1 eV) hm fun w hm=>?_
 refine kN 33 28 hm fun w hm=>kP (fo:=1) (off:=0) 34 118 33 1 hm fun w hm=>lU ae Try.func71 rfl (d:=none) (t:=3) (x:=.tmp 34) (y:=.tmp 32) eI (n:=i) (b:=bb) (k:=1) (v:=.int .i64 (left - 1)) eV eV hm hb (by show 1 < 8;decide) af rfl fun w hm=>?_
 refine aA (hQ _ _ bJ (by simp only [bO,bV]) (fun x hx=>?_) hm)
 rw [bV,eP,eP,eP,eP,eP,eP,eP,if_neg ag,if_neg ag,if_neg ag,if_neg ag,if_neg ag,if_neg ag,if_neg ag]
theorem Qv (hs:a.tmps.size=38)(h1:a.eval (.tmp 0)=.pointer (some ⟨bb,0,none⟩))(hm:Mm Try.prog M w l r)(hb:l[i]?=some (bb,bD pb left halt steps begin own fell ans))(hQ:∀ a' w',a'.tmps.size=38→a'.defers=a.defers→(∀ x:Nat,x < 5→a'.eval (.tmp x)=a.eval (.tmp x))→Mm Try.prog M w' (l.set i (bb,bD pb left halt steps begin 0 fell ans)) r→Q .normal S M a' w') :
  aM Try.prog main 71 .normal (.region 4 (opsOf 4 Try.f71.body) false) Q S M a w:=by
 refine kG [0,1,2,3] (kM (v:=.pointer (some ⟨bb,0,none⟩)) 35 0 hm fun w hm=>?_)
 refine kN 36 35 hm fun w hm=>kP (fo:=5) (off:=0) 37 118 36 5 hm fun w hm=>lU ae Try.func71 rfl (d:=none) (t:=3) (x:=.tmp 37) (y:=.const (.int .i64 0)) eI (n:=i) (b:=bb) (k:=5) (v:=.int .i64 0) eV rfl hm hb (by show 5 < 8;decide) af rfl fun w hm=>?_
 refine aA (hQ _ _ bJ (by simp only [bO,bV]) (fun x hx=>?_) hm)
 rw [bV,eP,eP,eP,if_neg ag,if_neg ag,if_neg ag]
theorem Qw (hrow:Row 48 9 ans nr xs A)(hnr:nr < 1000000)(hl0:0 < left)(hl1:left < 4611686018427387904)(hm:Mm Try.prog M w (A ++ ((bb,bD pb left halt steps begin own fell ans) :: l)) r) :
  bn Try.prog main 71 #[.pointer (some ⟨bb,0,none⟩),.agg (aQ ok n1 n2 er).toArray,.int .i64 step] (fun e S' M' w'=>e=.returned (.tuple #[])∧S'=S∧(∀ c,M c→M' c)∧∃ v' A' l',Row 48 9 v' (nr+1) (xs ++ aW begin step own ok n1 n2 er) A'∧Mm Try.prog M' w' (A' ++ ((bb,bD pb (left - 1) halt steps begin 0 fell v') :: (l' ++ l))) r) S M w:=by
 refine eQ Try.func71 Qt ?_
 obtain ⟨a,ha,hs,hd,he⟩:=entered Try.func71 #[.pointer (some ⟨bb,0,none⟩),.agg (aQ ok n1 n2 er).toArray,.int .i64 step] .normal (N:=38) rfl (by show 3≤38;decide)
 have h0:=he 0 _ rfl
 have h1:=he 1 _ rfl
 have h2:=he 2 _ rfl
 rw [← ha]
 clear ha he
 refine ak (kG [0] (je ae (d:=some 4) (t:=48) (x:=.tmp 1) eI (cells:=(aQ ok n1 n2 er).toArray) (by rw [h1];rfl) hm fun b4 w hm=>?_))
 refine aA ?_
 have e4:∀ x:Nat,(a.put (some 4) (.pointer (some ⟨b4,0,none⟩))).eval (.tmp x)=if x=4 then .pointer (some ⟨b4,0,none⟩) else a.eval (.tmp x):=fun x=>eP
 have hm2:Mm Try.prog (plus M b4) w (sW bb pb b4 left halt steps begin own step fell ans ok n1 n2 er (A ++ l) false false false) r:=by
  refine hm.perm ?_
  show ((A ++ ((bb,bD pb left halt steps begin own fell ans) :: l)) ++ [(b4,dW ok n1 n2 er)]).Perm ((bb,_) :: (b4,dW ok n1 n2 er) :: (A ++ l))
  refine List.Perm.trans List.perm_append_comm ?_
  refine (List.Perm.cons _ List.perm_middle).trans (List.Perm.swap _ _ _)
 refine ak (Qp (by rw [size_put];exact hs) ((e4 0).trans h0) ((e4 2).trans h2) (e4 4) hm2 fun a' w' p1 p2 p3 hm=>?_)
 have mO:Mm Try.prog (plus M b4) w' (A ++ ((bb,bD pb left halt steps begin own fell ans) :: (b4,.cells (aW begin step own ok n1 n2 er).toArray 48 (0,0)) :: l)) r:=by
  refine hm.perm ?_
  show ((bb,_) :: (b4,Gz begin step own ok n1 n2 er) :: (A ++ l)).Perm _
  exact (((List.perm_middle (l₁:=A) (l₂:=l)).symm).cons _).trans (List.perm_middle).symm
 refine ak (Qs rfl hrow hnr p1 ((p3 0 ae).trans ((e4 0).trans h0)) ((p3 4 ae).trans (e4 4)) mO fun a2 w2 M2 v' A' sb q1 q2 q3 hup hR2 hm=>?_)
 obtain ⟨ga,hA⟩:∃ ga,A'=[ga]:=by
  rcases hR2.2 with ⟨_,q,_⟩ | ⟨g,cap,cur,_,q2,_⟩
  ·omega
  ·exact ⟨_,q2⟩
 subst hA
 have g0:a2.eval (.tmp 0)=.pointer (some ⟨bb,0,none⟩):=(q3 0 ae).trans ((p3 0 ae).trans ((e4 0).trans h0))
 refine ak (Qu (i:=1) q1 g0 hm rfl hl0 hl1 fun a3 w3 r1 r2 r3 hm=>?_)
 refine Qv (i:=1) r1 ((r3 0 ae).trans g0) hm rfl fun a4 w4 s1 s2 s3 hm=>?_
 refine mI (iZ rfl ?_ fun w1 hr=>⟨rfl,rfl,fun c hc=>hup c (.inl hc),v',[ga],[(b4,.cells (aW begin step own ok n1 n2 er).toArray 48 (0,0)),(sb,.cells (aW begin step own ok n1 n2 er).toArray 48 (0,0))],hR2,?_⟩)
 ·rw [s2,r2,q2,p2,bO];exact hd
 ·exact hm.rely hr
end
def Qx:List (Option Nat):=[some 65,some 66,some 67,some 68,some 69,some 70,some 71,some 72]
section
variable {Y:aN}{Fin:bH}{s:Ring}{b:aJ}{M:Nat→Prop}{a0:Act}{w:World}{l r A:List (Nat×Obj)}{bb pb b4:Nat}{left halt:Int}{steps begin own:Nat}{fell:Bool}{ans:Value}{arr j n k nr:Nat}{ws:List (Wk Y)}{kw:Wk Y}{q:Y.bL}{σ:Y.σ}{ok:Bool}{n1 n2 er:Int}{xs:List Value}{Q:aZ}
def sZ (bb b4 R k:Nat)(an:List Value):Nat→Value
 | 0=>.pointer (some ⟨bb,0,none⟩)
 | 1=>.pointer (some ⟨b4,2,none⟩)
 | 2=>.agg an.toArray
 | 3=>.pointer (some ⟨R,0,none⟩)
 | 4=>.pointer (some ⟨R,0,none⟩)
 | 5=>.pointer (some ⟨R,4,none⟩)
 | 6=>.int .i64 k
 | _=>.tuple #[]
def yl (bb pb:Nat)(left halt:Int)(steps begin own k:Nat)(fell:Bool)(ok:Bool)(n1 n2 er:Int)(nr:Nat)(xs:List Value)(l r:List (Nat×Obj))(M':Nat→Prop)(w:World):Prop :=
 ∃ v' A' l',Row 48 9 v' (nr+1) (xs ++ aW begin k own ok n1 n2 er) A'∧Mm Try.prog M' w (A' ++ ((bb,bD pb (left - 1) halt steps begin 0 fell v') :: (l' ++ l))) r
theorem Qy (hrow:Row 48 9 ans nr xs A)(hnr:nr < 1000000)(hl0:0 < left)(hl1:left < 4611686018427387904)(hs:a0.tmps.size=73)(h0:a0.eval (.tmp 0)=.pointer (some ⟨b.R,0,none⟩))(h1:a0.eval (.tmp 1)=.pointer (some ⟨bb,0,none⟩))(h4:a0.eval (.tmp 4)=.pointer (some ⟨b4,0,none⟩))(hE:s.E=(G0 b 0).env Try.prog)(hf:b.dL)(hq:b.q=2)(hv:b.c[4]?=some (.int .i64 (k:Nat)))(hb4:(b4,iJ (fP (aQ ok n1 n2 er).toArray))∈l)(hm:Mm Try.prog M w (A ++ ((bb,bD pb left halt steps begin own fell ans) :: l)) r)
  (hQ:∀ a w M',a.tmps.size=73→a.defers=a0.defers→(∀ c,M c→M' c)→yl bb pb left halt steps begin own k fell ok n1 n2 er nr xs l r M' w→Q .normal (aK Try.prog Fin s) M' a w) :
  aM Try.prog true 45 .normal (.region 11 (opsOf 11 Try.f45.body) true) Q (aK Try.prog Fin s) M a0 w:=by
 refine jy af Qx (by rw [hs];kernel_rfl) (Γ:=Unit) (fun _=>sZ bb b4 b.R k (aQ ok n1 n2 er)) (fun _ f S' M' w=>S'=aK Try.prog Fin s∧(∀ c,M c→M' c)∧if on f 7 then yl bb pb left halt steps begin own k fell ok n1 n2 er nr xs l r M' w else Mm Try.prog M' w (A ++ ((bb,bD pb left halt steps begin own fell ans) :: l)) r) () (fun w1 hr=>?_) (fun i hi γ f S' M' a w o ho hg hM hoi az hC=>?_) (fun γ f S' M' a w hall hM hC=>?_)
 ·have zz:on (Array.replicate (opsOf 11 Try.f45.body).size false) 7=false:=by
   unfold on
   rw [Array.getD_eq_getD_getElem?,Array.getElem?_replicate]
   split <;> rfl
  rw [zz]
  simp only [Bool.false_eq_true,if_false]
  have hm1:=hm.rely hr
  exact ⟨trivial,fun _ h=>h,⟨hm1.own,hm1.rd,hm1.low,hm1.aX,hm1.base,hm1.nodup⟩⟩
 ·obtain ⟨rfl,hup,hC⟩:=hC
  have hsz:f.size=8:=hM.size
  have hw:=jd (a:=a) (ops:=(opsOf 11 Try.f45.body)) hg
  have hlt:i < 8:=hi
  obtain ⟨L,dO,hback,j4,qI⟩:∃ L,Mm Try.prog M' w L r∧(∀ w1,Mm Try.prog M' w1 L r→if on f 7 then yl bb pb left halt steps begin own k fell ok n1 n2 er nr xs l r M' w1 else Mm Try.prog M' w1 (A ++ ((bb,bD pb left halt steps begin own fell ans) :: l)) r)∧∃ j4:Nat,(L ++ r)[j4]?=some (b4,iJ (fP (aQ ok n1 n2 er).toArray)):=by
   cases h7:on f 7 with
   | false =>
    rw [h7] at hC
    exact ⟨_,hC,fun w1 h=>h,List.mem_iff_getElem?.1 (by simp [hb4])⟩
   | true =>
    rw [h7] at hC
    obtain ⟨v',A',l',k1,k2⟩:=hC
    exact ⟨_,k2,fun w1 h=>⟨v',A',l',k1,h⟩,List.mem_iff_getElem?.1 (by simp [hb4])⟩
  have still:∀ w1 x,i≠7→x=sZ bb b4 b.R k (aQ ok n1 n2 er) i→Mm Try.prog M' w1 L r→∃ γ':Unit,a.put o.dst x=a.put o.dst (sZ bb b4 b.R k (aQ ok n1 n2 er) i)∧(∀ j,on f j=true→sZ bb b4 b.R k (aQ ok n1 n2 er) j=sZ bb b4 b.R k (aQ ok n1 n2 er) j)∧aK Try.prog Fin s=aK Try.prog Fin s∧(∀ c,M c→M' c)∧if on (f.setIfInBounds i true) 7 then yl bb pb left halt steps begin own k fell ok n1 n2 er nr xs l r M' w1 else Mm Try.prog M' w1 (A ++ ((bb,bD pb left halt steps begin own fell ans) :: l)) r:=by
   intro w1 x i7 hx hm1
   refine ⟨(),by rw [hx],fun _ _=>rfl,rfl,hup,?_⟩
   rw [aB i7]
   exact hback w1 hm1
  rcases (by omega:i=0∨i=1∨i=2∨i=3∨i=4∨i=5∨i=6∨i=7) with rfl | rfl | rfl | rfl | rfl | rfl | rfl | rfl
  ·exact aS ae ho hw (bK (x:=.tmp 1) (aC af ho) ((hM.slot ae).trans h1)) dO fun w1=>still w1 _ ae rfl
  ·exact aS ae ho hw (bZ (t:=133) (x:=.tmp 4) (k:=2) (fo:=2) (aC af ho) ((hM.slot ae).trans h4) af) dO fun w1=>still w1 _ ae rfl
  ·exact pq ae ho hw (t:=48) (x:=.tmp 66) (aC af ho) (n:=j4) (b:=b4) (off:=2) (hM.val 1 66 rfl (az 1 af)) dO qI (vs:=aQ ok n1 n2 er) (fun j v hj=>by
    match j,hj with
    | 0,hj=>exact hj
    | 1,hj=>exact hj
    | 2,hj=>exact hj
    | 3,hj=>exact hj
    | 4,hj=>exact hj
    | 5,hj=>exact hj
    | 6,hj=>exact hj
    | 7,hj=>exact hj
    | 8,hj=>exact hj
    | j+9,hj=>simp [aQ] at hj) af af fun w1=>still w1 _ ae rfl
  ·exact aS ae ho hw (bK (x:=.tmp 0) (aC af ho) ((hM.slot ae).trans h0)) dO fun w1=>still w1 _ ae rfl
  ·exact aS ae ho hw (jA (x:=.tmp 68) (aC af ho) (hM.val 3 68 rfl (az 3 af))) dO fun w1=>still w1 _ ae rfl
  ·exact aS ae ho hw (bZ (t:=99) (x:=.tmp 69) (k:=3) (fo:=4) (aC af ho) (hM.val 4 69 rfl (az 4 af)) af) dO fun w1=>still w1 _ ae rfl
  ·refine su (zZ ae ho hw (ad:=⟨b.R,4,none⟩) (v:=.int .i64 (k:Nat)) (fun w1 hc=>yc Try.func45 rfl (aC (p:=.load 3 (.tmp 70)) af ho) (hM.val 5 70 rfl (az 5 af)) af w1 hc) ?_) (xP (G:=G0 b 0) hE ⟨hf.shut,hf.room⟩ (by show 4≠b.q;omega) (by show 4≠b.q+1;omega) hv)
   exact fun w1 hr=>still w1 _ ae rfl (dO.rely hr)
  ·rw [hoi] at hC
   simp only [Bool.false_eq_true,if_false] at hC
   have v0:=hM.val 0 65 rfl (az 0 af)
   have v2:=hM.val 2 67 rfl (az 2 af)
   have v6:=hM.val 6 71 rfl (az 6 af)
   refine nU ae ho hw (args:=#[.tmp 65,.tmp 67,.tmp 71]) (ats:=#[116,48,3]) (aC af ho) Try.func71 af af (ys:=#[.pointer (some ⟨bb,0,none⟩),.agg (aQ ok n1 n2 er).toArray,.int .i64 k]) (by simp [v0,v2,v6,sZ]) (Qw hrow hnr hl0 hl1 hC) fun e S2 M2 w2 hd=>?_
   obtain ⟨rfl,rfl,dF,v',A',l',k1,k2⟩:=hd
   refine ⟨_,rfl,(),rfl,fun _ _=>rfl,rfl,fun c hc=>dF c (hup c hc),?_⟩
   rw [bP ag]
   exact ⟨v',A',l',k1,k2⟩
 ·obtain ⟨rfl,hup,hC⟩:=hC
  rw [hall 7 ae] at hC
  exact hQ a w M' (hM.fV.trans hs) hM.defers hup hC
theorem Qz (hE:s.E=(G0 b 0).env Try.prog)(hf:b.dL)(hq2:b.q=2)(hz:b.c.size=5)(hv1:b.c[1]?=some (.chan (some arr)))(hv4:b.c[4]?=some (.int .i64 (k:Nat)))(hk:k < 4611686018427387904)(hks:steps < 4611686018427387904)(hko:own < 4611686018427387904)(hc:dD Try.prog Y arr s ws)(hj:ws[j]?=some kw)(hst:kw.st=some q)(hn:kw.n=n+1)(hR:kw.p.R=b.R)(hpq:kw.p.q=b.q)(hjn:j+1≤b.n)(bF:kw.p.ob=aR kw.p false false){σ':Y.σ}{nx:Option Y.bL}(hl:Y.dM q σ=(σ',fP (aQ ok n1 n2 er).toArray,nx))
  (hrow:Row 48 9 ans nr xs A)(hnr:nr < 1000000)(hl0:0 < left)(hl1:left < 4611686018427387904)(hm:Mm Try.prog M w (((bb,bD kw.p.pb left halt steps begin own fell ans) :: (A ++ l)) ++ Y.sh σ) ((kw.p.pb,kw.p.ob) :: r))(hh:M (2 * kw.p.pb+1)) :
  bn Try.prog true 45 #[.pointer (some ⟨b.R,0,none⟩),.pointer (some ⟨bb,0,none⟩)] (fun e S' M' w'=>e=.returned (.tuple #[])∧S'=aK Try.prog Fin (({ s with E:=(G0 (b.set 4 (.int .i64 ((k+1:Nat):Int))) 0).env Try.prog }:Ring).seat (j+1) (iq kw.p nx) (kU Try.prog Y kw.p n nx))∧(∀ c,M c→¬ fw Y.B kw.p.pb c→M' c)∧(nx.isSome=true→M' (2 * kw.p.pb+1))∧∃ v' A' l',Row 48 9 v' (nr+1) (xs ++ aW ((if own=0 then k+1 else begin:Nat):Int) ((k+1:Nat):Int) ((own+1:Nat):Int) ok n1 n2 er) A'∧Mm Try.prog M' w' (((bb,bD kw.p.pb (left - 1) halt (steps+1) (if own=0 then k+1 else begin) 0 fell v') :: (A' ++ (l ++ l'))) ++ Y.sh σ') (Rx kw.p r nx)) (aK Try.prog Fin s) M w:=by
 refine eQ Try.func45 Gu ?_
 obtain ⟨a,ha,hs,hd,he⟩:=entered Try.func45 #[.pointer (some ⟨b.R,0,none⟩),.pointer (some ⟨bb,0,none⟩)] .normal (N:=73) rfl (by show 2≤73;decide)
 rw [← ha]
 refine Gv (x:=(σ',fP (aQ ok n1 n2 er).toArray,nx)) hs (he 0 _ rfl) (he 1 _ rfl) hE hf hq2 hz hv1 hv4 hk hks hko hc hj hst hn hR hpq hjn bF hl rfl (fun v hv=>?_) hm hh fun a w M' b4 p1 p2 p3 p4 p5 g1 g2 hm=>?_
 ·have:v∈(Value.bool true) :: (Value.bool false) :: aQ ok n1 n2 er:=by
   have hv:v∈#[Value.bool true,.bool false] ++ (aQ ok n1 n2 er).toArray:=hv
   simpa using hv
  rcases List.mem_cons.1 this with rfl | this
  ·rfl
  rcases List.mem_cons.1 this with rfl | this
  ·rfl
  ·exact xU v this
 obtain ⟨i4,hi4⟩:∃ i4:Nat,(((((bb,bD kw.p.pb left halt (steps+1) (if own=0 then k+1 else begin) (own+1) fell ans) :: (A ++ l)) ++ [(b4,iJ (fP (aQ ok n1 n2 er).toArray))]) ++ Y.sh σ') ++ Rx kw.p r nx)[i4]?=some (b4,iJ (fP (aQ ok n1 n2 er).toArray)):=List.mem_iff_getElem?.1 ah
 refine ak (Gl p1 p5 hm hi4 (e:=false) rfl fun a w p1 q2 ym q4 hm=>?_)
 refine kF q4 ?_
 refine ak (Gm p1 ((ym 4 ae).trans p5) hm hi4 (e:=true) rfl fun a w p1 r2 r3 q4 hm=>?_)
 refine kY q4 ?_
 have hm2:Mm Try.prog M' w (A ++ ((bb,bD kw.p.pb left halt (steps+1) (if own=0 then k+1 else begin) (own+1) fell ans) :: (l ++ ([(b4,iJ (fP (aQ ok n1 n2 er).toArray))] ++ Y.sh σ')))) (Rx kw.p r nx):=by
  refine hm.perm ?_
  simp only [List.cons_append,List.append_assoc]
  exact List.perm_middle.symm
 refine Qy (s:=(({ s with E:=(G0 (b.set 4 (.int .i64 ((k+1:Nat):Int))) 0).env Try.prog }:Ring).seat (j+1) (iq kw.p nx) (kU Try.prog Y kw.p n nx))) (b:=b.set 4 (.int .i64 ((k+1:Nat):Int))) (k:=k+1) hrow hnr hl0 hl1 p1 ((r3 0 ae).trans ((ym 0 ae).trans p3)) ((r3 1 ae).trans ((ym 1 ae).trans p4)) ((r3 4 ae).trans ((ym 4 ae).trans p5)) rfl (vO hf _ _) hq2 ?_ (bR ((aO ((List.mem_singleton.2 rfl))))) hm2 fun a w M2 s1 s2 hup hbk=>?_
 ·show (b.c.setIfInBounds 4 _)[4]?=_
  rw [Array.getElem?_setIfInBounds_self_of_lt ag]
 ·obtain ⟨v',A',l',k1,k2⟩:=hbk
  refine mI (iZ rfl (s2.trans (r2.trans (q2.trans (p2.trans hd)))) fun w1 hr=>⟨rfl,rfl,fun c c1 c2=>hup c (g1 c c1 c2),fun h=>hup _ (g2 h),v',A',l' ++ [(b4,iJ (fP (aQ ok n1 n2 er).toArray))],k1,?_⟩)
  refine (k2.rely hr).perm ?_
  refine List.perm_middle.trans ?_
  simp only [List.cons_append,List.append_assoc]
  refine List.Perm.cons _ (List.Perm.append_left A' ?_)
  rw [← List.append_assoc,← List.append_assoc]
  exact List.perm_append_comm.append_right _
end
theorem QA:Try.f32.body=some (.seq (.region 0 (opsOf 0 Try.f32.body) false) (.seq (.seq (.region 1 (opsOf 1 Try.f32.body) false) (.block 0 (.loop (.seq (.region 2 (opsOf 2 Try.f32.body) false) (.seq (.cond (.tmp 11) .skip (.exit 0)) (.seq (.block 1 (.seq (.region 3 (opsOf 3 Try.f32.body) false) (.seq (.region 4 (opsOf 4 Try.f32.body) false) (.cond (.tmp 15) (.seq (.region 5 (opsOf 5 Try.f32.body) false) .ret) .skip)))) (.region 6 (opsOf 6 Try.f32.body) false))))))) (.seq (.region 7 (opsOf 7 Try.f32.body) false) .ret))):=by kernel_rfl
theorem pF {P:Program}{f:FuncId}{aD:Func}{R:fu}{S:ai}{M:Nat→Prop}{a:Act}{w:World}{t:Tmp}(hr:aD.results=#[.tmp t])(hd:a.defers=[]){y:Value}(hy:a.eval (.tmp t)=y)(h:∀ w1,ay P M w w1→R (.returned y) S M w1):kH P f aD R S M a w:=Oe hr hd hy h
structure Bk where
 bb:Nat
 pb:Nat
 left:Int
 halt:Int
 steps:Nat
 begin:Nat
 own:Nat
 fell:Bool
 ans:Value
def Bk.obj (k:Bk):Obj:=bD k.pb k.left k.halt k.steps k.begin k.own k.fell k.ans
def Bk.ready (k:Bk):Bool:=nX k.left k.halt k.steps k.fell
structure AM (bs:List Bk)(ab:Nat)(cur:Array Value)(L:List (Nat×Obj)):Prop where
 arr:(ab,Obj.cells cur 116 (0,0))∈L
 ptr:∀ (i:Nat) k,bs[i]?=some k→cur[i]?=some (.pointer (some ⟨k.bb,0,none⟩))
 mem:∀ k∈bs,(k.bb,k.obj)∈L∧k.pb < k.bb∧∃ o n c,k.ans=.slice o n c∧∀ ad:Addr,o=some ad→∃ ob,(ad.block,ob)∈L
section
variable {Fin:bH}{s:Ring}{b:aJ}{M:Nat→Prop}{a:Act}{w:World}{L r:List (Nat×Obj)}{ab cap:Nat}{cur:Array Value}{bs:List Bk}{main:Bool}
theorem isReady (hB:AM bs ab cur L){k:Bk}(hk:k∈bs)(hm:Mm Try.prog M w L r)(S:ai):bn Try.prog main 43 #[.pointer (some ⟨k.bb,0,none⟩)] (fun e S' M' w'=>e=.returned (.bool k.ready)∧S'=S∧(∀ c,M c→M' c)∧Mm Try.prog M' w' L r) S M w:=by
 obtain ⟨h1,h2,o,n,c,ha,h3⟩:=hB.mem k hk
 obtain ⟨s1,t1,rfl⟩:=List.append_of_mem h1
 have lt:∀ x∈s1 ++ (k.bb,k.obj) :: t1,x.1 < w.heap.size:=fun x hx=>(Array.getElem?_eq_some_iff.1 (hm.own x hx).2).1
 have hbb:k.bb < w.heap.size:=lt (k.bb,k.obj) h1
 have hold:Old w.heap.size GL k.ans:=by
  rw [ha]
  cases o with
  | none=>exact Old.bX _ _
  | some ad =>
   obtain ⟨ob,h4⟩:=h3 ad rfl
   exact Old.slice (lt _ h4)
 refine bG (PX (hm.perm List.perm_middle) (Nat.lt_trans h2 hbb) hold S) fun e S' M' w' q=>?_
 obtain ⟨q1,⟨q2,q3⟩,q4⟩:=q
 exact ⟨q2,q1,q4,q3.perm List.perm_middle.symm⟩
structure SI (Fin:bH)(s:Ring)(M:Nat→Prop)(L r:List (Nat×Obj))(ab cap:Nat)(bs:List Bk)(i:Nat)(S:ai)(M':Nat→Prop)(a:Act)(w:World):Prop where
 stop:S=aK Try.prog Fin s
 size:a.tmps.size=17
 defers:a.defers=[]
 s8:a.eval (.tmp 8)=.slice (some ⟨ab,0,none⟩) bs.length cap
 s9:a.eval (.tmp 9)=.int .i64 (bs.length:Nat)
 s10:a.eval (.tmp 10)=.int .i64 (i:Nat)
 le:i≤bs.length
 none:(bs.take i).any Bk.ready=false
 up:∀ c,M c→M' c
 mem:Mm Try.prog M' w L r
theorem QB (hE:s.E=(G0 b 0).env Try.prog)(hf:b.dL)(hq:b.q=2)(hv:b.c[0]?=some (.slice (some ⟨ab,0,none⟩) bs.length cap))(hlen:bs.length < 4611686018427387904)(hB:AM bs ab cur L)(hm:Mm Try.prog M w L r):bn Try.prog true 32 #[.pointer (some ⟨b.R,0,none⟩)] (fun e S' M' w'=>e=.returned (.bool (bs.any Bk.ready))∧S'=aK Try.prog Fin s∧(∀ c,M c→M' c)∧Mm Try.prog M' w' L r) (aK Try.prog Fin s) M w:=by
 refine eQ Try.func32 QA ?_
 obtain ⟨a,ha,hs,hd,he⟩:=entered Try.func32 #[.pointer (some ⟨b.R,0,none⟩)] .normal (N:=17) rfl (by show 1≤17;decide)
 have h0:=he 0 _ rfl
 rw [← ha]
 clear ha he
 refine ak (kG [0] (kR (d:=some 2) (p:=.assign (.const (.bool false))) (fun o ho=>eB (v:=.bool false) ho rfl) hm fun w hm=>aA (ak (ak (kG [0,1,2,3,4,5] (kM (v:=.pointer (some ⟨b.R,0,none⟩)) 5 0 hm fun w hm=>?_))))))
 refine kN 6 5 hm fun w hm=>kP (fo:=0) (off:=0) 7 99 6 0 hm fun w hm=>lV Try.func32 rfl ae (d:=some 8) (t:=90) (x:=.tmp 7) eI (G:=G0 b 0) hE ⟨hf.shut,hf.room⟩ (k:=0) (v:=.slice (some ⟨ab,0,none⟩) bs.length cap) eV (by show 0≠b.q;omega) (by show 0≠b.q+1;omega) hv af ?_
 refine kR (d:=some 9) (gN (t:=90) (x:=.tmp 8) (ad:=some ⟨ab,0,none⟩) (len:=bs.length) (cap:=cap) af eV) hm fun w hm=>?_
 refine kR (d:=some 10) (p:=.move (.const (.int .i64 0))) (fun o ho=>bK (v:=.int .i64 ((0:Nat):Int)) ho rfl) hm fun w hm=>aA (eH (kE (X:=Nat) (r:=InvImage (· < ·) (fun i=>bs.length - i)) (InvImage.wf _ Nat.lt_wfRel.wf) (fun i S M' a w=>SI Fin s M L r ab cap bs i S M' a w) 0 ?_ fun i S M' a w hI=>?_))
 ·refine ⟨rfl,by simp only [size_put];exact hs,by simp only [bO];exact hd,?_,?_,?_,Nat.zero_le _,rfl,fun _ h=>h,hm⟩
  ·rw [eN,eN,eP];rfl
  ·rw [eN,eP];rfl
  ·rw [eP];rfl
 obtain ⟨rfl,hs,hd,h8,h9,h10,hle,hno,hup,hm⟩:=hI
 refine ak (kG [0] (kR (d:=some 11) (jC (t:=3) (t':=3) (x:=.tmp 10) (y:=.tmp 9) h10 h9) hm fun w hm=>aA ?_))
 by_cases hi:i < bs.length
 ·have hdec:decide (((i:Nat):Int) < ((bs.length:Nat):Int))=true:=by simp [hi]
  refine ak (kY (by rw [eP];exact congrArg Value.bool hdec) ?_)
  refine bS ?_
  obtain ⟨kb,hkb⟩:∃ kb,bs[i]?=some kb:=⟨_,List.getElem?_eq_getElem hi⟩
  obtain ⟨ja,hja⟩:=List.mem_iff_getElem?.1 hB.arr
  have hp:=hB.ptr i kb hkb
  refine ak (eH (ak (kG [0,1,2] (kR (d:=some 12) (p:=.indexAddr 90 (.tmp 8) (.tmp 10)) (fun o ho=>iI (ad:=⟨ab,0,none⟩) (len:=bs.length) (cap:=cap) (k:=.i64) (i:=(i:Nat)) (sz:=1) ho eV eV ⟨ag,ag⟩ af af) hm fun w hm=>?_))))
  refine kL (d:=some 13) (t:=116) (x:=.tmp 12) (n:=ja) (b:=ab) (k:=i) (by rw [eP,if_pos rfl,Int.toNat_natCast,Nat.mul_one,Addr.add_mid,Nat.zero_add]) hm (by rw [List.getElem?_append_left (List.getElem?_eq_some_iff.1 hja).1];exact hja) (v:=.pointer (some ⟨kb.bb,0,none⟩)) hp fun w hm=>?_
  refine kS (v:=.pointer (some ⟨kb.bb,0,none⟩)) 4 13 hm fun w hm=>aA (ak (kG [0,1] (kM (v:=.pointer (some ⟨kb.bb,0,none⟩)) 14 4 hm fun w hm=>?_)))
  refine kC (d:=some 15) (args:=#[.tmp 14]) (ats:=#[116]) Try.func43 (ys:=#[.pointer (some ⟨kb.bb,0,none⟩)]) (by rw [Array.map_singleton,eP];rfl) (bG (isReady hB (List.mem_of_getElem? hkb) hm _) fun e S' M2 w hq=>?_)
  obtain ⟨rfl,rfl,dF,hm⟩:=hq
  refine aA ?_
  cases hr:kb.ready with
  | true =>
   refine kY eV ?_
   refine ak (kG [0] (kR (d:=some 2) (p:=.assign (.const (.bool true))) (fun o ho=>eB (v:=.bool true) ho rfl) hm fun w hm=>aA (eG ?_)))
   have hany:bs.any Bk.ready=true:=List.any_eq_true.2 ⟨kb,List.mem_of_getElem? hkb,hr⟩
   simp only [Bool.false_eq_true,↓reduceIte]
   exact fT (pF (t:=2) rfl bJ (y:=.bool (bs.any Bk.ready)) (by
    rw [hany,eP,if_pos rfl]) fun w1 hr=>⟨rfl,rfl,fun c hc=>dF c (hup c hc),hm.rely hr⟩)
  | false =>
   refine kF eV ?_
   refine bS (kG [0,1] (kR (d:=some 16) (mM (t:=3) (t':=3) (x:=.tmp 10) (k:=i) ag (by rw [eP,eP,eP,eP,eP,eN,if_neg ae,if_neg ae,if_neg ae,if_neg ae,if_neg ae];exact h10)) hm fun w hm=>?_))
   refine kM (v:=.int .i64 ((i+1:Nat):Int)) 10 16 hm fun w hm=>aA (⟨i+1,by show bs.length - (i+1) < bs.length - i;omega,rfl,by simp only [size_put];exact hs,by simp only [bO];exact hd,?_,?_,?_,hi,?_,fun c hc=>dF c (hup c hc),hm⟩)
   ·rw [eP,eP,eP,eP,eP,eP,eP,eN,if_neg ae,if_neg ae,if_neg ae,if_neg ae,if_neg ae,if_neg ae,if_neg ae];exact h8
   ·rw [eP,eP,eP,eP,eP,eP,eP,eN,if_neg ae,if_neg ae,if_neg ae,if_neg ae,if_neg ae,if_neg ae,if_neg ae];exact h9
   ·rw [eP];rfl
   ·rw [List.take_add_one,hkb,List.any_append,hno]
    simp [hr]
 ·have hdec:decide (((i:Nat):Int) < ((bs.length:Nat):Int))=false:=by simp [hi]
  refine ak (kF (by rw [eP];exact congrArg Value.bool hdec) ?_)
  refine lG ?_
  have hany:bs.any Bk.ready=false:=by
   have:bs.take i=bs:=List.take_of_length_le ag
   rw [this] at hno
   exact hno
  simp only [Bool.false_eq_true,↓reduceIte,if_true]
  refine ak (kG [0] (kR (d:=some 2) (p:=.assign (.const (.bool false))) (fun o ho=>eB (v:=.bool false) ho rfl) hm fun w hm=>aA (eG ?_)))
  exact fT (pF (t:=2) rfl bJ (y:=.bool (bs.any Bk.ready)) (by
    rw [hany,eP,if_pos rfl]) fun w1 hr=>⟨rfl,rfl,hup,hm.rely hr⟩)
end
theorem vT {P:Program}{M:Nat→Prop}{w:World}{l r r':List (Nat×Obj)}(h:Mm P M w l r)(hp:r.Perm r'):Mm P M w l r' :=
 ⟨h.own,fun p q=>h.rd p (hp.mem_iff.2 q),h.low,h.aX,h.base,((hp.append_left l).map Prod.fst).nodup_iff.1 h.nodup⟩
structure Bq (Y:aN) where
 k:Bk
 w:Wk Y
 nr:Nat
 xs:List Value
 A:List (Nat×Obj)
structure Pb (Y:aN) where
 left:Int
 halt:Int
 steps:Nat
 begin:Nat
 own:Nat
 fell:Bool
 nr:Nat
 xs:List Value
 st:Option Y.bL
 n:Nat
def Bq.pure {Y:aN}(x:Bq Y):Pb Y:=⟨x.k.left,x.k.halt,x.k.steps,x.k.begin,x.k.own,x.k.fell,x.nr,x.xs,x.w.st,x.w.n⟩
def Bq.mem {Y:aN}(x:Bq Y):List (Nat×Obj):=(x.k.bb,x.k.obj) :: x.A
def Bq.half {Y:aN}(x:Bq Y):List (Nat×Obj):=Rx x.w.p [] x.w.st
structure Bq.Ok {Y:aN}(x:Bq Y)(R:Nat):Prop where
 pb:x.k.pb=x.w.p.pb
 lt:x.k.pb < x.k.bb
 row:Row 48 9 x.k.ans x.nr x.xs x.A
 R:x.w.p.R=R
 q:x.w.p.q=2
 ob:x.w.p.ob=aR x.w.p false false
def GD (Y:aN)(k:Nat)(x:Pb Y)(σ:Y.σ)(x':Pb Y)(σ':Y.σ):Prop :=
 (∃ (q q':Y.bL)(n:Nat),x.st=some q∧x.n=n+1∧Y.dM q σ=(σ',gL,some q')∧x'={ x with steps:=x.steps+1,begin:=(if x.own=0 then k+1 else x.begin),own:=x.own+1,st:=some q',n:=n }) ∨
 ∃ (q:Y.bL) (nx:Option Y.bL) (n:Nat) (ok:Bool) (n1 n2 er:Int),x.st=some q∧x.n=n+1∧Y.dM q σ=(σ',fP (aQ ok n1 n2 er).toArray,nx)∧x'={ x with left:=x.left - 1,steps:=x.steps+1,begin:=(if x.own=0 then k+1 else x.begin),own:=0,nr:=x.nr+1,xs:=x.xs ++ aW ((if x.own=0 then k+1 else x.begin:Nat):Int) ((k+1:Nat):Int) ((x.own+1:Nat):Int) ok n1 n2 er,st:=nx,n:=n }
def books {Y:aN}(ab:Nat)(cur:Array Value)(bs:List (Bq Y)):List (Nat×Obj):=(ab,Obj.cells cur 116 (0,0)) :: bs.flatMap Bq.mem
def halves {Y:aN}(bs:List (Bq Y)):List (Nat×Obj):=bs.flatMap Bq.half
structure GA (Y:aN)(Fin:bH)(s:Ring)(b:aJ)(arr ab cap:Nat)(cur:Array Value)(bs:List (Bq Y))(σ:Y.σ)(k:Nat)(E:List (Nat×Obj))(S:ai)(M:Nat→Prop)(w:World):Prop where
 stop:S=aK Try.prog Fin s
 hE:s.E=(G0 b 0).env Try.prog
 fine:b.dL
 q2:b.q=2
 sz:b.c.size=5
 c0:b.c[0]?=some (.slice (some ⟨ab,0,none⟩) bs.length cap)
 c1:b.c[1]?=some (.chan (some arr))
 c4:b.c[4]?=some (.int .i64 (k:Nat))
 n:bs.length≤b.n
 qL:dD Try.prog Y arr s (bs.map Bq.w)
 ok:∀ x∈bs,x.Ok b.R
 mem:Mm Try.prog M w ((E ++ books ab cur bs) ++ Y.sh σ) (halves bs)
 half:∀ x∈bs,x.w.st.isSome=true→M (2 * x.w.p.pb+1)
 ptr:∀ (i:Nat) x,bs[i]?=some x→cur[i]?=some (.pointer (some ⟨x.k.bb,0,none⟩))
section
variable {Y:aN}{Fin:bH}{s:Ring}{b:aJ}{arr ab cap:Nat}{cur:Array Value}{bs:List (Bq Y)}{σ σ':Y.σ}{k:Nat}{E:List (Nat×Obj)}{S:ai}{M:Nat→Prop}{w:World}
theorem GA.rely (h:GA Y Fin s b arr ab cap cur bs σ k E S M w){w1:World}(hm:Mm Try.prog M w1 ((E ++ books ab cur bs) ++ Y.sh σ) (halves bs)):GA Y Fin s b arr ab cap cur bs σ k E S M w1:=⟨h.stop,h.hE,h.fine,h.q2,h.sz,h.c0,h.c1,h.c4,h.n,h.qL,h.ok,hm,h.half,h.ptr⟩
theorem GA.with (h:GA Y Fin s b arr ab cap cur bs σ k E S M w){w1:World}{M':Nat→Prop}{E':List (Nat×Obj)}(hu:∀ c,M c→M' c)(hm:Mm Try.prog M' w1 ((E' ++ books ab cur bs) ++ Y.sh σ) (halves bs)):GA Y Fin s b arr ab cap cur bs σ k E' S M' w1:=⟨h.stop,h.hE,h.fine,h.q2,h.sz,h.c0,h.c1,h.c4,h.n,h.qL,h.ok,hm,fun x hx hs=>hu _ (h.half x hx hs),h.ptr⟩
theorem GA.yn (h:GA Y Fin s b arr ab cap cur bs σ k E S M w):AM (bs.map Bq.k) ab cur ((E ++ books ab cur bs) ++ Y.sh σ):=by
 refine ⟨by simp [books],fun i k hk=>?_,fun k hk=>?_⟩
 ·rw [List.getElem?_map] at hk
  obtain ⟨x,hx,rfl⟩:=Option.map_eq_some_iff.1 hk
  exact h.ptr i x hx
 ·obtain ⟨x,hx,rfl⟩:=List.mem_map.1 hk
  have hin:∀ y∈x.mem,y∈(E ++ books ab cur bs) ++ Y.sh σ:=fun y hy=>aO ((bR ((List.mem_cons_of_mem _ (List.mem_flatMap.2 ⟨x,hx,hy⟩)))))
  refine ⟨hin _ (List.mem_cons_self ..),(h.ok x hx).lt,?_⟩
  rcases (h.ok x hx).row.2 with ⟨e,_⟩ | ⟨g,cap,cur,e,hA,_⟩
  ·exact ⟨none,0,0,e,fun _ q=>by cases q⟩
  ·refine ⟨some ⟨g,0,none⟩,_,_,e,fun ad q=>?_⟩
   cases q
   exact ⟨_,hin _ (List.mem_cons_of_mem _ (by rw [hA];exact List.mem_singleton.2 rfl))⟩
theorem yo {x:Bq Y}(hs:x.w.st.isSome=true):(x.w.p.pb,x.w.p.ob)∈x.half:=by
 unfold Bq.half
 cases e:x.w.st with
 | none=>rw [e] at hs;cases hs
 | some q=>exact List.mem_singleton.2 rfl
theorem yu {α:Type}{s1 s2:List α}{x y:α}:(s1 ++ x :: s2).set s1.length y=s1 ++ y :: s2:=by simp
def tu (E:List (Nat×Obj))(ab:Nat)(cur:Array Value)(s1 s2:List (Bq Y)):List (Nat×Obj):=E ++ (ab,Obj.cells cur 116 (0,0)) :: (s1.flatMap Bq.mem ++ s2.flatMap Bq.mem)
theorem AO {s1 s2:List (Bq Y)}{x:Bq Y}:(E ++ books ab cur (s1 ++ x :: s2)).Perm ((x.k.bb,x.k.obj) :: (x.A ++ tu E ab cur s1 s2)):=by
 unfold books tu
 rw [List.flatMap_append,List.flatMap_cons]
 have h:=List.perm_append_comm_assoc (E ++ (ab,Obj.cells cur 116 (0,0)) :: s1.flatMap Bq.mem) x.mem (s2.flatMap Bq.mem)
 simp only [List.append_assoc,List.cons_append] at h
 exact h
theorem yw {s1 s2:List (Bq Y)}{x:Bq Y}:(halves (s1 ++ x :: s2)).Perm (x.half ++ (halves s1 ++ halves s2)):=by
 unfold halves
 rw [List.flatMap_append,List.flatMap_cons]
 exact List.perm_append_comm_assoc _ _ _
theorem QC {α:Type}(p:Post)(r:List (Nat×Obj))(o:Option α):Rx p r o=Rx p [] o ++ r:=by cases o <;> rfl
theorem GA.turn (h:GA Y Fin s b arr ab cap cur bs σ k E S M w){s1 s2:List (Bq Y)}{x x':Bq Y}(hb:bs=s1 ++ x :: s2){q:Y.bL}(hst:x.w.st=some q){n:Nat}{nx:Option Y.bL}(hw:x'.w=⟨x.w.p,nx,n⟩)(hbb:x'.k.bb=x.k.bb)(hok:x'.Ok b.R){M':Nat→Prop}{w':World}{L':List (Nat×Obj)}(hup:∀ c,M c→¬ fw Y.B x.w.p.pb c→M' c)(hnx:nx.isSome=true→M' (2 * x.w.p.pb+1))(hm:Mm Try.prog M' w' (((x'.k.bb,x'.k.obj) :: (x'.A ++ (tu E ab cur s1 s2 ++ L'))) ++ Y.sh σ') (Rx x.w.p (halves s1 ++ halves s2) nx)) :
  GA Y Fin (({ s with E:=(G0 (b.set 4 (.int .i64 ((k+1:Nat):Int))) 0).env Try.prog }:Ring).seat (s1.length+1) (iq x.w.p nx) (kU Try.prog Y x.w.p n nx)) (b.set 4 (.int .i64 ((k+1:Nat):Int))) arr ab cap cur (s1 ++ x' :: s2) σ' (k+1) (E ++ L') (aK Try.prog Fin (({ s with E:=(G0 (b.set 4 (.int .i64 ((k+1:Nat):Int))) 0).env Try.prog }:Ring).seat (s1.length+1) (iq x.w.p nx) (kU Try.prog Y x.w.p n nx))) M' w':=by
 subst hb
 have hl:(s1 ++ x' :: s2).length=(s1 ++ x :: s2).length:=by simp
 have hset:∀ {y:Bq Y},(s1 ++ x :: s2).set s1.length y=s1 ++ y :: s2:=yu
 refine ⟨rfl,rfl,vO h.fine _ _,h.q2,?_,?_,?_,?_,?_,?_,?_,?_,?_,?_⟩
 ·show (b.c.setIfInBounds 4 _).size=5
  rw [Array.size_setIfInBounds];exact h.sz
 ·show (b.c.setIfInBounds 4 _)[0]?=_
  rw [Array.getElem?_setIfInBounds_ne ae,hl];exact h.c0
 ·show (b.c.setIfInBounds 4 _)[1]?=_
  rw [Array.getElem?_setIfInBounds_ne ae];exact h.c1
 ·show (b.c.setIfInBounds 4 _)[4]?=_
  rw [Array.getElem?_setIfInBounds_self_of_lt (by rw [h.sz];decide)]
 ·rw [hl];exact h.n
 ·have hj:((s1 ++ x :: s2).map Bq.w)[s1.length]?=some x.w:=by simp
  have:=(h.qL.env ((G0 (b.set 4 (.int .i64 ((k+1:Nat):Int))) 0).env Try.prog)).next hj n nx
  rw [← hw] at this
  have e:((s1 ++ x :: s2).map Bq.w).set s1.length x'.w=(s1 ++ x' :: s2).map Bq.w:=by
   rw [List.map_append,List.map_cons,List.map_append,List.map_cons,show s1.length=(s1.map Bq.w).length by simp]
   exact yu
  rw [e] at this
  exact this
 ·intro y hy
  rcases List.mem_append.1 hy with q | q
  ·exact h.ok y (aO (q))
  ·rcases List.mem_cons.1 q with rfl | q
   ·exact hok
   ·exact h.ok y (bR ((List.mem_cons_of_mem _ q)))
 ·have hz:(tu E ab cur s1 s2 ++ L').Perm (tu (E ++ L') ab cur s1 s2):=by
   unfold tu
   rw [List.append_assoc,List.append_assoc]
   exact (List.perm_append_comm).append_left E
  have hp:=(((hz.append_left x'.A).cons (x'.k.bb,x'.k.obj)).trans (AO (E:=E ++ L') (ab:=ab) (cur:=cur) (s1:=s1) (s2:=s2) (x:=x')).symm)
  refine vT (hm.perm (hp.append_right _)) ?_
  have hh:x'.half=Rx x.w.p [] nx:=by unfold Bq.half;rw [hw]
  rw [QC,← hh]
  exact yw.symm
 ·intro y hy hs
  have key:∀ y,y∈s1∨y∈s2→y.w.st.isSome=true→M' (2 * y.w.p.pb+1):=fun y hy hs=>by
   have hy':y∈s1 ++ x :: s2:=hy.elim (fun q=>aO (q)) fun q=>bR ((List.mem_cons_of_mem _ q))
   refine hup _ (h.half y hy' hs) fun z=>?_
   have hn:=(vT h.mem yw).nodup
   simp only [List.map_append,Y.fst σ] at hn
   have AP:y.w.p.pb∈(halves s1 ++ halves s2).map Prod.fst:=by
    refine List.mem_map.2 ⟨(y.w.p.pb,y.w.p.ob),?_,rfl⟩
    rcases hy with q | q
    ·exact aO ((List.mem_flatMap.2 ⟨y,q,yo hs⟩))
    ·exact bR ((List.mem_flatMap.2 ⟨y,q,yo hs⟩))
   rw [List.map_append] at AP
   obtain ⟨n1,n2,n3⟩:=List.nodup_append.1 hn
   rcases z with z | z
   ·rw [show (2 * y.w.p.pb+1) / 2=y.w.p.pb by omega] at z
    exact n3 _ (bR (z)) _ (bR (AP)) rfl
   ·have e:y.w.p.pb=x.w.p.pb:=by omega
    have hx:x.w.p.pb∈x.half.map Prod.fst:=List.mem_map.2 ⟨_,yo (by rw [hst];rfl),rfl⟩
    exact (List.nodup_append.1 n2).2.2 _ hx _ (e ▸ AP) rfl
  rcases List.mem_append.1 hy with q | q
  ·exact key y (.inl q) hs
  ·rcases List.mem_cons.1 q with rfl | q
   ·rw [hw] at hs ⊢
    exact hnx hs
   ·exact key y (.inr q) hs
 ·intro i y hi
  rw [← hset] at hi
  by_cases e:s1.length=i
  ·subst e
   rw [List.getElem?_set_self ah] at hi
   cases hi
   rw [hbb]
   exact h.ptr _ x ah
  ·rw [List.getElem?_set_ne e] at hi
   exact h.ptr i y hi
theorem QD (h:GA Y Fin s b arr ab cap cur bs σ k E S M w){j:Nat}{x:Bq Y}(hj:bs[j]?=some x){x1:Pb Y}(ht:GD Y k x.pure σ x1 σ')(hk:k < 4611686018427387904)(hks:x.k.steps < 4611686018427387904)(hko:x.k.own < 4611686018427387904)(hnr:x.nr < 1000000)(hl0:0 < x.k.left)(hl1:x.k.left < 4611686018427387904) :
  bn Try.prog true 45 #[.pointer (some ⟨b.R,0,none⟩),.pointer (some ⟨x.k.bb,0,none⟩)] (fun e S' M' w'=>e=.returned (.tuple #[])∧∃ s' b' x' L',x'.pure=x1∧b'.R=b.R∧b'.n=b.n∧GA Y Fin s' b' arr ab cap cur (bs.set j x') σ' (k+1) (E ++ L') S' M' w') S M w:=by
 obtain ⟨s1,s2,rfl,hlen⟩:∃ s1 s2,bs=s1 ++ x :: s2∧s1.length=j:=by
  obtain ⟨hjl,QE⟩:=List.getElem?_eq_some_iff.1 hj
  refine ⟨bs.take j,bs.drop (j+1),?_,List.length_take_of_le (Nat.le_of_lt hjl)⟩
  rw [← QE,List.getElem_cons_drop hjl,List.take_append_drop]
 subst hlen
 have hin:x∈s1 ++ x :: s2:=by simp
 have hxo:=h.ok x hin
 have iK:((s1 ++ x :: s2).map Bq.w)[s1.length]?=some x.w:=by simp
 have hjn:s1.length+1≤b.n:=by
  have:=h.n
  simp at this
  omega
 have hpq:x.w.p.q=b.q:=hxo.q.trans h.q2.symm
 have GG:x.k.obj=bD x.w.p.pb x.k.left x.k.halt x.k.steps x.k.begin x.k.own x.k.fell x.k.ans:=by unfold Bk.obj;rw [hxo.pb]
 rw [h.stop]
 rcases ht with ⟨q,q',n,hst,hn,hl,rfl⟩ | ⟨q,nx,n,ok,n1,n2,er,hst,hn,hl,rfl⟩
 ·have hst:x.w.st=some q:=hst
  have hn:x.w.n=n+1:=hn
  have AQ:=h.half x hin (by rw [hst];rfl)
  have hm0:=vT (h.mem.perm (AO.append_right _)) yw
  have hxh:x.half=[(x.w.p.pb,x.w.p.ob)]:=by unfold Bq.half;rw [hst];rfl
  rw [GG,hxh] at hm0
  refine bG (Qn h.hE h.fine h.q2 h.sz h.c1 h.c4 hk hks hko h.qL iK hst hn hxo.R hpq hjn hxo.ob hl hm0 AQ) fun e S' M' w' hq=>?_
  obtain ⟨he,rfl,hup,hM,b4,hm⟩:=hq
  refine ⟨he,(({ s with E:=(G0 (b.set 4 (.int .i64 ((k+1:Nat):Int))) 0).env Try.prog }:Ring).seat (s1.length+1) (iq x.w.p (some q')) (kU Try.prog Y x.w.p n (some q'))),b.set 4 (.int .i64 ((k+1:Nat):Int)),⟨{ x.k with steps:=x.k.steps+1,begin:=(if x.k.own=0 then k+1 else x.k.begin),own:=x.k.own+1 },⟨x.w.p,some q',n⟩,x.nr,x.xs,x.A⟩,[(b4,iJ gL)],rfl,rfl,rfl,?_⟩
  rw [yu]
  refine h.turn (x:=x) (x':=⟨{ x.k with steps:=x.k.steps+1,begin:=(if x.k.own=0 then k+1 else x.k.begin),own:=x.k.own+1 },⟨x.w.p,some q',n⟩,x.nr,x.xs,x.A⟩) rfl hst rfl rfl ⟨hxo.pb,hxo.lt,hxo.row,hxo.R,hxo.q,hxo.ob⟩ hup (fun _=>hM) ?_
  refine (hm.perm (List.Perm.of_eq ?_))
  unfold Bk.obj
  rw [hxo.pb]
  simp only [List.append_assoc,List.cons_append,List.nil_append]
 ·have hst:x.w.st=some q:=hst
  have hn:x.w.n=n+1:=hn
  have AQ:=h.half x hin (by rw [hst];rfl)
  have hm0:=vT (h.mem.perm (AO.append_right _)) yw
  have hxh:x.half=[(x.w.p.pb,x.w.p.ob)]:=by unfold Bq.half;rw [hst];rfl
  rw [GG,hxh] at hm0
  refine bG (Qz h.hE h.fine h.q2 h.sz h.c1 h.c4 hk hks hko h.qL iK hst hn hxo.R hpq hjn hxo.ob hl hxo.row hnr hl0 hl1 hm0 AQ) fun e S' M' w' hq=>?_
  obtain ⟨he,rfl,hup,hM,v',A',l',hrow',hm⟩:=hq
  refine ⟨he,(({ s with E:=(G0 (b.set 4 (.int .i64 ((k+1:Nat):Int))) 0).env Try.prog }:Ring).seat (s1.length+1) (iq x.w.p nx) (kU Try.prog Y x.w.p n nx)),b.set 4 (.int .i64 ((k+1:Nat):Int)),⟨{ x.k with left:=x.k.left - 1,steps:=x.k.steps+1,begin:=(if x.k.own=0 then k+1 else x.k.begin),own:=0,ans:=v' },⟨x.w.p,nx,n⟩,x.nr+1,x.xs ++ aW ((if x.k.own=0 then k+1 else x.k.begin:Nat):Int) ((k+1:Nat):Int) ((x.k.own+1:Nat):Int) ok n1 n2 er,A'⟩,l',rfl,rfl,rfl,?_⟩
  rw [yu]
  refine h.turn (x:=x) (x':=⟨{ x.k with left:=x.k.left - 1,steps:=x.k.steps+1,begin:=(if x.k.own=0 then k+1 else x.k.begin),own:=0,ans:=v' },⟨x.w.p,nx,n⟩,x.nr+1,x.xs ++ aW ((if x.k.own=0 then k+1 else x.k.begin:Nat):Int) ((k+1:Nat):Int) ((x.k.own+1:Nat):Int) ok n1 n2 er,A'⟩) rfl hst rfl rfl ⟨hxo.pb,hxo.lt,hrow',hxo.R,hxo.q,hxo.ob⟩ hup hM ?_
  refine (hm.perm (List.Perm.of_eq ?_))
  unfold Bk.obj
  rw [hxo.pb]
end
end Go.Proofs.Ytanploaffndpjaa
namespace Go.Blind
open Go.Conc Go.RowKit
section
variable {P:Program}{Fin:bH}{s:Ring}{main:Bool}{fn:FuncId}{kd:CallKind}{K:ai→(Nat→Prop)→Act→World→Prop}{S:ai}{M:Nat→Prop}{a:Act}{w:World}{ops:Array Oper}{i:Nat}{o:Oper}{l r:List (Nat×Obj)}
theorem GJ (hkd:kd≠.early)(ho:ops[i]?=some o)(hw:Region.wanted o (yielded ops a.tmps)=true){t:TypeId}{x:Operand}(hop:o.op=.box t x){cells:Array Value}(hx:(a.eval x).cells=cells)(hm:Mm P M w l r)
  (h:∀ b w1,w.heap.size≤b→Mm P (plus M b) w1 (l ++ [(b,.cells cells t (0,0))]) r→K S (plus M b) (a.put o.dst (.pointer (some ⟨b,0,none⟩))) w1):cK P main fn kd ops i K S M a w:=by
 have e1:execOp a.eval o=(do pure (Next.value (← Instr.box t (a.eval x)))):=by
  unfold execOp
  rw [hop]
 have hr:∀ w1:World,(Instr.box t (a.eval x)).run P w1=.ok (.pointer (some ⟨w1.heap.size,0,none⟩)) (w1.alloc (.cells cells t (0,0))):=fun w1=>by
  simp [Instr.box,newVar,newRow,hx]
 have hev:∀ w1:World,listed P fn a o w1=#[]:=fun w1=>listed_nil (by
  rw [e1,Sem.events_bind,hr]
  show (Instr.box t (a.eval x)).events P w1 #[]=#[]
  simp [Instr.box,newVar,newRow])
 exact jr hkd ho hw fun w1 hR K' hK=>by
  have hm1:=hm.rely hR
  rw [e1,Sem.run_bind,hr]
  exact hK _ _ _ (by rw [hev];exact nP _) (h w1.heap.size _ hR.size (hm1.new _))
theorem GK {G:aJ}(hE:s.E=G.env P):∀ c τ τ' o,(∀ o,¬ s.E.at_ τ c o)→¬ s.E.at_ τ' c o:=by
 rw [hE]
 intro c τ τ' o h1 h2
 exact h1 _ ⟨h2.1,rfl⟩
theorem AU (hkd:kd≠.early)(ho:ops[i]?=some o)(hw:Region.wanted o (yielded ops a.tmps)=true){t e:TypeId}{dir:ChanDir}(hop:o.op=.makeChan t (.const (.int .i64 0)))(ht:P.underlying t=some (.chan dir e))(hi:(P.info? e).isSome=true)(hfix:∀ c τ τ' o,(∀ o,¬ s.E.at_ τ c o)→¬ s.E.at_ τ' c o)
  (h:∀ c w1,ay P M w w1→K (aK P Fin (s.more c)) M (a.put o.dst (.chan (some c))) w1):cK P true fn kd ops i K (aK P Fin s) M a w:=by
 obtain ⟨inf,jD⟩:=Option.isSome_iff_exists.1 hi
 have e1:execOp a.eval o=(do pure (Next.value (← Instr.makeChan t (.int .i64 ((0:Nat):Int))))):=by
  unfold execOp
  rw [hop]
  rfl
 have hr:∀ w1:World,(Instr.makeChan t (.int .i64 ((0:Nat):Int))).run P w1=.ok (.chan (some w1.heap.size)) (w1.alloc (.chan 0 #[] false 0 0 false)):=fun w1=>run_makeChan ht jD .i64 0 ae ah
 refine su (NC (Nx:=fun c=>aK P Fin (s.more c)) hkd ho hw (fun w1=>⟨by rw [e1,Sem.run_bind,hr];rfl,listed_nil ?_⟩) h) (NJ (fun c=>NK c) hfix)
 rw [e1,Sem.events_bind,hr]
 exact events_makeChan ht jD .i64 0 ae ah #[]
theorem QF {x:Operand}{args:Array Operand}{ats:Array TypeId}{f:Fn}{vs us ys:Array Value}(hop:o.op=.go { callee:=.value x,args:=args,argTypes:=ats })(hx:a.eval x=.func f vs us)(hy:args.map a.eval=ys):∀ w1,(execOp a.eval o).runT P w1 #[]=(.ok (.spawn ⟨.fn f us,vs ++ ys⟩) w1,#[]):=fun w1=>by
 have e:execOp a.eval o=Pure.pure (Next.spawn ⟨.fn f us,vs ++ ys⟩):=by
  unfold execOp
  rw [hop]
  simp only [resolve,hx,hy]
  rfl
 rw [e]
 rfl
end
section
variable {P:Program}{f:FuncId}{aD:Func}{R:fu}{S:ai}{M:Nat→Prop}{a:Act}{w:World}{l r:List (Nat×Obj)}{sl tm:Tmp}{t:TypeId}{b:Nat}{vs:List Value}{e:TypeId}{fz:Nat×Nat}
theorem AV (hud:(P.underlying t).map TypeDesc.isRow=some true)(hi:(P.info? t).map (·.size)=some vs.length){w1:World}(hg:w1.heap[b]?=some (.cells vs.toArray e fz)):∀ ev∈(loadVar t ⟨b,0,none⟩).events P w1 #[],∃ ad,ev.loc=.cell ad∧ev.write=false∧ad.block=b:=by
 intro ev he
 obtain ⟨d,hu,hd⟩:=Option.map_eq_some_iff.1 hud
 have hr:w1.rangeAt b 0 vs:=fun j v hj=>cell_of hg (by simpa using hj)
 cases hq:P.info? t with
 | none=>simp [hq] at hi
 | some inf =>
  have hs:inf.size=vs.length:=by simpa [hq] using hi
  have hagg:(isAgg t).run P w1=.ok true w1:=by
   unfold isAgg
   rw [Sem.run_bind,run_underlying hu w1]
   cases d <;> simp_all
  have hsz:(sizeOf t).run P w1=.ok vs.length w1:=by simp [sizeOf,typeInfo,hq,hs]
  have e2:(loadVar t ⟨b,0,none⟩).events P w1 #[]=(loadCells ⟨b,0,none⟩ vs.length).events P w1 #[]:=by
   simp [loadVar,Sem.events_bind,hagg,hsz]
  rw [e2] at he
  have:=events_loadCellsFrom_at (P:=P) ⟨b,0,none⟩ (·=b) rfl vs.length 0 #[] w1 #[] (fun j hj=>by
   rw [Nat.zero_add,Addr.add_mid,hr j vs[j] (List.getElem?_eq_getElem hj)];rfl) ev he
  rcases this with z | ⟨ad,z1,z2,z3⟩
  ·simp at z
  ·exact ⟨ad,z1,z2,z3⟩
theorem vU (hr:aD.results=#[.cell sl t])(hd:a.defers=[])(hs:a.eval (.tmp sl)=.pointer (some ⟨b,0,none⟩))(hud:(P.underlying t).map TypeDesc.isRow=some true)(hi:(P.info? t).map (·.size)=some vs.length)(hm:Mm P M w l r)(hb:(b,Obj.cells vs.toArray e fz)∈l ++ r)(h:∀ w1,ay P M w w1→R (.returned (.agg vs.toArray)) S M w1):kH P f aD R S M a w:=by
 refine ⟨hd,fun w1 hrel=>?_⟩
 have hg:=(hm.rely hrel).all hb
 have hs':(a.tmps[sl]?).getD undef=.pointer (some ⟨b,0,none⟩):=by rw [← Array.getD_eq_getD_getElem?];exact hs
 refine ⟨.agg vs.toArray,M,w1,(results aD a.tmps).events P w1 #[],Prod.ext ((Sem.runT_fst _ _ _ _).trans (Fz hr hs hud hi hg.2)) rfl,sw fun ev he=>?_,h w1 hrel⟩
 have he:=iG he
 have e3:(results aD a.tmps).events P w1 #[]=(loadVar t ⟨b,0,none⟩).events P w1 #[]:=by
  simp [results,hr,hs',asAddr,sG hud hi hg.2]
 rw [e3] at he
 obtain ⟨ad,h1,h2,h3⟩:=AV hud hi hg.2 ev he
 exact ⟨ad,h1,h2,h3 ▸ hg.1⟩
theorem QH (hr:aD.results=#[.cell sl t,.tmp tm])(hd:a.defers=[])(hs:a.eval (.tmp sl)=.pointer (some ⟨b,0,none⟩)){v:Value}(hv:a.eval (.tmp tm)=v)(hud:(P.underlying t).map TypeDesc.isRow=some true)(hi:(P.info? t).map (·.size)=some vs.length)(hm:Mm P M w l r)(hb:(b,Obj.cells vs.toArray e fz)∈l ++ r)(h:∀ w1,ay P M w w1→R (.returned (.tuple #[.agg vs.toArray,v])) S M w1):kH P f aD R S M a w:=by
 refine ⟨hd,fun w1 hrel=>?_⟩
 have hg:=(hm.rely hrel).all hb
 have hs':(a.tmps[sl]?).getD undef=.pointer (some ⟨b,0,none⟩):=by rw [← Array.getD_eq_getD_getElem?];exact hs
 have hs2:a.tmps.getD sl undef=.pointer (some ⟨b,0,none⟩):=hs
 have hv2:a.tmps.getD tm undef=v:=hv
 refine ⟨.tuple #[.agg vs.toArray,v],M,w1,(results aD a.tmps).events P w1 #[],Prod.ext ((Sem.runT_fst _ _ _ _).trans ?_) rfl,sw fun ev he=>?_,h w1 hrel⟩
 ·rw [results_cell_tmp hr,hs2,hv2]
  simp [asAddr,sG hud hi hg.2]
 ·have he:=iG he
  have e3:(results aD a.tmps).events P w1 #[]=(loadVar t ⟨b,0,none⟩).events P w1 #[]:=by
   simp [results,hr,hs',asAddr,sG hud hi hg.2]
  rw [e3] at he
  obtain ⟨ad,h1,h2,h3⟩:=AV hud hi hg.2 ev he
  exact ⟨ad,h1,h2,h3 ▸ hg.1⟩
end
variable {P:Program}
def I7 (P:Program)(Post:Value→World→Prop)(o:Os×Array (Nat×ByteArray))(t:Tmp):aZ:=fun e S M a w =>
 (e=.ret∨e=.normal)∧a.defers=[]∧(∃ (s:Ring)(b:aJ),S=aK P (qO P Post o) s∧s.E=(G2 b 0 True).env P∧s.size=b.n+1∧∀ i,i≠0→i < s.size→s.O i=none)∧∀ w1,ay P M w w1→Post (a.tmps.getD t undef) w1
theorem WH {f:FuncId}{aD:Func}{body:Code}(hfn:P.funcs[f]?=some aD)(hbody:aD.body=some body){ys:Array Value}{Post:Value→World→Prop}{o:Os×Array (Nat×ByteArray)}{t:Tmp}(hres:aD.results=#[.tmp t])(hinit:P.inits.idxOf? f=none){S:ai}{M:Nat→Prop}{w:World}
  (h:aM P true f .normal body (I7 P Post o t) S M ⟨(Frame.enter P f ys .normal).tmps,[]⟩ w):aj P true S M (ax (Frame.enter P f ys .normal) []) w:=by
 have e0:Frame.enter P f ys .normal=(Frame.enter P f ys .normal).at ⟨(Frame.enter P f ys .normal).tmps,[]⟩ [.code body]:=by simp [Frame.enter,Frame.at,hfn,hbody]
 rw [e0]
 refine h _ [] [] rfl rfl fun e S' M' a' w' q=>?_
 obtain ⟨he,hd,⟨s,b,rfl,hE,hn,hO⟩,hp⟩:=q
 have ret:∀ todo,aj P true (aK P (qO P Post o) s) M' (ax { (Frame.enter P f ys .normal).at a' todo with mode:=.returning } []) w':=by
  intro todo
  refine Ws hE hn hO _ _ _ ⟨rfl,fun w1 hrel=>⟨a'.tmps.getD t undef,?_,hp w1 hrel⟩⟩
  have e1:(results aD a'.tmps).runT P w1 #[]=(.ok (a'.tmps.getD t undef) w1,#[]):=Prod.ext ((Sem.runT_fst _ _ _ _).trans (results_tmp hres _ _ _)) (events_results_tmp hres _ _)
  unfold stepG ax
  simp only [Frame.at,Frame.enter]
  unfold unwind
  simp only [hd,hfn,e1]
  have WJ:seen P f #[]=#[]:=by
   unfold seen
   first
    | simp;done
    | (split <;> simp)
  unfold doReturn
  simp only [WJ,hinit,Bool.not_true,Bool.false_eq_true,if_false,GStep.after,Array.append_empty]
 rcases he with rfl | rfl
 ·exact fun todo=>ret todo
 ·exact aj.idle (g':=ax { (Frame.enter P f ys .normal).at a' [] with mode:=.returning } []) rfl (fun _=>rfl) (ret [])
end Go.Blind

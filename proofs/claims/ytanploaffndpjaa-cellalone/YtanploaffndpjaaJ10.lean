/- Of the proof. -/
import Derived.Test.YtanploaffndpjaaJ09
import Derived.Deep.MidRow
import Derived.Laws.CopyRow
import Derived.Conc.AppendEvents3
import Derived.Conc.Own4
import Derived.Conc.EventLaws
import Derived.Laws.Slices
import Derived.Laws.Entries
import Derived.Conc.Pipeline3
import Derived.Conc.CrowdStepC
import Derived.Lone
set_option linter.unusedVariables false
set_option linter.unusedSimpArgs false
namespace Go.Blind
open Go.Conc
section
variable {P:Program}{main:Bool}{fn:FuncId}{kd:CallKind}{K:ai→(Nat→Prop)→Act→World→Prop}{S:ai}{M:Nat→Prop}{a:Act}{w:World}{ops:Array Oper}{i:Nat}{o:Oper}{l r:List (Nat×Obj)}
theorem pq (hkd:kd≠.early)(ho:ops[i]?=some o)(hw:Region.wanted o (yielded ops a.tmps)=true){t:TypeId}{x:Operand}(hop:o.op=.load t x){n b off:Nat}(hx:a.eval x=.pointer (some ⟨b,off,none⟩)){c:Array Value}{e:TypeId}{fz:Nat×Nat}(hm:Mm P M w l r)(hb:(l ++ r)[n]?=some (b,.cells c e fz)){vs:List Value}(hv:∀ j v,vs[j]?=some v→c[off+j]?=some v)
  (hud:(P.underlying t).map TypeDesc.isRow=some true)(hi:(P.info? t).map (·.size)=some vs.length)
  (h:∀ w1,Mm P M w1 l r→K S M (a.put o.dst (.agg vs.toArray)) w1):cK P main fn kd ops i K S M a w:=by
 obtain ⟨d,hu,hd⟩:=Option.map_eq_some_iff.1 hud
 refine Fb hkd ho hw hm (v:=.agg vs.toArray) (fun w1 hf=>?_) h
 have hp:=hf _ (List.mem_of_getElem? hb)
 have hr:w1.rangeAt b off vs:=fun j v hj=>cell_of hp (hv j v hj)
 have e1:execOp a.eval o=(do pure (Next.value (← Instr.loadAt t (.pointer (some ⟨b,off,none⟩))))):=by
  unfold execOp
  rw [hop,← hx]
 refine ⟨?_,fun ev he=>?_⟩
 ·rw [e1,Sem.run_bind,run_loadAt_mid w1 b off t vs d hr hu hd hi]
  rfl
 ·have he:=iG he
  rw [e1,Sem.events_bind,run_loadAt_mid w1 b off t vs d hr hu hd hi] at he
  have he:ev∈(Instr.loadAt t (.pointer (some ⟨b,off,none⟩))).events P w1 #[]:=he
  cases hq:P.info? t with
  | none=>simp [hq] at hi
  | some inf =>
   have hs:inf.size=vs.length:=by simpa [hq] using hi
   have hagg:(isAgg t).run P w1=.ok true w1:=by
    unfold isAgg
    rw [Sem.run_bind,run_underlying hu w1]
    cases d <;> simp_all
   have hsz:(sizeOf t).run P w1=.ok vs.length w1:=by simp [sizeOf,typeInfo,hq,hs]
   have e2:(Instr.loadAt t (.pointer (some ⟨b,off,none⟩))).events P w1 #[]=(loadCells ⟨b,off,none⟩ vs.length).events P w1 #[]:=by
    simp [Instr.loadAt,Instr.sureAddr,loadVar,Sem.events_bind,hagg,hsz]
   rw [e2] at he
   have:=events_loadCellsFrom_at (P:=P) ⟨b,off,none⟩ (·=b) rfl vs.length 0 #[] w1 #[] (fun j hj=>by
    rw [Nat.zero_add,Addr.add_mid,hr j vs[j] (List.getElem?_eq_getElem hj)];rfl) ev he
   rcases this with z | ⟨ad,z1,z2,z3⟩
   ·simp at z
   ·exact ⟨ad,z1,z2,_,List.mem_of_getElem? hb,z3.symm⟩
theorem qG (hkd:kd≠.early)(ho:ops[i]?=some o)(hw:Region.wanted o (yielded ops a.tmps)=true){t:TypeId}{x y:Operand}(hop:o.op=.store t x y){n b:Nat}(hx:a.eval x=.pointer (some ⟨b,0,none⟩)){vs:List Value}(hy:a.eval y=.agg vs.toArray){c:Array Value}{e:TypeId}(hm:Mm P M w l r)(hb:l[n]?=some (b,.cells c e (0,0)))(hlen:vs.length=c.size)
  (hi:(P.info? t).map (·.size)=some vs.length)(h1:∀ v∈vs,v.oneCell'=true)
  (h:∀ w1,Mm P M w1 (l.set n (b,.cells vs.toArray e (0,0))) r→K S M (a.put o.dst undef) w1):cK P main fn kd ops i K S M a w:=by
 refine jr hkd ho hw fun w1 hR K' hK=>?_
 have hm1:=hm.rely hR
 have hp:=hm1.own _ (List.mem_of_getElem? hb)
 have e1:execOp a.eval o=(do Instr.storeAt t (.pointer (some ⟨b,0,none⟩)) (.agg vs.toArray);pure Next.skip):=by
  unfold execOp
  rw [hop,← hx,← hy]
 have hrun:(storeCells ⟨b,0,none⟩ vs 0).run P w1=.ok () (w1.setRow b vs.toArray):=by
  rw [run_storeCells_at P b 0 e vs 0 c w1 hp.2 ag h1]
  have:List.drop (0+0+vs.length) c.toList=[]:=List.drop_eq_nil_of_le (by simp [hlen])
  rw [this]
  simp
 have hsz:(sizeOf t).run P w1=.ok vs.length w1:=by
  cases hq:P.info? t with
  | none=>simp [hq] at hi
  | some inf=>simp [hq] at hi;simp [sizeOf,typeInfo,hq,hi]
 have hst:(Instr.storeAt t (.pointer (some ⟨b,0,none⟩)) (.agg vs.toArray)).run P w1=.ok () (w1.setRow b vs.toArray):=by
  simp [Instr.storeAt,Instr.sureAddr,storeVar,hsz,Value.cells,hrun]
 have hev:∀ ev∈(Instr.storeAt t (.pointer (some ⟨b,0,none⟩)) (.agg vs.toArray)).events P w1 #[],∃ ad,ev.loc=.cell ad∧ad.block=b:=by
  intro ev he
  have e2:(Instr.storeAt t (.pointer (some ⟨b,0,none⟩)) (.agg vs.toArray)).events P w1 #[]=(storeCells ⟨b,0,none⟩ vs 0).events P w1 #[]:=by
   simp [Instr.storeAt,Instr.sureAddr,storeVar,hsz,Value.cells]
  rw [e2] at he
  exact (events_storeCells_at (P:=P) b 0 e vs 0 c w1 #[] hp.2 ag h1 ev he).resolve_left ah
 have hrow:(w1.setRow b vs.toArray).heap[b]?=some (.cells vs.toArray e (0,0)):=setRow_heap w1 b c _ e _ hp.2
 have hne:∀ y,y≠b→(w1.setRow b vs.toArray).heap[y]?=w1.heap[y]?:=fun y hy=>by
  simp only [World.setRow,Array.getElem?_modify]
  rw [if_neg (fun z=>hy z.symm)]
 have hsize:(w1.setRow b vs.toArray).heap.size=w1.heap.size:=by simp [World.setRow]
 have lN:∀ g,g < P.globals.size→∃ c e fz,(w1.setRow b vs.toArray).heap[g]?=some (.cells c e fz):=fun g hg=>by
  by_cases q:g=b
  ·subst q;exact ⟨_,_,_,hrow⟩
  ·rw [hne g q];exact hm1.aX g hg
 rw [e1,Sem.run_bind,hst]
 refine hK _ _ M ⟨by rw [hsize];exact Nat.le_refl _,fun hl y hy=>by rw [hsize];exact hl y hy,fun _=>lN,fun y _ hn=>hne y fun q=>hn (by rw [q];exact hp.1),fun y=>⟨.inl,fun z=>z.elim id fun z=>absurd z.2 (by rw [hsize];exact Nat.not_lt.2 z.1)⟩,rfl,rfl,rfl,Nat.le_refl _,fun ev he=>?_⟩ (h _ (hm1.turn hb hrow hne hsize lN))
 have he:=iG he
 rw [e1,Sem.events_bind,hst] at he
 obtain ⟨ad,z1,z2⟩:=hev ev he
 unfold Mine
 rw [z1]
 exact ⟨by rw [z2];exact hp.1.has,fun _=>by rw [z2];exact hp.1⟩
end
def pz (id:Nat):Code→Option (Array Oper)
 | .region i ops _=>if i=id then some ops else none
 | .seq a b=>match pz id a with
  | some o=>some o
  | none=>pz id b
 | .cond _ a b=>match pz id a with
  | some o=>some o
  | none=>pz id b
 | .block _ c=>pz id c
 | .scope c=>pz id c
 | .loop c=>pz id c
 | _=>none
def opsOf (id:Nat)(b:Option Code):Array Oper:=(b.bind (pz id)).getD #[]
theorem Mm.perm {P:Program}{M:Nat→Prop}{w:World}{l l' r:List (Nat×Obj)}(h:Mm P M w l r)(hp:l.Perm l'):Mm P M w l' r :=
 ⟨fun p hq=>h.own p (hp.mem_iff.2 hq),h.rd,h.low,h.aX,h.base,((hp.append_right r).map Prod.fst).nodup_iff.1 h.nodup⟩
theorem Mid.slot {ops:Array Oper}{D:List (Option Nat)}{a0 a:Act}{val:Nat→Value}{l:Array Bool}(h:Mid ops D a0 val l a){s:Nat}(hs:some s∉D):a.eval (.tmp s)=a0.eval (.tmp s):=by
 simp only [Act.eval,Array.getD_eq_getD_getElem?,h.off s hs]
theorem aB {l:Array Bool}{i j:Nat}(h:i≠j):on (l.setIfInBounds i true) j=on l j:=by
 unfold on
 simp [Array.getD_eq_getD_getElem?,h]
theorem bP {l:Array Bool}{i:Nat}(h:i < l.size):on (l.setIfInBounds i true) i=true:=by
 rw [xS i h,if_pos rfl]
section
variable {P:Program}{a:Act}{o:Oper}{ops:Array Oper}
theorem aC {i:Nat}{p:Op}(h:(ops[i]?).map (fun o=>o.op)=some p)(ho:ops[i]?=some o):o.op=p:=by
 rw [ho] at h;exact Option.some.inj h
theorem jd (hg:o.guard=none):Region.wanted o (yielded ops a.tmps)=true:=by simp [Region.wanted,hg]
def dn (P:Program)(a:Act)(o:Oper)(v:Value):Prop:=∀ w1:World,(execOp a.eval o).run P w1=.ok (.value v) w1∧(execOp a.eval o).events P w1 #[]=#[]
theorem bK {x:Operand}{v:Value}(hop:o.op=.move x)(hx:a.eval x=v):dn P a o v:=fun w1=>by
 unfold execOp
 rw [hop,← hx]
 exact ⟨rfl,rfl⟩
theorem eB {x:Operand}{v:Value}(hop:o.op=.assign x)(hx:a.eval x=v):dn P a o v:=fun w1=>by
 unfold execOp
 rw [hop,← hx]
 exact ⟨rfl,rfl⟩
theorem jA {x:Operand}{ad:Addr}(hop:o.op=.nilCheck x)(hx:a.eval x=.pointer (some ad)):dn P a o (.pointer (some ad)):=fun w1=>by
 unfold execOp
 simp only [hop,hx]
 exact ⟨rfl,rfl⟩
theorem Ot {x:Operand}{t:TypeId}{v:Value}(hop:o.op=.nilCheck x)(hx:a.eval x=.iface t v):dn P a o (.iface t v):=fun w1=>by
 unfold execOp
 simp only [hop,hx]
 exact ⟨rfl,rfl⟩
theorem iI {t:TypeId}{x y:Operand}{ad:Addr}{len cap:Nat}{k:IntKind}{i:Int}{sz:Nat}(hop:o.op=.indexAddr t x y)(hx:a.eval x=.slice (some ad) len cap)(hy:a.eval y=.int k i)(hi:0≤i∧i < len)(hu:P.underlying t=some (.slice (P.elem t)))(hs:(P.info? (P.elem t)).map (·.size)=some sz):dn P a o (.pointer (some (ad.add (i.toNat * sz)))):=fun w1=>by
 have e1:execOp a.eval o=(do pure (Next.value (← Instr.indexAt t (.slice (some ad) len cap) (.int k i)))):=by
  unfold execOp
  rw [hop,← hx,← hy]
 have hsz:(sizeOf (P.elem t)).run P w1=.ok sz w1:=by
  cases hq:P.info? (P.elem t) with
  | none=>simp [hq] at hs
  | some inf=>simp [hq] at hs;simp [sizeOf,typeInfo,hq,hs]
 have hr:(Instr.indexAt t (.slice (some ad) len cap) (.int k i)).run P w1=.ok (.pointer (some (ad.add (i.toNat * sz)))) w1:=by
  rw [run_indexAt_slice w1 t ad len cap k i hu,if_pos hi,hsz]
  rfl
 refine ⟨?_,?_⟩
 ·rw [e1,Sem.run_bind,hr]
  rfl
 ·rw [e1,Sem.events_bind,hr,events_indexAt_slice t ad len cap k i hu hi]
  rfl
theorem Ou (w:World)(o1 o2:Obj):((w.alloc o1).alloc o2).heap[w.heap.size+1]?=some o2:=by
 show ((w.heap.push o1).push o2)[w.heap.size+1]?=some o2
 rw [show w.heap.size+1=(w.heap.push o1).size by simp,Array.getElem?_push_size]
theorem sG {t:TypeId}(hud:(P.underlying t).map TypeDesc.isRow=some true){vs:List Value}(hi:(P.info? t).map (·.size)=some vs.length){w1:World}{b:Nat}{e:TypeId}{fz:Nat×Nat}(hg:w1.heap[b]?=some (.cells vs.toArray e fz)):(loadVar t ⟨b,0,none⟩).run P w1=.ok (.agg vs.toArray) w1:=by
 obtain ⟨d,hu,hd⟩:=Option.map_eq_some_iff.1 hud
 exact run_loadVar_mid w1 b 0 t vs d (fun j v hj=>cell_of hg (by simpa using hj)) hu hd hi
theorem Fz {f:Func}{sl:Tmp}{t:TypeId}(hr:f.results=#[.cell sl t]){tmps:Array Value}{b:Nat}(hs:tmps.getD sl undef=.pointer (some ⟨b,0,none⟩))(hud:(P.underlying t).map TypeDesc.isRow=some true){vs:List Value}(hi:(P.info? t).map (·.size)=some vs.length){w1:World}{e:TypeId}{fz:Nat×Nat}(hg:w1.heap[b]?=some (.cells vs.toArray e fz)):(results f tmps).run P w1=.ok (.agg vs.toArray) w1:=by
 have hs':(tmps[sl]?).getD undef=.pointer (some ⟨b,0,none⟩):=by rw [← Array.getD_eq_getD_getElem?];exact hs
 simp [results,hr,hs',asAddr,sG hud hi hg]
section
variable {main:Bool}{fn:FuncId}{kd:CallKind}{K:ai→(Nat→Prop)→Act→World→Prop}{S:ai}{M:Nat→Prop}{w:World}{i:Nat}{l r:List (Nat×Obj)}
theorem aS (hkd:kd≠.early)(ho:ops[i]?=some o)(hw:Region.wanted o (yielded ops a.tmps)=true){v:Value}(hr:dn P a o v)(hm:Mm P M w l r)(h:∀ w1,Mm P M w1 l r→K S M (a.put o.dst v) w1):cK P main fn kd ops i K S M a w :=
 NZ hkd ho hw (fun w1=>⟨(hr w1).1,listed_nil (hr w1).2⟩) hm h
theorem eU (hkd:kd≠.early)(ho:ops[i]?=some o)(hw:Region.wanted o (yielded ops a.tmps)=true){t:TypeId}{x:Operand}(hop:o.op=.load t x){n b k:Nat}(hx:a.eval x=.pointer (some ⟨b,k,none⟩)){c:Array Value}{e:TypeId}{fz:Nat×Nat}{v:Value}(hm:Mm P M w l r)(hb:(l ++ r)[n]?=some (b,.cells c e fz))(hv:c[k]?=some v)
  (hud:(P.underlying t).map TypeDesc.isRow=some false)
  (h:∀ w1,Mm P M w1 l r→K S M (a.put o.dst v) w1):cK P main fn kd ops i K S M a w:=by
 obtain ⟨d,hu,hd⟩:=Option.map_eq_some_iff.1 hud
 refine Fb hkd ho hw hm (v:=v) (fun w1 hf=>?_) h
 have hc:=cell_of (hf _ (List.mem_of_getElem? hb)) hv
 have e1:execOp a.eval o=(do pure (Next.value (← Instr.loadAt t (.pointer (some ⟨b,k,none⟩))))):=by
  unfold execOp
  rw [hop,← hx]
 have hagg:(isAgg t).run P w1=.ok false w1:=by
  unfold isAgg
  rw [Sem.run_bind,run_underlying hu w1]
  cases d <;> simp_all
 have hr:(Instr.loadAt t (.pointer (some ⟨b,k,none⟩))).run P w1=.ok v w1:=by
  simp [Instr.loadAt,Instr.sureAddr,loadVar,hagg,hc]
 refine ⟨by rw [e1,Sem.run_bind,hr];rfl,fun ev he=>?_⟩
 have he:=iG he
 rw [e1,Sem.events_bind,hr] at he
 have he:ev∈(Instr.loadAt t (.pointer (some ⟨b,k,none⟩))).events P w1 #[]:=he
 have e2:(Instr.loadAt t (.pointer (some ⟨b,k,none⟩))).events P w1 #[]=#[⟨.cell ⟨b,k,none⟩,false,false⟩]:=by
  simp [Instr.loadAt,Instr.sureAddr,loadVar,Sem.events_bind,hagg,events_load,hc]
 rw [e2] at he
 rw [Array.mem_singleton.1 he]
 exact ⟨_,rfl,rfl,_,List.mem_of_getElem? hb,rfl⟩
def FB (P:Program)(t:TypeId)(v:Value)(name:String)(f:FuncId)(rc:Value):Prop:=∀ w1,(method (P.types.size+Made.depth) t v name).run P w1=.ok (f,rc) w1∧(method (P.types.size+Made.depth) t v name).events P w1 #[]=#[]
theorem FC (hkd:kd≠.early)(ho:ops[i]?=some o)(hw:Region.wanted o (yielded ops a.tmps)=true){recv:Operand}{name:String}{args:Array Operand}{ats:Array TypeId}(hop:o.op=.call { callee:=.invoke recv name,args:=args,argTypes:=ats }){t:TypeId}{v rc:Value}{f:FuncId}{aD:Func}(hx:a.eval recv=.iface t v)(Aj:FB P t v name f rc)(hf:P.funcs[f]?=some aD)(hname:(aD.name == "runtime.NumGoroutine")=false)(hb:aD.body.isNone=false){ys:Array Value}(hy:#[rc] ++ args.map a.eval=ys){R:fu}
  (h:bn P main f ys R S M w)(hR:∀ e S' M' w',R e S' M' w'→∃ y,e=.returned y∧K S' M' (a.put o.dst y) w'):cK P main fn kd ops i K S M a w:=by
 have h1:¬ aD.name = "runtime.NumGoroutine":=by simpa using hname
 have h2:¬ aD.body=none:=by cases hx:aD.body <;> simp_all
 have hcf:∀ w1:World,(callFunc f ys).run P w1=.ok (.enter f ys) w1∧(callFunc f ys).events P w1 #[]=#[]:=fun w1=>by
  simp [callFunc,hf,h1,h2]
 have e1:execOp a.eval o=callMethod (.iface t v) name (args.map a.eval):=by
  unfold execOp
  have h0:(#[Value.iface t v] ++ args.map a.eval)[0]?=some (.iface t v):=by
   rw [Array.getElem?_append_left ah]
   rfl
  have h3:(args.map a.eval).extract 0 args.size=args.map a.eval:=by simp
  simp [hop,resolve,invoke,hx,h0,h3]
 have e2:∀ w1:World,(execOp a.eval o).runT P w1 #[]=(.ok (.enter f ys) w1,#[]):=fun w1=>by
  rw [e1]
  unfold callMethod
  refine Prod.ext ((Sem.runT_fst _ _ _ _).trans ?_) ?_
  ·show ((Go.program >>= fun p=>method (p.types.size+Made.depth) t v name >>= fun q=>callFunc q.1 (#[q.2] ++ args.map a.eval)).run P w1)=_
   rw [Sem.run_bind]
   show ((method (P.types.size+Made.depth) t v name >>= fun q=>callFunc q.1 (#[q.2] ++ args.map a.eval)).run P w1)=_
   rw [Sem.run_bind,(Aj w1).1]
   show (callFunc f (#[rc] ++ args.map a.eval)).run P w1=_
   rw [hy]
   exact (hcf w1).1
  ·show ((Go.program >>= fun p=>method (p.types.size+Made.depth) t v name >>= fun q=>callFunc q.1 (#[q.2] ++ args.map a.eval)).events P w1 #[])=_
   rw [Sem.events_bind]
   show ((method (P.types.size+Made.depth) t v name >>= fun q=>callFunc q.1 (#[q.2] ++ args.map a.eval)).events P w1 #[])=_
   rw [Sem.events_bind,(Aj w1).1,(Aj w1).2]
   show (callFunc f (#[rc] ++ args.map a.eval)).events P w1 #[]=_
   rw [hy]
   exact (hcf w1).2
 intro b k cs rest hb2 hkind hc
 refine aj.idle (g':=ax (Frame.enter P f ys .normal) (b.at a (.inRegion ops (i :: rest) :: k) :: cs)) rfl (fun w2=>?_) ?_
 ·refine (stepG_oper (P:=P) (main:=main) (b:=b) (a:=a) (k:=k) (cs:=cs) (w:=w2) (rest:=rest) ho hw).trans ?_
  have hke:((b.at a (.inRegion ops (i :: rest) :: k)).kind == CallKind.early)=false:=by show (b.kind == _)=_;rw [hkind];exact qm hkd
  unfold stepG.apply
  simp only [if_true,e2,hke,Bool.false_eq_true,if_false,GStep.after,Array.append_empty]
  rfl
 ·refine h _ cs (fun y S' M' w' q=>?_) (fun ch S' M' w' q=>?_)
  ·obtain ⟨y',e,hk⟩:=hR _ _ _ _ q
   cases e
   rw [xm b k ho]
   exact hc _ _ _ _ hk
  ·obtain ⟨y',e,_⟩:=hR _ _ _ _ q
   cases e
theorem qH (hkd:kd≠.early)(ho:ops[i]?=some o)(hw:Region.wanted o (yielded ops a.tmps)=true){t:TypeId}(hop:o.op=.alloc t){z:Value}(hiz:(P.info? t).bind (·.zero)=some z)(hm:Mm P M w l r)
  (h:∀ b w1,Mm P (plus M b) w1 (l ++ [(b,.cells z.cells t (0,0))]) r→K S (plus M b) (a.put o.dst (.pointer (some ⟨b,0,none⟩))) w1):cK P main fn kd ops i K S M a w:=by
 obtain ⟨inf,hi,hz⟩:=Option.bind_eq_some_iff.1 hiz
 have e1:execOp a.eval o=(do pure (Next.value (← Instr.alloc t true (.tuple #[])))):=by
  unfold execOp
  rw [hop]
 have lS:∀ w1:World,(zeroValue t).run P w1=.ok z w1:=fun w1=>by simp [zeroValue,typeInfo,hi,hz]
 have hr:∀ w1:World,(Instr.alloc t true (.tuple #[])).run P w1=.ok (.pointer (some ⟨w1.heap.size,0,none⟩)) (w1.alloc (.cells z.cells t (0,0))):=fun w1=>by
  simp [Instr.alloc,lS,newVar,newRow]
 refine Ff hkd ho hw hm (ob:=.cells z.cells t (0,0)) (fun w1=>⟨by rw [e1,Sem.run_bind,hr];rfl,listed_nil ?_⟩) h
 rw [e1,Sem.events_bind,hr]
 show (Instr.alloc t true (.tuple #[])).events P w1 #[]=#[]
 simp [Instr.alloc,lS,newVar,newRow,Sem.events_bind]
end
end
section
variable {P:Program}{main:Bool}{fn:FuncId}{kd:CallKind}{K:ai→(Nat→Prop)→Act→World→Prop}{S:ai}{M:Nat→Prop}{a:Act}{w:World}{ops:Array Oper}{i:Nat}{o:Oper}{l r:List (Nat×Obj)}
theorem FD (hkd:kd≠.early)(ho:ops[i]?=some o)(hw:Region.wanted o (yielded ops a.tmps)=true){cs0:Array CommCase}{sh:CommShape}(hrun:∀ w1,(execOp a.eval o).runT P w1 #[]=(.ok (.comm cs0 true sh) w1,#[]))
  (hS:∀ g g2,nH P main cs0 sh g g2→(∀ S' j v ok M' w',K S' M' (a.put o.dst (commResult cs0 sh j v ok)) w'→aj P main S' M' (g2.finishComm P cs0 sh j v ok) w')→∀ w1,ay P M w w1→S M g w1):cK P main fn kd ops i K S M a w:=by
 intro b k cs rest hb hkind hc
 refine .stop fun w1 hr=>hS _ (ax (b.at a (.inRegion ops (i :: rest) :: k)) cs) ⟨rfl,fun w2=>?_⟩ (fun S' j v ok M' w' uG=>?_) w1 hr
 ·refine (stepG_oper (P:=P) (main:=main) (b:=b) (a:=a) (k:=k) (cs:=cs) (w:=w2) (rest:=rest) ho hw).trans ?_
  have hke:(b.kind == CallKind.early)=false:=by rw [hkind];exact qm hkd
  unfold stepG.apply
  simp only [if_true,hrun,Frame.at,hke,Bool.false_eq_true,if_false,GStep.after,Array.append_empty]
  rfl
 ·have hfin:(ax (b.at a (.inRegion ops (i :: rest) :: k)) cs).finishComm P cs0 sh j v ok=ax (b.at (a.put o.dst (commResult cs0 sh j v ok)) (.inRegion ops rest :: k)) cs:=by
   unfold Goroutine.finishComm ax
   simp only [Frame.finish_at,ho]
   rfl
  rw [hfin]
  exact hc _ _ _ _ uG
theorem FE {x y:Operand}{c:Nat}{v:Value}(hop:o.op=.send x y)(hx:a.eval x=.chan (some c))(hy:a.eval y=v):∀ w1,(execOp a.eval o).runT P w1 #[]=(.ok (.comm #[scase c v undef] true .send) w1,#[]):=fun w1=>by
 have e:execOp a.eval o=Pure.pure (Next.comm #[scase c v undef] true .send):=by
  unfold execOp
  simp only [hop,hx,hy]
  rfl
 rw [e]
 rfl
theorem nU (hkd:kd≠.early)(ho:ops[i]?=some o)(hw:Region.wanted o (yielded ops a.tmps)=true){f:FuncId}{aD:Func}{args:Array Operand}{ats:Array TypeId}(hop:o.op=.call { callee:=.value (.func f),args:=args,argTypes:=ats })(hf:P.funcs[f]?=some aD)(hname:(aD.name == "runtime.NumGoroutine")=false)(hb:aD.body.isNone=false){ys:Array Value}(hy:args.map a.eval=ys){R:fu}
  (h:bn P main f ys R S M w)(hR:∀ e S' M' w',R e S' M' w'→∃ y,e=.returned y∧K S' M' (a.put o.dst y) w'):cK P main fn kd ops i K S M a w:=by
 intro b k cs rest hb2 hkind hc
 refine aj.idle (g':=ax (Frame.enter P f ys .normal) (b.at a (.inRegion ops (i :: rest) :: k) :: cs)) rfl (fun w2=>?_) ?_
 ·refine (stepG_oper (P:=P) (main:=main) (b:=b) (a:=a) (k:=k) (cs:=cs) (w:=w2) (rest:=rest) ho hw).trans ?_
  have hke:((b.at a (.inRegion ops (i :: rest) :: k)).kind == CallKind.early)=false:=by show (b.kind == _)=_;rw [hkind];exact qm hkd
  have e2:(execOp a.eval o).runT P w2 #[]=(.ok (.enter f ys) w2,#[]):=Prod.ext ((Sem.runT_fst _ _ _ _).trans (by rw [run_call_body hop hf hname hb,hy])) (events_call_body hop hf hname hb #[])
  unfold stepG.apply
  simp only [if_true,e2,hke,Bool.false_eq_true,if_false,GStep.after,Array.append_empty]
  rfl
 ·refine h _ cs (fun y S' M' w' q=>?_) (fun ch S' M' w' q=>?_)
  ·obtain ⟨y',e,hk⟩:=hR _ _ _ _ q
   cases e
   rw [xm b k ho]
   exact hc _ _ _ _ hk
  ·obtain ⟨y',e,_⟩:=hR _ _ _ _ q
   cases e
theorem ik {t:TypeId}{parts:Array (Nat×Operand)}(hop:o.op=.build t parts){vs:List (Nat×Value)}(hv:parts.toList.map (fun q=>(q.1,a.eval q.2))=vs){cells:Array Value}(hb:P.built t vs=some cells):dn P a o (.agg cells):=fun w1=>by
 have e:execOp a.eval o=(do pure (Next.value (← Instr.build t (parts.map fun q=>(q.1,a.eval q.2))))):=by
  unfold execOp
  rw [hop]
 have e2:(parts.map fun q=>(q.1,a.eval q.2)).toList=vs:=by rw [Array.toList_map];exact hv
 refine ⟨?_,?_⟩
 ·rw [e,Sem.run_bind,run_build w1 t _ cells (by rw [e2];exact hb)]
  rfl
 ·rw [e]
  exact fU.bind (Fs P t _) (fun _ _ _=>rfl) w1 #[]
theorem bZ {t:TypeId}{x:Operand}{k b off fo:Nat}(hop:o.op=.fieldAddr t x k)(hx:a.eval x=.pointer (some ⟨b,off,none⟩))(hf:((P.underlying t).bind fun d=>match d with | .struct fs=>(fs[k]?).bind fun f=>(P.info? f.type).bind fun i=>if i.size=0 then none else some f.offset | _=>none)=some fo):dn P a o (.pointer (some ⟨b,off+fo,none⟩)):=fun w1=>by
 obtain ⟨d,hu,hf⟩:=Option.bind_eq_some_iff.1 hf
 cases d with
 | struct fs =>
  obtain ⟨f,h1,hf⟩:=Option.bind_eq_some_iff.1 hf
  obtain ⟨inf,h2,hf⟩:=Option.bind_eq_some_iff.1 hf
  have hsz:¬ inf.size=0:=fun z=>by simp [z] at hf
  have hfo:f.offset=fo:=by simpa [hsz] using hf
  have e:execOp a.eval o=(do pure (Next.value (← Instr.fieldAt t (.pointer (some ⟨b,off,none⟩)) k))):=by
   unfold execOp
   rw [hop,← hx]
  have hs:(sizeOf f.type).run P w1=.ok inf.size w1:=by simp [sizeOf,typeInfo,h2]
  have hadd:(⟨b,off,none⟩:Addr).add f.offset=⟨b,off+fo,none⟩:=by rw [hfo,Addr.add_mid]
  have hr:(Instr.fieldAt t (.pointer (some ⟨b,off,none⟩)) k).run P w1=.ok (.pointer (some ⟨b,off+fo,none⟩)) w1:=by
   simp [Instr.fieldAt,run_underlying hu,h1,Instr.sureAddr,fieldPlace,hs,hsz,hadd]
  have he:(Instr.fieldAt t (.pointer (some ⟨b,off,none⟩)) k).events P w1 #[]=#[]:=by
   simp [Instr.fieldAt,run_underlying hu,h1,Instr.sureAddr,fieldPlace,hs,hsz,Sem.events_bind]
  exact ⟨by rw [e,Sem.run_bind,hr];rfl,by rw [e,Sem.events_bind,hr,he];rfl⟩
 | _=>simp at hf
end
section
variable {P:Program}{Y:aN}{p:Post}{fn:FuncId}{kd:CallKind}{K:ai→(Nat→Prop)→Act→World→Prop}{M:Nat→Prop}{a:Act}{w:World}{ops:Array Oper}{i:Nat}{o:Oper}{wl:List (Nat×Obj)}{ob:Obj}{n:Nat}{q:Y.bL}{s s':Y.σ}{v:Array Value}
theorem Oy (hkd:kd≠.early)(ho:ops[i]?=some o)(hw:Region.wanted o (yielded ops a.tmps)=true)(hrun:∀ w1,(execOp a.eval o).runT P w1 #[]=(.ok (.comm #[scase p.arr (.agg v) undef] true .send) w1,#[])){q':Y.bL}(hl:Y.dM q s=(s',v,some q'))(bF:ob=p.ob)(hm:Mm P M w ((p.pb,ob) :: (wl ++ Y.sh s')) [])
  (h:∀ M' w',Mm P M' w' wl [(p.pb,ob)]→K (nR P Y p n q') M' (a.put o.dst undef) w'):cK P false fn kd ops i K (dP P Y p n q s) M a w:=by
 refine FD hkd ho hw hrun fun g g2 hcm hcont w1 hrel=>?_
 obtain ⟨k1,k2,k3⟩:=(hm.rely hrel).rA
 show o7 P Y p (fQ P Y p n) q s M g w1
 unfold o7
 rw [hl]
 exact ⟨g2,hcm,less M (fw Y.B p.pb),Ag k1,fun c hc hn=>hn.2 hc,k2,fun _=>(by rw [← bF];exact (k3.rd _ (List.mem_singleton.2 rfl)).2),fun w2 hr=>hcont _ 0 undef false _ _ (h _ _ (k3.rely hr))⟩
theorem Oz (hkd:kd≠.early)(ho:ops[i]?=some o)(hw:Region.wanted o (yielded ops a.tmps)=true)(hrun:∀ w1,(execOp a.eval o).runT P w1 #[]=(.ok (.comm #[scase p.arr (.agg v) undef] true .send) w1,#[]))(hl:Y.dM q s=(s',v,none))(hm:Mm P M w ((p.pb,ob) :: (wl ++ Y.sh s')) [])
  (h:∀ M' w',Mm P M' w' ((p.pb,ob) :: wl) []→K (nQ P p) M' (a.put o.dst undef) w'):cK P false fn kd ops i K (dP P Y p n q s) M a w:=by
 refine FD hkd ho hw hrun fun g g2 hcm hcont w1 hrel=>?_
 obtain ⟨k1,k2,k3⟩:=(hm.rely hrel).quit
 show o7 P Y p (fQ P Y p n) q s M g w1
 unfold o7
 rw [hl]
 exact ⟨g2,hcm,less M (vF Y.B),Ag k1,fun c hc hn=>hn.2 hc,k2,fun z=>(by cases z),fun w2 hr=>hcont _ 0 undef false _ _ (h _ _ (k3.rely hr))⟩
end
def jB:Nat→Value→Bool
 | 0,_=>false
 | n+1,v=>match v with
  | .bool _ | .int _ _ | .float _ _ | .string _ | .pointer none | .slice none _ _ | .map none | .chan none | .nilFunc | .nilIface=>true
  | .agg xs=>xs.all (jB n)
  | .tuple xs=>xs.all (jB n)
  | _=>false
theorem FF {K:av}{n:Nat}(ih:∀ v,jB n v=true→VR K v v){xs:Array Value}(h:xs.all (jB n)=true):∀ (i:Nat)(x y:Value),xs[i]?=some x→xs[i]?=some y→VR K x y:=fun i x y hx hy=>by
 rw [hx] at hy
 cases hy
 rw [Array.all_eq_true] at h
 have hi:=(Array.getElem?_eq_some_iff.1 hx)
 exact ih x (hi.2 ▸ h i hi.1)
theorem Al (K:av):∀ (n:Nat)(v:Value),jB n v=true→VR K v v
 | 0,_,h=>by simp [jB] at h
 | n+1,v,h=>by
  cases v with
  | bool b=>exact .bool b
  | int k i=>exact .int k i
  | float k i=>exact .float k i
  | string s=>exact .string s
  | pointer o=>cases o with
   | none=>exact .dU
   | some _=>simp [jB] at h
  | slice o l c=>cases o with
   | none=>exact .bX l c
   | some _=>simp [jB] at h
  | map o=>cases o with
   | none=>exact .kg
   | some _=>simp [jB] at h
  | chan o=>cases o with
   | none=>exact .ko
   | some _=>simp [jB] at h
  | nilFunc=>exact .nilFunc
  | nilIface=>exact .nilIface
  | agg xs=>exact .agg xs xs rfl (FF (Al K n) (by simpa [jB] using h))
  | tuple xs=>exact .tuple xs xs rfl (FF (Al K n) (by simpa [jB] using h))
  | _=>simp [jB] at h
def nV (v:Value):Prop:=∀ K,VR K v v
theorem Am {xs:Array Value}(h:∀ c∈xs,nV c):nV (.agg xs):=fun K=>.agg xs xs rfl fun i x y hx hy=>by
 rw [hx] at hy;cases hy;exact h x (Array.mem_of_getElem? hx) K
theorem FH {v:Value}(h:nV v):∀ c∈v.cells,nV c:=by
 cases v with
 | agg xs =>
  intro c hc K
  have:=h K
  cases this with
  | agg _ _ _ q =>
   obtain ⟨i,hi,e⟩:=Array.mem_iff_getElem.1 (show c∈xs from hc)
   have e:xs[i]?=some c:=by rw [Array.getElem?_eq_getElem hi,e]
   exact q i c c e e
 | _=>intro c hc;rw [show c=_ from Array.mem_singleton.1 hc];exact h
def mJ (i:TypeInfo):Prop:=(∀ v,i.zero=some v→nV v)∧∀ u,i.desc≠.named "sync.copyChecker" u
theorem FI {α β:Type}{Inv:β→Prop}{f:α→β→Option (ForInStep β)}(hf:∀ a s r,Inv s→f a s=some r→∃ s',r=.yield s'∧Inv s'):∀ (l:List α)(s r:β),Inv s→forIn l s f=some r→Inv r
 | [],s,r,hs,h=>by
  simp at h
  exact h ▸ hs
 | a :: l,s,r,hs,h=>by
  rw [List.forIn_cons] at h
  obtain ⟨q,h1,h2⟩:=Option.bind_eq_some_iff.1 h
  obtain ⟨s',rfl,h3⟩:=hf a s q hs h1
  exact FI hf l s' r h3 h2
theorem sI {d:TypeDesc}{s:String}{z:Value}{b:Bool}{n:Nat}(hz:nV z)(hd:∀ u,d≠.named "sync.copyChecker" u):mJ (Made.word d s z b n):=⟨fun v h=>by
 cases h;exact hz,hd⟩
theorem OA {info:TypeId→Option TypeInfo}(hi:∀ t i,info t=some i→mJ i){fs:Array Field}{i:TypeInfo}(h:Made.reckonStruct info fs=some i):mJ i:=by
 unfold Made.reckonStruct at h
 obtain ⟨st,h1,h2⟩:=Option.bind_eq_some_iff.1 h
 rw [← Array.forIn_toList] at h1
 have hz:=FI (Inv:=fun st:Array Field×Nat×Nat×Nat×Nat×Bool×Bool×Option (Array Value)×String=>∀ z,st.2.2.2.2.2.2.2.1=some z→∀ c∈z,nV c) (fun f s r hs hr=>by
  obtain ⟨j,hj,hr⟩:=Option.bind_eq_some_iff.1 hr
  have hok:=hi _ _ hj
  simp only [] at hr
  split at hr
  ·cases hr
  split at hr
  ·cases hr
  have fin:∀ (s1:Array Field) (s2 s3 s4 s5:Nat) (s6 s7:Bool) (s9:String),∀ z,(if s2 > Made.mostCells then none else (do let a ← s.2.2.2.2.2.2.2.1;let b ← j.zero;pure (a ++ b.cells)):Option (Array Value))=some z→∀ c∈z,nV c:=fun s1 s2 s3 s4 s5 s6 s7 s9 z hz=>by
   split at hz
   ·cases hz
   obtain ⟨a,ha,hz⟩:=Option.bind_eq_some_iff.1 hz
   obtain ⟨b,hb,hz⟩:=Option.bind_eq_some_iff.1 hz
   cases hz
   intro c hc
   rcases Array.mem_append.1 hc with q | q
   ·exact hs a ha c q
   ·exact FH (hok.1 b hb) c q
  split at hr
  ·obtain ⟨tg,_,hr⟩:=Option.bind_eq_some_iff.1 hr
   split at hr <;> (cases hr;exact ⟨_,rfl,fin #[] _ 0 0 0 false false ""⟩)
  ·obtain ⟨tg,_,hr⟩:=Option.bind_eq_some_iff.1 hr
   split at hr <;> (cases hr;exact ⟨_,rfl,fin #[] _ 0 0 0 false false ""⟩)) fs.toList _ st (fun z hz=>by cases hz;intro c hc;simp at hc) h1
 simp only [] at h2
 have fin:∀ v,Option.map Value.agg st.2.2.2.2.2.2.2.1=some v→nV v:=fun v hv=>by
  obtain ⟨z,h3,rfl⟩:=Option.map_eq_some_iff.1 hv
  exact Am (hz z h3)
 split at h2 <;> (cases h2;exact ⟨fin,nofun⟩)
theorem OB {info:TypeId→Option TypeInfo}(hi:∀ t i,info t=some i→mJ i){d:TypeDesc}{i:TypeInfo}(h:Made.reckon info d=some i):mJ i:=by
 unfold Made.reckon at h
 split at h
 ·obtain ⟨j,_,h⟩:=Option.bind_eq_some_iff.1 h
  split at h
  ·cases h
  ·split at h
   ·cases h
   ·obtain ⟨s,_,h⟩:=Option.bind_eq_some_iff.1 h
    cases h;exact sI (fun _=>.dU) nofun
  ·obtain ⟨s,_,h⟩:=Option.bind_eq_some_iff.1 h
   cases h;exact sI (fun _=>.dU) nofun
 ·obtain ⟨j,_,h⟩:=Option.bind_eq_some_iff.1 h
  obtain ⟨s,_,h⟩:=Option.bind_eq_some_iff.1 h
  cases h;exact sI (fun _=>.bX _ _) nofun
 ·obtain ⟨j,_,h⟩:=Option.bind_eq_some_iff.1 h
  obtain ⟨s,_,h⟩:=Option.bind_eq_some_iff.1 h
  obtain ⟨j,_,h⟩:=Option.bind_eq_some_iff.1 h
  obtain ⟨s,_,h⟩:=Option.bind_eq_some_iff.1 h
  cases h;exact sI (fun _=>.kg) nofun
 ·obtain ⟨j,_,h⟩:=Option.bind_eq_some_iff.1 h
  obtain ⟨s,_,h⟩:=Option.bind_eq_some_iff.1 h
  cases h;exact sI (fun _=>.ko) nofun
 ·obtain ⟨s,_,h⟩:=Option.bind_eq_some_iff.1 h
  cases h;exact sI (fun _=>.nilFunc) nofun
 ·obtain ⟨j,hj,h⟩:=Option.bind_eq_some_iff.1 h
  obtain ⟨s,_,h⟩:=Option.bind_eq_some_iff.1 h
  cases h
  refine ⟨fun v hv=>?_,nofun⟩
  simp only at hv
  split at hv
  ·cases hv
  split at hv
  ·cases hv;exact Am fun c hc=>by simp at hc
  obtain ⟨z,hz,rfl⟩:=Option.map_eq_some_iff.1 hv
  refine Am fun c hc=>?_
  obtain ⟨r,hr,hc⟩:=Array.mem_flatten.1 hc
  rw [(Array.mem_replicate.1 hr).2] at hc
  exact FH ((hi _ _ hj).1 z hz) c hc
 ·exact OA hi h
 ·cases h
theorem FJ {T:Tables}(hT:∀ t i,t < T.types.size→T.types[t]?=some i→mJ i):∀ n t i,Made.infoAt T n t=some i→mJ i
 | 0,_,_,h=>by simp [Made.infoAt] at h
 | n+1,t,i,h=>by
  rw [Made.infoAt] at h
  split at h
  ·rename_i q;exact hT t i q h
  ·obtain ⟨d,_,h⟩:=Option.bind_eq_some_iff.1 h
   exact OB (FJ hT n) h
theorem OC {T:Tables}(hT:∀ t i,t < T.types.size→T.types[t]?=some i→mJ i)(t:TypeId)(i:TypeInfo)(h:T.info? t=some i):mJ i:=by
 unfold Tables.info? at h
 split at h
 ·rename_i q;exact hT t i q h
 ·exact FJ hT _ t i h
theorem OD {info:TypeId→Option TypeInfo}{fs:Array Field}{i:TypeInfo}(h:Made.reckonStruct info fs=some i):i.methods=#[]:=by
 unfold Made.reckonStruct at h
 obtain ⟨st,_,h2⟩:=Option.bind_eq_some_iff.1 h
 simp only [] at h2
 split at h2 <;> (cases h2;rfl)
theorem OE {info:TypeId→Option TypeInfo}{d:TypeDesc}{i:TypeInfo}(h:Made.reckon info d=some i):i.methods=#[]:=by
 unfold Made.reckon at h
 split at h
 ·obtain ⟨j,_,h⟩:=Option.bind_eq_some_iff.1 h
  split at h
  ·cases h
  ·split at h
   ·cases h
   ·obtain ⟨s,_,h⟩:=Option.bind_eq_some_iff.1 h
    cases h;rfl
  ·obtain ⟨s,_,h⟩:=Option.bind_eq_some_iff.1 h
   cases h;rfl
 ·obtain ⟨j,_,h⟩:=Option.bind_eq_some_iff.1 h
  obtain ⟨s,_,h⟩:=Option.bind_eq_some_iff.1 h
  cases h;rfl
 ·obtain ⟨j,_,h⟩:=Option.bind_eq_some_iff.1 h
  obtain ⟨s,_,h⟩:=Option.bind_eq_some_iff.1 h
  obtain ⟨j,_,h⟩:=Option.bind_eq_some_iff.1 h
  obtain ⟨s,_,h⟩:=Option.bind_eq_some_iff.1 h
  cases h;rfl
 ·obtain ⟨j,_,h⟩:=Option.bind_eq_some_iff.1 h
  obtain ⟨s,_,h⟩:=Option.bind_eq_some_iff.1 h
  cases h;rfl
 ·obtain ⟨s,_,h⟩:=Option.bind_eq_some_iff.1 h
  cases h;rfl
 ·obtain ⟨j,hj,h⟩:=Option.bind_eq_some_iff.1 h
  obtain ⟨s,_,h⟩:=Option.bind_eq_some_iff.1 h
  cases h;rfl
 ·exact OD h
 ·cases h
theorem OG {T:Tables}{n t:Nat}{i:TypeInfo}(h:Made.infoAt T n t=some i)(ht:¬ t < T.types.size):i.methods=#[]:=by
 cases n with
 | zero=>simp [Made.infoAt] at h
 | succ n =>
  rw [Made.infoAt,if_neg ht] at h
  obtain ⟨d,_,h⟩:=Option.bind_eq_some_iff.1 h
  exact OE h
theorem OH {T:Tables}{t:TypeId}{i:TypeInfo}(h:T.info? t=some i):T.types[t]?=some i∧t < T.types.size∨i.methods=#[]:=by
 unfold Tables.info? at h
 split at h
 ·rename_i q;exact .inl ⟨h,q⟩
 ·rename_i q;exact .inr (OG h q)
def Ao (P:Program)(G:FuncId→Bool):Bool:=(List.range P.types.size).all fun t=>match P.types[t]? with
 | some i=>i.methods.all fun m=>!(G (mc m.name)) || (m.path.isEmpty && (match m.func with | some (f,pr)=>G f && (pr || !(P.underlying t matches some (.pointer _))) | none=>false))
 | none=>true
theorem OJ {P:Program}{G:FuncId→Bool}(h:Ao P G=true)(n:String)(hn:G (mc n)=true):wO P (G ·=true) n:=fun t i m hi hm=>by
 unfold Ao at h
 rw [List.all_eq_true] at h
 have he:(m.name == n)=true:=by simpa using Array.find?_some hm
 have he:m.name=n:=by simpa using he
 have hin:m∈i.methods:=Array.mem_of_find?_eq_some hm
 rcases OH hi with ⟨q,hlt⟩ | q
 ·have h:=h t (List.mem_range.2 hlt)
  rw [q] at h
  simp only [Array.all_eq_true'] at h
  have h:=h m hin
  rw [he,hn] at h
  simp only [Bool.not_true,Bool.false_or,Bool.and_eq_true] at h
  obtain ⟨h1,h2⟩:=h
  refine ⟨by simpa using h1,?_⟩
  cases hf:m.func with
  | none=>rw [hf] at h2;cases h2
  | some p =>
   obtain ⟨f,pr⟩:=p
   rw [hf] at h2
   simp only [Bool.and_eq_true,Bool.or_eq_true] at h2
   refine ⟨f,pr,rfl,h2.1,h2.2.imp id fun z e hu=>?_⟩
   rw [hu] at z
   simp at z
 ·rw [q] at hin;simp at hin
def xV (P:Program)(n:Nat):Bool:=(List.range P.types.size).all fun t=>match P.types[t]? with
 | some i=>(match i.zero with | some v=>jB n v | none=>true) && (match i.desc with | .named s _=>!(s == "sync.copyChecker") | _=>true)
 | none=>true
theorem OK {P:Program}{n:Nat}(h1:xV P n=true):Fit P:=by
 unfold xV at h1
 rw [List.all_eq_true] at h1
 have ty:∀ t i,P.info? t=some i→mJ i:=OC fun t i ht hi=>by
  have:=h1 t (List.mem_range.2 ht)
  rw [hi] at this
  simp only [Bool.and_eq_true] at this
  refine ⟨fun v hz K=>?_,fun u hd=>?_⟩
  ·have:=this.1
   rw [hz] at this
   exact Al K n v this
  ·have:=this.2
   rw [hd] at this
   simp at this
 exact ⟨fun t i v hi hz K=>(ty t i hi).1 v hz K,fun t i u hi hd=>(ty t i hi).2 u hd⟩
section
variable {P:Program}{main:Bool}{fn:FuncId}{kd:CallKind}{Q:aZ}{K:ai→(Nat→Prop)→Act→World→Prop}{S:ai}{M:Nat→Prop}{a:Act}{w:World}{ops:Array Oper}{i:Nat}{rest:List Nat}{o:Oper}{l r:List (Nat×Obj)}{d:Option Tmp}{p:Op}
def aV (ops:Array Oper)(i:Nat)(d:Option Tmp)(p:Op):Prop:=(ops[i]?).map (fun o=>(o.dst,o.op,o.guard.isNone))=some (d,p,true)
theorem aV.at (h:aV ops i d p)(a:Act):∃ o,ops[i]?=some o∧o.dst=d∧o.op=p∧Region.wanted o (yielded ops a.tmps)=true:=by
 unfold aV at h
 obtain ⟨o,h1,h2⟩:=Option.map_eq_some_iff.1 h
 simp only [Prod.mk.injEq,Option.isNone_iff_eq_none] at h2
 exact ⟨o,h1,h2.1,h2.2.1,jd h2.2.2⟩
theorem lT {v:Value}{s x:Nat}(h:s < a.tmps.size):(a.put (some s) v).eval (.tmp x)=if x=s then v else a.eval (.tmp x):=by
 by_cases e:x=s
 ·subst e;rw [if_pos rfl];exact Fy h
 ·rw [if_neg e]
  simp only [Act.eval,Array.getD_eq_getD_getElem?,eval_put_ne e]
theorem bV {v:Value}:a.put none v=a:=rfl
theorem size_put {v:Value}{s:Nat}:(a.put (some s) v).tmps.size=a.tmps.size:=by simp [Act.put]
theorem eP {v:Value}{s x:Nat}(h:s < a.tmps.size:=by first | omega | (simp only [size_put];omega)):(a.put (some s) v).eval (.tmp x)=if x=s then v else a.eval (.tmp x):=lT h
theorem eN {v:Value}{s x:Nat}(h:s < a.tmps.size:=by first | omega | (simp only [size_put];omega))(e:¬ x=s:=by decide):(a.put (some s) v).eval (.tmp x)=a.eval (.tmp x):=by rw [lT h,if_neg e]
theorem bO {v:Value}{s:Nat}:(a.put (some s) v).defers=a.defers:=rfl
theorem kG {id:Nat}(l:List Nat)(h:aG P main fn kd ops l Q S M a w)(hl:List.range ops.size=l:=by kernel_rfl):aM P main fn kd (.region id ops false) Q S M a w:=xe (hl ▸ h)
theorem sM (hkd:kd≠.early)(hi:aV ops i d p){v:Value}(hr:∀ o,o.op=p→dn P a o v)(hm:Mm P M w l r)(h:∀ w1,Mm P M w1 l r→aG P main fn kd ops rest Q S M (a.put d v) w1):aG P main fn kd ops (i :: rest) Q S M a w:=by
 obtain ⟨o,ho,rfl,hop,hw⟩:=hi.at a
 exact dx (aS hkd ho hw (hr o hop) hm h)
theorem kR {v:Value}(hr:∀ o,o.op=p→dn P a o v)(hm:Mm P M w l r)(h:∀ w1,Mm P M w1 l r→aG P main fn kd ops rest Q S M (a.put d v) w1)(hkd:kd≠.early:=by decide)(hi:aV ops i d p:=by unfold aV;kernel_rfl):aG P main fn kd ops (i :: rest) Q S M a w:=sM hkd hi hr hm h
theorem kM {v:Value}(s t:Nat)(hm:Mm P M w l r)(h:∀ w1,Mm P M w1 l r→aG P main fn kd ops rest Q S M (a.put (some s) v) w1)(hx:a.eval (.tmp t)=v:=by (repeat rw [eN]);first | (rw [eP];rfl) | assumption)(hkd:kd≠.early:=by decide)(hi:aV ops i (some s) (.move (.tmp t)):=by unfold aV;kernel_rfl):aG P main fn kd ops (i :: rest) Q S M a w:=sM hkd hi (fun _ ho=>bK ho hx) hm h
theorem kS {v:Value}(s t:Nat)(hm:Mm P M w l r)(h:∀ w1,Mm P M w1 l r→aG P main fn kd ops rest Q S M (a.put (some s) v) w1)(hx:a.eval (.tmp t)=v:=by (repeat rw [eN]);first | (rw [eP];rfl) | assumption)(hkd:kd≠.early:=by decide)(hi:aV ops i (some s) (.assign (.tmp t)):=by unfold aV;kernel_rfl):aG P main fn kd ops (i :: rest) Q S M a w:=sM hkd hi (fun _ ho=>eB ho hx) hm h
theorem kN {ad:Addr}(s t:Nat)(hm:Mm P M w l r)(h:∀ w1,Mm P M w1 l r→aG P main fn kd ops rest Q S M (a.put (some s) (.pointer (some ad))) w1)(hx:a.eval (.tmp t)=.pointer (some ad):=by (repeat rw [eN]);first | (rw [eP];rfl) | assumption)(hkd:kd≠.early:=by decide)(hi:aV ops i (some s) (.nilCheck (.tmp t)):=by unfold aV;kernel_rfl):aG P main fn kd ops (i :: rest) Q S M a w:=sM hkd hi (fun _ ho=>jA ho hx) hm h
theorem kP {b off fo:Nat}(s:Nat)(ty:TypeId)(t k:Nat)(hm:Mm P M w l r)(h:∀ w1,Mm P M w1 l r→aG P main fn kd ops rest Q S M (a.put (some s) (.pointer (some ⟨b,off+fo,none⟩))) w1)(hx:a.eval (.tmp t)=.pointer (some ⟨b,off,none⟩):=by (repeat rw [eN]);first | (rw [eP];rfl) | assumption)(hf:((P.underlying ty).bind fun d=>match d with | .struct fs=>(fs[k]?).bind fun f=>(P.info? f.type).bind fun i=>if i.size=0 then none else some f.offset | _=>none)=some fo:=by kernel_rfl)(hkd:kd≠.early:=by decide)(hi:aV ops i (some s) (.fieldAddr ty (.tmp t) k):=by unfold aV;kernel_rfl):aG P main fn kd ops (i :: rest) Q S M a w:=sM hkd hi (fun _ ho=>bZ ho hx hf) hm h
theorem eV {p:Prop}(h:p:=by (repeat rw [eN]);first | (rw [eP];rfl) | assumption):p:=h
theorem eO {p:Prop}(h:p:=by (try simp only [bV,size_put]);omega):p:=h
theorem bJ {p:Prop}(h:p:=by (try simp only [bV,size_put,bO]);assumption):p:=h
theorem eI {p:Prop}(h:p:=by unfold aV;kernel_rfl):p:=h
theorem O0 (hkd:kd≠.early){t:TypeId}{x:Operand}(hi:aV ops i d (.load t x)){n b k:Nat}(hx:a.eval x=.pointer (some ⟨b,k,none⟩)){c:Array Value}{e:TypeId}{fz:Nat×Nat}{v:Value}(hm:Mm P M w l r)(hb:(l ++ r)[n]?=some (b,.cells c e fz))(hv:c[k]?=some v)(hud:(P.underlying t).map TypeDesc.isRow=some false)
  (h:∀ w1,Mm P M w1 l r→aG P main fn kd ops rest Q S M (a.put d v) w1):aG P main fn kd ops (i :: rest) Q S M a w:=by
 obtain ⟨o,ho,rfl,hop,hw⟩:=hi.at a
 exact dx (eU hkd ho hw hop hx hm hb hv hud h)
theorem kL {t:TypeId}{x:Operand}{n b k:Nat}(hx:a.eval x=.pointer (some ⟨b,k,none⟩)){c:Array Value}{e:TypeId}{fz:Nat×Nat}{v:Value}(hm:Mm P M w l r)(hb:(l ++ r)[n]?=some (b,.cells c e fz))(hv:c[k]?=some v)(h:∀ w1,Mm P M w1 l r→aG P main fn kd ops rest Q S M (a.put d v) w1)(hud:(P.underlying t).map TypeDesc.isRow=some false:=by kernel_rfl)(hkd:kd≠.early:=by decide)(hi:aV ops i d (.load t x):=by unfold aV;kernel_rfl):aG P main fn kd ops (i :: rest) Q S M a w:=O0 hkd hi hx hm hb hv hud h
theorem qJ (hkd:kd≠.early){aD:Func}(hfn:P.funcs[fn]?=some aD)(hnr:aD.norace=false)(ho:ops[i]?=some o)(hw:Region.wanted o (yielded ops a.tmps)=true){t:TypeId}{x y:Operand}(hop:o.op=.store t x y){n b k:Nat}{v:Value}(hx:a.eval x=.pointer (some ⟨b,k,none⟩))(hy:a.eval y=v){c:Array Value}{e:TypeId}(hm:Mm P M w l r)(hb:l[n]?=some (b,.cells c e (0,0)))(hk:k < c.size)
  (hi:(P.info? t).map (·.size)=some 1)(hv1:v.oneCell'=true)
  (h:∀ w1,Mm P M w1 (l.set n (b,.cells (c.setIfInBounds k v) e (0,0))) r→K S M (a.put o.dst undef) w1):cK P main fn kd ops i K S M a w:=by
 have e1:execOp a.eval o=(do Instr.storeAt t (.pointer (some ⟨b,k,none⟩)) v;pure Next.skip):=by
  unfold execOp
  rw [hop,← hx,← hy]
 have hcells:v.cells=#[v]:=by cases v <;> first | rfl | (simp [Value.oneCell'] at hv1)
 refine Fe hkd ho hw (v:=v) hm hb hk (fun w1 u hc hz=>?_) h
 have hsz:(sizeOf t).run P w1=.ok 1 w1:=by
  cases hq:P.info? t with
  | none=>simp [hq] at hi
  | some inf=>simp [hq] at hi;simp [sizeOf,typeInfo,hq,hi]
 have hst:(store ⟨b,k,none⟩ v .plain).run P w1=.ok () (w1.setCell ⟨b,k,none⟩ v):=by
  rw [run_store P w1 _ v .plain hv1,hc]
  simp [hz]
 have hadd:(⟨b,k,none⟩:Addr).add 0=⟨b,k,none⟩:=Addr.add_mid b k 0
 have hev:(store ⟨b,k,none⟩ v .plain).events P w1 #[]=#[⟨.cell ⟨b,k,none⟩,true,false⟩]:=by
  rw [events_store P w1 #[] _ v .plain hv1]
  simp [hc,hz]
 have hrun:(Instr.storeAt t (.pointer (some ⟨b,k,none⟩)) v).run P w1=.ok () (w1.setCell ⟨b,k,none⟩ v):=by
  simp [Instr.storeAt,Instr.sureAddr,storeVar,hsz,hcells,storeCells,hadd,hst]
 have Aq:(Instr.storeAt t (.pointer (some ⟨b,k,none⟩)) v).events P w1 #[]=#[⟨.cell ⟨b,k,none⟩,true,false⟩]:=by
  simp [Instr.storeAt,Instr.sureAddr,storeVar,hsz,hcells,storeCells,hadd,hev,Sem.events_bind]
 refine ⟨by rw [e1,Sem.run_bind,hrun];rfl,?_⟩
 unfold listed
 rw [e1,Sem.events_bind,hrun,Aq]
 exact iX hfn hnr _ _
theorem lU (hkd:kd≠.early){aD:Func}(hfn:P.funcs[fn]?=some aD)(hnr:aD.norace=false){t:TypeId}{x y:Operand}(hi:aV ops i d (.store t x y)){n b k:Nat}{v:Value}(hx:a.eval x=.pointer (some ⟨b,k,none⟩))(hy:a.eval y=v){c:Array Value}{e:TypeId}(hm:Mm P M w l r)(hb:l[n]?=some (b,.cells c e (0,0)))(hk:k < c.size)
  (hsz:(P.info? t).map (·.size)=some 1)(hv1:v.oneCell'=true)
  (h:∀ w1,Mm P M w1 (l.set n (b,.cells (c.setIfInBounds k v) e (0,0))) r→aG P main fn kd ops rest Q S M (a.put d undef) w1):aG P main fn kd ops (i :: rest) Q S M a w:=by
 obtain ⟨o,ho,rfl,hop,hw⟩:=hi.at a
 exact dx (qJ hkd hfn hnr ho hw hop hx hy hm hb hk hsz hv1 h)
theorem FY (hkd:kd≠.early){f:FuncId}{aD:Func}{args:Array Operand}{ats:Array TypeId}(hi:aV ops i d (.call { callee:=.value (.func f),args:=args,argTypes:=ats }))(hf:P.funcs[f]?=some aD)(hname:(aD.name == "runtime.NumGoroutine")=false)(hb:aD.body.isNone=false){ys:Array Value}(hy:args.map a.eval=ys)
  (h:bn P main f ys (fun e S' M w=>match e with | .returned y=>aG P main fn kd ops rest Q S' M (a.put d y) w | .panicked ch=>Q (.panic ch) S' M a w | .outgrown=>False) S M w):aG P main fn kd ops (i :: rest) Q S M a w:=by
 obtain ⟨o,ho,rfl,hop,hw⟩:=hi.at a
 exact vH hkd ho hw hop hf hname hb hy h
theorem kC {f:FuncId}{aD:Func}{args:Array Operand}{ats:Array TypeId}(hf:P.funcs[f]?=some aD){ys:Array Value}(hy:args.map a.eval=ys)(h:bn P main f ys (fun e S' M w=>match e with | .returned y=>aG P main fn kd ops rest Q S' M (a.put d y) w | .panicked ch=>Q (.panic ch) S' M a w | .outgrown=>False) S M w)(hname:(aD.name == "runtime.NumGoroutine")=false:=by kernel_rfl)(hb:aD.body.isNone=false:=by kernel_rfl)(hkd:kd≠.early:=by decide)(hi:aV ops i d (.call { callee:=.value (.func f),args:=args,argTypes:=ats }):=by unfold aV;kernel_rfl):aG P main fn kd ops (i :: rest) Q S M a w:=FY hkd hi hf hname hb hy h
theorem gN {t:TypeId}{x:Operand}{ad:Option Addr}{len cap:Nat}(hu:P.underlying t=some (.slice (P.elem t)))(hx:a.eval x=.slice ad len cap):∀ o:Oper,o.op=.call { callee:=.builtin .len,args:=#[x],argTypes:=#[t] }→dn P a o (.int .i64 len):=fun o hop w1=>by
 have e:execOp a.eval o=(do pure (Next.value (← Builtin.len_ #[t] o.type #[.slice ad len cap]))):=by
  unfold execOp
  simp only [hop,← hx]
  simp [resolve,invoke,Go.builtin,hx]
 have hr:(Builtin.len_ #[t] o.type #[.slice ad len cap]).run P w1=.ok (.int .i64 len) w1:=run_len_slice w1 t o.type ad len cap hu
 exact ⟨by rw [e,Sem.run_bind,hr];rfl,by rw [e,Sem.events_bind,hr,events_len_slice t o.type ad len cap hu];rfl⟩
theorem O3 {t:TypeId}{x:Operand}{ad:Option Addr}{len cap sz:Nat}(hu:P.underlying t=some (.slice (P.elem t)))(hs:(P.info? (P.elem t)).map (·.size)=some sz)(hx:a.eval x=.slice ad len cap)(hl:1≤len):∀ o:Oper,o.op=.slice t x (some (.const (.int .i64 1))) none none→dn P a o (sliced ad 1 len cap sz):=fun o hop w1=>by
 have e:execOp a.eval o=(do pure (Next.value (← Instr.sliceAt t (.slice ad len cap) (some (.int .i64 1)) none none))):=by
  unfold execOp
  simp only [hop,← hx]
  rfl
 have hsz:(sizeOf (P.elem t)).run P w1=.ok sz w1:=by
  cases hq:P.info? (P.elem t) with
  | none=>simp [hq] at hs
  | some inf=>simp [hq] at hs;simp [sizeOf,typeInfo,hq,hs]
 have hr:(Instr.sliceAt t (.slice ad len cap) (some (.int .i64 1)) none none).run P w1=.ok (sliced ad 1 len cap sz) w1:=by
  rw [run_sliceAt_slice w1 t _ _ _ _ hu,run_slice_l w1 t ad len cap hu .i64 1 ae (by exact_mod_cast hl),hsz]
  rfl
 have hev:(Instr.sliceAt t (.slice ad len cap) (some (.int .i64 1)) none none).events P w1 #[]=#[]:=by
  have hai:asIntOf (.int .i64 1)=Pure.pure (IntKind.i64,(1:Int)):=rfl
  have h1:(1:Int)≤len:=by exact_mod_cast hl
  simp [Instr.sliceAt,Instr.slice,run_underlying hu,Instr.sliceBounds,Instr.sliceBound,Sem.events_bind,hai,h1]
 exact ⟨by rw [e,Sem.run_bind,hr];rfl,by rw [e,Sem.events_bind,hr,hev];rfl⟩
theorem xY {t t':TypeId}{x:Operand}{k:Nat}(hx:a.eval x=.int .i64 k):∀ o:Oper,o.op=.binOp .gtr t x (.const (.int .i64 0)) t'→dn P a o (.bool (decide (0 < k))):=fun o hop w1=>by
 have e:execOp a.eval o=(do pure (Next.value (← (do eqGuard .gtr t x (.const (.int .i64 0)) (.int .i64 k) (.int .i64 0);binOp .gtr t (.int .i64 k) (.int .i64 0))))):=by
  unfold execOp
  rw [hop,← hx]
  rfl
 have e2:execOp a.eval o=Pure.pure (Next.value (.bool (decide (0 < k)))):=by
  rw [e,eqGuard_gtr,binOp_gtr]
  simp
 rw [e2]
 exact ⟨rfl,rfl⟩
theorem je (hkd:kd≠.early){t:TypeId}{x:Operand}(hi:aV ops i d (.box t x)){cells:Array Value}(hx:(a.eval x).cells=cells)(hm:Mm P M w l r)
  (h:∀ b w1,Mm P (plus M b) w1 (l ++ [(b,.cells cells t (0,0))]) r→aG P main fn kd ops rest Q S (plus M b) (a.put d (.pointer (some ⟨b,0,none⟩))) w1):aG P main fn kd ops (i :: rest) Q S M a w:=by
 obtain ⟨o,ho,rfl,hop,hw⟩:=hi.at a
 have e1:execOp a.eval o=(do pure (Next.value (← Instr.box t (a.eval x)))):=by
  unfold execOp
  rw [hop]
 have hr:∀ w1:World,(Instr.box t (a.eval x)).run P w1=.ok (.pointer (some ⟨w1.heap.size,0,none⟩)) (w1.alloc (.cells cells t (0,0))):=fun w1=>by
  simp [Instr.box,newVar,newRow,hx]
 refine dx (Ff hkd ho hw hm (ob:=.cells cells t (0,0)) (fun w1=>⟨by rw [e1,Sem.run_bind,hr];rfl,listed_nil ?_⟩) h)
 rw [e1,Sem.events_bind,hr]
 show (Instr.box t (a.eval x)).events P w1 #[]=#[]
 simp [Instr.box,newVar,newRow]
theorem Ar {fn:Fn}{first cap:Array Operand}{vs us:Array Value}(hf:first.map a.eval=vs)(hc:cap.map a.eval=us):∀ o:Oper,o.op=.makeFunc fn first cap→dn P a o (.func fn vs us):=fun o hop w1=>by
 have e:execOp a.eval o=Pure.pure (Next.value (.func fn vs us)):=by
  unfold execOp
  rw [hop,← hf,← hc]
  rfl
 rw [e]
 exact ⟨rfl,rfl⟩
theorem FZ (hkd:kd≠.early){x:Operand}{args:Array Operand}{ats:Array TypeId}(hi:aV ops i d (.defer { callee:=.value x,args:=args,argTypes:=ats })){f:Fn}{vs us ys:Array Value}(hx:a.eval x=.func f vs us)(hy:args.map a.eval=ys)
  (h:aG P main fn kd ops rest Q S M ⟨(a.put d undef).tmps,⟨.fn f us,vs ++ ys⟩ :: a.defers⟩ w):aG P main fn kd ops (i :: rest) Q S M a w:=by
 obtain ⟨o,ho,rfl,hop,hw⟩:=hi.at a
 refine KF hkd ho hw (fun w1=>?_) h
 have e:execOp a.eval o=Pure.pure (Next.defer ⟨.fn f us,vs ++ ys⟩):=by
  unfold execOp
  rw [hop]
  simp only [resolve,hx,hy]
  rfl
 rw [e]
 rfl
theorem F3 {f:FuncId}{aD:Func}(hf:P.funcs[f]?=some aD)(hname:(aD.name == "runtime.NumGoroutine")=false)(hb:aD.body.isNone=false){us ys:Array Value}(w:World):(invoke (.fn (.func f) us) ys).runT P w #[]=(.ok (.enter f (ys ++ us)) w,#[]):=by
 have h1:¬ aD.name = "runtime.NumGoroutine":=by simpa using hname
 have h2:¬ aD.body=none:=by cases hx:aD.body <;> simp_all
 have hcf:∀ w1:World,(callFunc f (ys ++ us)).run P w1=.ok (.enter f (ys ++ us)) w1∧(callFunc f (ys ++ us)).events P w1 #[]=#[]:=fun w1=>by
  simp [callFunc,hf,h1,h2]
 exact Prod.ext ((Sem.runT_fst _ _ _ _).trans (hcf w).1) (hcf w).2
theorem entered {f:FuncId}{aD:Func}(hfn:P.funcs[f]?=some aD)(ys:Array Value)(kd:CallKind){N:Nat}(hN:aD.ntmps=N)(hle:ys.size≤N):∃ a:Act,a=⟨(Frame.enter P f ys kd).tmps,[]⟩∧a.tmps.size=N∧a.defers=[]∧∀ (i:Nat) v,ys[i]?=some v→a.eval (.tmp i)=v:=by
 refine ⟨_,rfl,?_,rfl,fun i v h=>?_⟩
 ·rw [xQ hfn]
  simp only [Array.size_append,Array.size_replicate]
  omega
 ·show (Frame.enter P f ys kd).tmps.getD i undef=v
  rw [xQ hfn,Array.getD_eq_getD_getElem?,Array.getElem?_append_left (Array.getElem?_eq_some_iff.1 h).1,h]
  rfl
theorem F4 {f:FuncId}{R:fu}(h:mE P main f kd R .returning S M a w):uH P main f kd R .normal S M a w:=by
 unfold uH;exact h
theorem enter_at {f:FuncId}{aD:Func}{body:Code}(hfn:P.funcs[f]?=some aD)(hbody:aD.body=some body)(ys:Array Value)(kd:CallKind):Frame.enter P f ys kd=(Frame.enter P f ys kd).at ⟨(Frame.enter P f ys kd).tmps,[]⟩ [.code body]:=by
 simp [Frame.enter,Frame.at,hfn,hbody]
end
structure Sh (P:Program)(G:FuncId→Bool)(L:av)(v:World)(F:Nat→Prop)(l:List (Nat×Obj))(M:Nat→Prop)(w:World):Prop where
 eq:M=both L.mine F
 fH:aY P L v w
 good:∀ f,L.good f↔G f=true
 IX:∀ c,F c→¬ has L.mine (c / 2)
 low:∀ c,F c→c / 2 < w.heap.size
 fr:∀ p∈l,has F p.1∧w.heap[p.1]?=some p.2
section
variable {P:Program}{G:FuncId→Bool}{L:av}{v:World}{F M:Nat→Prop}{l:List (Nat×Obj)}{w w1:World}{main:Bool}{fn:FuncId}{S:ai}
theorem IY {n c:Nat}:¬ (gV n [] G).mine c:=fun ⟨_,h,_⟩=>by simp [gV] at h
theorem Sh.start (hm:Mm P M w l []):Sh P G (gV w.heap.size [] G) (lM [] w) M l M w:=by
 refine ⟨?_,Fp (fun b hb=>absurd hb ah) hm.base hm.aX,fun _=>Iff.rfl,fun c _ hn=>?_,hm.low,fun p hp=>⟨(hm.own p hp).1.has,(hm.own p hp).2⟩⟩
 ·funext c
  exact propext ⟨.inr,fun h=>h.elim (fun z=>absurd z IY) id⟩
 ·obtain ⟨c',_,q⟩:=iQ hn
  exact IY q
theorem Wh {c:Code}{R:Exit→(Nat→Prop)→Act→World→Prop}{a:Act}(h:cw P main fn c R M a w)(hR:∀ e M' a' w' w1,R e M' a' w'→ay P M' w' w1→R e M' a' w1)(hx:∀ e M' a' w',R e M' a' w'→match e with | .normal | .ret | .panic _=>True | _=>False)(hlow:∀ c,F c→c / 2 < w.heap.size)(iY:∀ c,F c→¬ has M (c / 2)) :
  aM P main fn .normal c (fun e S' M' a' w'=>S'=S∧∃ M0,M'=both M0 F∧R e M0 a' w'∧(∀ b,has F b→w'.heap[b]?=w.heap[b]?)∧(∀ c,F c→c / 2 < w'.heap.size)∧∀ c,F c→¬ has M0 (c / 2)) S (both M F) a w:=by
 intro b k cs hb hk hc
 have h0:=h b k cs (fun M' g' w'=>∃ e a',R e M' a' w'∧match e with | .normal=>g'=ax (b.at a' k) cs | .ret=>∃ todo,g'=ax { b.at a' todo with mode:=.returning } cs | .panic ch=>∃ todo,g'=ax { b.at a' todo with mode:=.panicking ch } cs | _=>False) hb hk fun e M' a' w' q=>by
  have hxe:=hx e M' a' w' q
  cases e with
  | normal=>exact .stop fun w1 hr=>⟨.normal,a',hR _ _ _ _ _ q hr,rfl⟩
  | ret=>exact fun todo=>.stop fun w1 hr=>⟨.ret,a',hR _ _ _ _ _ q hr,todo,rfl⟩
  | panic ch=>exact fun todo=>.stop fun w1 hr=>⟨.panic ch,a',hR _ _ _ _ _ q hr,todo,rfl⟩
  | exit id=>exact hxe.elim
  | goto l=>exact hxe.elim
  | outgrown=>exact hxe.elim
 refine h0.frame (w0:=w) (fun _ _=>rfl) hlow iY fun M' g' w' q q1 q2 q3=>?_
 obtain ⟨e,a',hq,hg⟩:=q
 have hs:=hc e S (both M' F) a' w' ⟨rfl,M',rfl,hq,q1,q2,q3⟩
 cases e with
 | normal=>subst hg;exact hs
 | ret=>obtain ⟨todo,rfl⟩:=hg;exact hs todo
 | panic ch=>obtain ⟨todo,rfl⟩:=hg;exact hs todo
 | exit id=>exact hg.elim
 | goto l=>exact hg.elim
 | outgrown=>exact hg.elim
theorem Wi (H:Good P G)(gI:∃ f,P.funcs[fn]?=some f){c:Code}(hcode:fI P G c=true){a a':Act}(h:Sh P G L v F l M w)(ht:AR L a.tmps a'.tmps)(hd:jH L a.defers a'.defers){Q:Exit→Act→World→Prop}(hw:∀ τ,c.wp P Q a (tp τ v))(hq:∀ e a u,Q e a u→match e with | .normal | .ret | .panic _=>True | _=>False) :
  aM P main fn .normal c (fun e' S' M' a1' w'=>S'=S∧∃ L' e a1 v',L.le L'∧Sh P G L' v' F l M' w'∧AR L' a1.tmps a1'.tmps∧jH L' a1.defers a1'.defers∧Q e a1 v'∧rC L' e e') S M a' w:=by
 have e:=h.eq
 subst e
 refine xc (Wh (S:=S) (F:=F) (Ko (main:=main) H h.good gI hcode ht hd h.fH hw hq) (fun e M' a' w' w1 q hr=>?_) (fun e M' a' w' q=>?_) h.low h.IX) fun e' S' M' a1' w' q=>?_
 ·obtain ⟨L',e0,a0,v0,h1,rfl,h3,h4,h5,h6,h7⟩:=q
  exact ⟨L',e0,a0,v0,h1,rfl,h3.rely hr,h4,h5,h6,h7⟩
 ·obtain ⟨L',e0,a0,v0,h1,rfl,h3,h4,h5,h6,h7⟩:=q
  have:=hq _ _ _ h6
  cases h7 <;> first | trivial | exact this
 ·obtain ⟨rfl,M0,rfl,⟨L',e0,a0,v0,h1,rfl,h3,h4,h5,h6,h7⟩,k1,k2,k3⟩:=q
  exact ⟨rfl,L',e0,a0,v0,h1,⟨rfl,h3,fun f=>(h1.good f).symm.trans (h.good f),k3,k2,fun p hp=>⟨(h.fr p hp).1,(k1 p.1 (h.fr p hp).1).trans (h.fr p hp).2⟩⟩,h4,h5,h6,h7⟩
theorem Wj (H:Good P G)(h:Sh P G L v F l M w){f:FuncId}(hf:G f=true)(gI:∃ fn,P.funcs[f]?=some fn){xs ys:Array Value}(hx:AR L xs ys){R:Ending→World→Prop}(hR:∀ τ,Calls P f xs (tp τ v) R)(hno:∀ u,¬ R .outgrown u) :
  bn P main f ys (fun e S' M' w'=>S'=S∧∃ L' v',L.le L'∧Sh P G L' v' F l M' w'∧match e with | .returned y=>∃ x,R (.returned x) v'∧VR L' x y | .panicked qs=>∃ ps,R (.panicked ps) v'∧fJ L' ps qs | .outgrown=>False) S M w:=by
 have e:=h.eq
 subst e
 refine bG (Fg (S:=S) (F:=F) (Da (main:=main) H h.good hf gI hx h.fH hR hno) (fun e M' w' w1 q hr=>?_) h.low h.IX) fun e S' M' w' q=>?_
 ·obtain ⟨L',v0,q1,q2,q3,q4⟩:=q
  subst q2
  exact ⟨L',v0,q1,rfl,q3.rely hr,q4⟩
 ·obtain ⟨rfl,M0,rfl,⟨L',v0,q1,q2,q3,q4⟩,k1,k2,k3⟩:=q
  subst q2
  exact ⟨rfl,L',v0,q1,⟨rfl,q3,fun f=>(q1.good f).symm.trans (h.good f),k3,k2,fun p hp=>⟨(h.fr p hp).1,(k1 p.1 (h.fr p hp).1).trans (h.fr p hp).2⟩⟩,q4⟩
end
section
variable {P:Program}{main:Bool}{fn:FuncId}{kd:CallKind}{Q:aZ}{S:ai}{M:Nat→Prop}{a:Act}{w:World}{ops:Array Oper}{i:Nat}{rest:List Nat}{o:Oper}{d:Option Tmp}{p:Op}
theorem mg (hkd:kd≠.early)(hi:aV ops i d p){v:Value}(hr:∀ o,o.op=p→dn P a o v)(h:aG P main fn kd ops rest Q S M (a.put d v) w):aG P main fn kd ops (i :: rest) Q S M a w:=by
 obtain ⟨o,ho,rfl,hop,hw⟩:=hi.at a
 exact xn hkd ho hw (fun w1=>(hr o hop w1).1) (fun w1=>(hr o hop w1).2) h
theorem IZ (hkd:kd≠.early)(ho:ops[i]?=some o)(hw:Region.wanted o (yielded ops a.tmps)=true){v:Value}{b:Nat}{ob:Obj}(hb:has M b)(bF:w.heap[b]?=some ob)
  (hr:∀ w1:World,w1.heap[b]?=some ob→(execOp a.eval o).run P w1=.ok (.value v) w1∧∀ e∈listed P fn a o w1,∃ ad,e.loc=.cell ad∧e.write=false∧ad.block=b)(h:aG P main fn kd ops rest Q S M (a.put o.dst v) w):aG P main fn kd ops (i :: rest) Q S M a w :=
 Dk hkd ho hw fun w1 hR K hK=>by
  obtain ⟨h1,h2⟩:=hr w1 ((hR.mine b hb).trans bF)
  rw [h1]
  exact hK _ _ M (sw fun e he=>(h2 e he).elim fun ad q=>⟨ad,q.1,q.2.1,q.2.2 ▸ hb⟩) (Db h hR)
theorem Wl (hkd:kd≠.early){t:TypeId}{x:Operand}(hi:aV ops i d (.load t x)){b k:Nat}(hx:a.eval x=.pointer (some ⟨b,k,none⟩)){c:Array Value}{e:TypeId}{fz:Nat×Nat}{v:Value}(hb:has M b)(bF:w.heap[b]?=some (.cells c e fz))(hv:c[k]?=some v)
  (hud:(P.underlying t).map TypeDesc.isRow=some false)(h:aG P main fn kd ops rest Q S M (a.put d v) w):aG P main fn kd ops (i :: rest) Q S M a w:=by
 obtain ⟨o,ho,rfl,hop,hw⟩:=hi.at a
 obtain ⟨d,hu,hd⟩:=Option.map_eq_some_iff.1 hud
 refine IZ hkd ho hw hb bF (fun w1 hf=>?_) h
 have hc:=cell_of hf hv
 have e1:execOp a.eval o=(do pure (Next.value (← Instr.loadAt t (.pointer (some ⟨b,k,none⟩))))):=by
  unfold execOp
  rw [hop,← hx]
 have hagg:(isAgg t).run P w1=.ok false w1:=by
  unfold isAgg
  rw [Sem.run_bind,run_underlying hu w1]
  cases d <;> simp_all
 have hr:(Instr.loadAt t (.pointer (some ⟨b,k,none⟩))).run P w1=.ok v w1:=by
  simp [Instr.loadAt,Instr.sureAddr,loadVar,hagg,hc]
 refine ⟨by rw [e1,Sem.run_bind,hr];rfl,fun ev he=>?_⟩
 have he:=iG he
 rw [e1,Sem.events_bind,hr] at he
 have he:ev∈(Instr.loadAt t (.pointer (some ⟨b,k,none⟩))).events P w1 #[]:=he
 have e2:(Instr.loadAt t (.pointer (some ⟨b,k,none⟩))).events P w1 #[]=#[⟨.cell ⟨b,k,none⟩,false,false⟩]:=by
  simp [Instr.loadAt,Instr.sureAddr,loadVar,Sem.events_bind,hagg,events_load,hc]
 rw [e2] at he
 rw [Array.mem_singleton.1 he]
 exact ⟨_,rfl,rfl,rfl⟩
theorem Wm (hkd:kd≠.early){t:TypeId}{x:Operand}(hi:aV ops i d (.load t x)){b off:Nat}(hx:a.eval x=.pointer (some ⟨b,off,none⟩)){c:Array Value}{e:TypeId}{fz:Nat×Nat}{vs:List Value}(hb:has M b)(bF:w.heap[b]?=some (.cells c e fz))(hv:∀ j v,vs[j]?=some v→c[off+j]?=some v)
  (hud:(P.underlying t).map TypeDesc.isRow=some true)(hz:(P.info? t).map (·.size)=some vs.length)(h:aG P main fn kd ops rest Q S M (a.put d (.agg vs.toArray)) w):aG P main fn kd ops (i :: rest) Q S M a w:=by
 obtain ⟨o,ho,rfl,hop,hw⟩:=hi.at a
 obtain ⟨d,hu,hd⟩:=Option.map_eq_some_iff.1 hud
 refine IZ hkd ho hw hb bF (fun w1 hp=>?_) h
 have hr:w1.rangeAt b off vs:=fun j v hj=>cell_of hp (hv j v hj)
 have e1:execOp a.eval o=(do pure (Next.value (← Instr.loadAt t (.pointer (some ⟨b,off,none⟩))))):=by
  unfold execOp
  rw [hop,← hx]
 refine ⟨?_,fun ev he=>?_⟩
 ·rw [e1,Sem.run_bind,run_loadAt_mid w1 b off t vs d hr hu hd hz]
  rfl
 ·have he:=iG he
  rw [e1,Sem.events_bind,run_loadAt_mid w1 b off t vs d hr hu hd hz] at he
  have he:ev∈(Instr.loadAt t (.pointer (some ⟨b,off,none⟩))).events P w1 #[]:=he
  cases hq:P.info? t with
  | none=>simp [hq] at hz
  | some inf =>
   have hs:inf.size=vs.length:=by simpa [hq] using hz
   have hagg:(isAgg t).run P w1=.ok true w1:=by
    unfold isAgg
    rw [Sem.run_bind,run_underlying hu w1]
    cases d <;> simp_all
   have hsz:(sizeOf t).run P w1=.ok vs.length w1:=by simp [sizeOf,typeInfo,hq,hs]
   have e2:(Instr.loadAt t (.pointer (some ⟨b,off,none⟩))).events P w1 #[]=(loadCells ⟨b,off,none⟩ vs.length).events P w1 #[]:=by
    simp [Instr.loadAt,Instr.sureAddr,loadVar,Sem.events_bind,hagg,hsz]
   rw [e2] at he
   have:=events_loadCellsFrom_at (P:=P) ⟨b,off,none⟩ (·=b) rfl vs.length 0 #[] w1 #[] (fun j hj=>by
    rw [Nat.zero_add,Addr.add_mid,hr j vs[j] (List.getElem?_eq_getElem hj)];rfl) ev he
   rcases this with z | ⟨ad,z1,z2,z3⟩
   ·simp at z
   ·exact ⟨ad,z1,z2,z3⟩
end
structure St (P:Program)(G:FuncId→Bool)(N:Nat)(F:Nat→Prop)(l:List (Nat×Obj))(Φ:Act→World→Prop)(M:Nat→Prop)(a':Act)(w:World):Prop where
 ex:∃ (L:av) (v:World) (a:Act),(∀ x,x < N→L.b x x)∧Sh P G L v F l M w∧AR L a.tmps a'.tmps∧jH L a.defers a'.defers∧Φ a v
section
variable {P:Program}{G:FuncId→Bool}{N:Nat}{F M:Nat→Prop}{l:List (Nat×Obj)}{Φ Ψ:Act→World→Prop}{a a':Act}{w w1:World}{y:Value}{main:Bool}{fn:FuncId}{S:ai}{Q:aZ}
theorem St.start (hm:Mm P M w l [])(hr:AR (gV w.heap.size [] G) a.tmps a.tmps)(hd:a.defers=[])(hΦ:Φ a (lM [] w)):St P G w.heap.size M l Φ M a w :=
 ⟨⟨gV w.heap.size [] G,lM [] w,a,fun x hx=>⟨rfl,hx⟩,Sh.start hm,hr,by rw [hd];exact .nil,hΦ⟩⟩
theorem St.imp (h:St P G N F l Φ M a' w)(f:∀ a v,Φ a v→Ψ a v):St P G N F l Ψ M a' w:=by
 obtain ⟨L,v,a,h1,h2,h3,h4,h5⟩:=h.ex
 exact ⟨⟨L,v,a,h1,h2,h3,h4,f a v h5⟩⟩
theorem Old.to {L:av}(hb:∀ x,x < N→L.b x x)(hg:∀ f,L.good f↔G f=true)(h:Old N G y):VR L y y:=VR.tr (K:=gV N [] G) (L:=L) (fun x z q=>by obtain ⟨rfl,q⟩:=q;exact hb x q) (fun f=>(hg f).symm) h
def pX (N:Nat)(G:FuncId→Bool)(y:Value):Prop:=∀ L:av,(∀ x,x < N→L.b x x)→(∀ f,L.good f↔G f=true)→VR L y y
theorem Old.v (h:Old N G y):pX N G y:=fun _ hb hg=>h.to hb hg
theorem pX.void (hV:G iE=false)(a:Addr):pX N G (.slice (some a) 0 0):=fun L _ hg=>.void a fun q=>by rw [(hg _).1 q] at hV;cases hV
def fG (N:Nat)(y:Value):Prop:=∀ (L:av)(z:Value),(∀ x u,x < N→L.b x u→u=x)→VR L y z→z=y
theorem fG.bool (b:Bool):fG N (.bool b):=fun L z _ r=>by cases r;rfl
theorem fG.int (k:IntKind)(i:Int):fG N (.int k i):=fun L z _ r=>by cases r;rfl
theorem fG.bX (l c:Nat):fG N (.slice none l c):=fun L z _ r=>by cases r;rfl
theorem fG.slice {ad:Addr}{l c:Nat}(h:ad.block < N):fG N (.slice (some ad) l c):=fun L z hb r=>by
 cases r with
 | void _ _=>rfl
 | slice _ a' _ _ r =>
  obtain ⟨b1,o1,s1⟩:=ad
  obtain ⟨b2,o2,s2⟩:=a'
  have e1:b2=b1:=hb _ _ h r.block
  have e2:o1=o2:=r.off
  have e3:s1=s2:=r.spot
  rw [e1,e2,e3]
theorem St.eval (h:St P G N F l Φ M a' w){k:Nat}(hy:fG N y)(hv:∀ a v,Φ a v→a.eval (.tmp k)=y):a'.eval (.tmp k)=y:=by
 obtain ⟨L,v,a,h1,h2,h3,h4,h5⟩:=h.ex
 have e:=hv a v h5
 have r:VR L (a.eval (.tmp k)) (a'.eval (.tmp k)):=h3.getD k (jI L)
 rw [e] at r
 exact hy L _ (fun x z hx hz=>((h2.fH.gQ x z x x hz (h1 x hx)).1 rfl)) r
theorem St.size (h:St P G N F l Φ M a' w){n:Nat}(hv:∀ a v,Φ a v→a.tmps.size=n):a'.tmps.size=n:=by
 obtain ⟨L,v,a,h1,h2,h3,h4,h5⟩:=h.ex
 exact h3.size.symm.trans (hv a v h5)
theorem St.none (h:St P G N F l Φ M a' w)(hv:∀ a v,Φ a v→a.defers=[]):a'.defers=[]:=by
 obtain ⟨L,v,a,h1,h2,h3,h4,h5⟩:=h.ex
 rw [hv a v h5] at h4
 generalize a'.defers=ds at h4
 cases h4
 rfl
theorem AR.put {L:av}{x y:Value}(h:AR L a.tmps a'.tmps)(r:VR L x y)(d:Option Tmp):AR L (a.put d x).tmps (a'.put d y).tmps:=by
 cases d with
 | none=>exact h
 | some d=>exact h.set d r
theorem St.put (h:St P G N F l Φ M a' w)(hy:pX N G y)(d:Nat)(hp:∀ a v,Φ a v→Ψ (a.put (some d) y) v):St P G N F l Ψ M (a'.put (some d) y) w:=by
 obtain ⟨L,v,a,h1,h2,h3,h4,h5⟩:=h.ex
 exact ⟨⟨L,v,a.put (some d) y,h1,h2,h3.put (hy L h1 h2.good) (some d),h4,hp a v h5⟩⟩
theorem St.mv (h:St P G N F l Φ M a' w)(d k:Nat)(hp:∀ a v,Φ a v→Ψ (a.put (some d) (a.eval (.tmp k))) v):St P G N F l Ψ M (a'.put (some d) (a'.eval (.tmp k))) w:=by
 obtain ⟨L,v,a,h1,h2,h3,h4,h5⟩:=h.ex
 exact ⟨⟨L,v,_,h1,h2,h3.put (h3.getD k (jI L)) (some d),h4,hp a v h5⟩⟩
theorem St.known (h:St P G N F l Φ M a' w){p:Nat×Obj}(hp:p∈l):has M p.1∧w.heap[p.1]?=some p.2:=by
 obtain ⟨L,v,a,h1,h2,h3,h4,h5⟩:=h.ex
 have e:=h2.eq
 subst e
 exact ⟨has_both.2 (.inr (h2.fr p hp).1),(h2.fr p hp).2⟩
theorem gF (H:Good P G)(gI:∃ f,P.funcs[fn]?=some f){c:Code}(hcode:fI P G c=true)(h:St P G N F l Φ M a' w)(hw:∀ a v τ,Φ a v→c.wp P (fun e a1 v1=>e=.normal∧Ψ a1 v1) a (tp τ v))
  (hk:∀ M' a1 w',St P G N F l Ψ M' a1 w'→Q .normal S M' a1 w'):aM P main fn .normal c Q S M a' w:=by
 obtain ⟨L,v,a,h1,h2,h3,h4,h5⟩:=h.ex
 refine xc (Wi (S:=S) H gI hcode h2 h3 h4 (fun τ=>hw a v τ h5) (fun e a u q=>by rw [q.1];trivial)) fun e' S' M' a1 w' q=>?_
 obtain ⟨rfl,L',e,a2,v',k1,k2,k3,k4,⟨rfl,k5⟩,k6⟩:=q
 cases k6
 exact hk _ _ _ ⟨⟨L',v',a2,fun x hx=>k1.b x x (h1 x hx),k2,k3,k4,k5⟩⟩
theorem Wn (H:Good P G){kd:CallKind}(hkd:kd≠.early){ops:Array Oper}{i d:Nat}{rest:List Nat}{f:FuncId}{aD:Func}{args:Array Operand}{ats:Array TypeId}(hi:aV ops i (some d) (.call { callee:=.value (.func f),args:=args,argTypes:=ats }))(hf:P.funcs[f]?=some aD)(hname:(aD.name == "runtime.NumGoroutine")=false)(hb:aD.body.isNone=false)(hG:G f=true)
  (hargs:∀ (L:av)(a a':Act),AR L a.tmps a'.tmps→AR L (args.map a.eval) (args.map a'.eval))(h:St P G N F l Φ M a' w)(hR:∀ a v τ,Φ a v→Calls P f (args.map a.eval) (tp τ v) (fun e v'=>∃ y,e=.returned y∧Ψ (a.put (some d) y) v'))
  (hk:∀ M' a1 w',St P G N F l Ψ M' a1 w'→aG P main fn kd ops rest Q S M' a1 w'):aG P main fn kd ops (i :: rest) Q S M a' w:=by
 obtain ⟨L,v,a,h1,h2,h3,h4,h5⟩:=h.ex
 refine FY hkd hi hf hname hb rfl (bG (Wj (S:=S) H h2 hG ⟨_,hf⟩ (hargs L a a' h3) (fun τ=>hR a v τ h5) (fun u q=>by obtain ⟨y,q,_⟩:=q;cases q)) fun e S' M' w' q=>?_)
 obtain ⟨rfl,L',v',k1,k2,k3⟩:=q
 cases e with
 | returned y =>
  obtain ⟨x,⟨x',e,hΨ⟩,hv⟩:=k3
  cases e
  exact hk _ _ _ ⟨⟨L',v',a.put (some d) x,fun x hx=>k1.b x x (h1 x hx),k2,(h3.mono k1).put hv (some d),h4.mono k1,hΨ⟩⟩
 | panicked ch =>
  obtain ⟨ps,⟨x',e,_⟩,_⟩:=k3
  cases e
 | outgrown=>exact k3.elim
end
section
variable {P:Program}{R q:Nat}
theorem Wo (w:World){n s:Nat}{g:Goroutine}(h:aH P (ig P R q) (oN R q) (kK R q) n s g):s≤1→g.LeavesIn P n:=by
 induction h with
 | @fin n g h =>
  intro _
  cases n with
  | zero=>exact h
  | succ n=>exact .inl h
 | slip h1 h2 h3 ih=>exact fun hs=>.inr ⟨_,⟨h1,#[],ah,fun w=>h2 w (fun c=>by omega)⟩,ih hs⟩
 | @op n s g h1 h2 h3 ih =>
  intro hs
  have e:s=0:=by omega
  subst e
  obtain ⟨g',hg⟩:=h2
  exact .inr ⟨g',⟨h1,_,fun e he=>by rw [Array.mem_singleton.1 he];rfl,hg⟩,ih w g' w _ trivial (hg w) (Nat.zero_le _)⟩
theorem Wp (w:World){n s:Nat}{g:Goroutine}(h:aH P (ig P R q) (oN R q) (kK R q) n s g):s≤1→∃ k,g.endsWith P w k (oM s)=some 0:=by
 induction h with
 | @fin n g h=>exact fun _=>⟨0,by unfold Goroutine.endsWith;rw [h];rfl⟩
 | @slip n s g g' h1 h2 h3 ih =>
  intro hs
  obtain ⟨k,hk⟩:=ih hs
  refine ⟨k+1,?_⟩
  unfold Goroutine.endsWith
  rw [h1,h2 w (fun c=>by omega)]
  exact hk
 | @op n s g h1 h2 h3 ih =>
  intro hs
  have e:s=0:=by omega
  subst e
  obtain ⟨g',hg⟩:=h2
  obtain ⟨k,hk⟩:=ih w g' w _ trivial (hg w) (Nat.zero_le _)
  refine ⟨k+1,?_⟩
  unfold Goroutine.endsWith
  rw [h1,hg w]
  exact hk
end
def wG (P:Program)(Post:Value→World→Prop):ai:=fun M g w=>g.status=.running∧∀ w1,ay P M w w1→∃ v,stepG P true g w1=.ended (.done v) w1 #[]∧Post v w1
theorem I1 {P:Program}{Post:Value→World→Prop}:∀ M g w w1,wG P Post M g w→ay P M w w1→wG P Post M g w1:=fun _ _ _ _ h hr=>⟨h.1,fun w2 h2=>h.2 w2 (hr.trans h2)⟩
def qO (P:Program)(Post:Value→World→Prop)(out:Os×Array (Nat×ByteArray)):bH:=⟨fun m t=>(∀ op∈t,op.g < m.gs.size)→∃ o w' ops,stepT P m=(.ended o w',ops)∧Conc.Good P (fun v w=>Post v w∧ic w=out) m o w' (t ++ ops),out⟩
theorem Wq {T:Trace}{k g:Nat}(h:T.g? k=some g):∃ op∈T,op.g=g:=by
 unfold Trace.g? at h
 cases z:T[k]? with
 | none=>rw [z] at h;cases h
 | some x =>
  rw [z] at h
  exact ⟨x,Array.mem_of_getElem? z,Option.some.inj h⟩
section
variable {P:Program}{s:Ring}{b:aJ}{Post:Value→World→Prop}
theorem Ws {out:Os×Array (Nat×ByteArray)}(hE:s.E=(G2 b 0 True).env P)(hn:s.size=b.n+1)(hO:∀ i,i≠0→i < s.size→s.O i=none):∀ M g w,wG P Post M g w→aj P true (aK P (qO P Post out) s) M g w:=by
 obtain ⟨ch,E,O,Home,size⟩:=s
 simp only at hE hn hO
 subst hE
 refine qD I1 fun M g w hS=>⟨hS.1,fun hok ho gs sl T own τ L hM hg hsz hτ hL H=>?_⟩
 have H':=H.mH (bU:=wG P Post) fun x hx=>by
  rw [hg] at hx;cases hx;rw [hM];exact .stop fun w1 hr=>I1 _ _ _ _ hS hr
 obtain ⟨N,gs2,w2,sl2,T2,gJ,τ2,L2,hrun,hsz2,hk,uh,w9⟩:=lead (St:=wG P Post) hok.tail hok.jv (fun M g w h=>h.1) L.length L (Nat.le_refl _) gs w sl T own τ H' hL
 obtain ⟨g',d,sl',hg',hat,hstep⟩:=uh.stop
 obtain ⟨_,hs⟩:=hat (w2.at d) (ay.at_ P _ w2 d)
 obtain ⟨v,hst,hpost⟩:=hs (w2.at d) (ay.refl _ _ _)
 have htold:(G2 b 0 True).told τ2 T2:=uh.sys.eZ.told
 have Wt:iW b.n τ2:=htold.1.1
 have hsize:gs2.size=b.n+1:=hsz2.trans (hsz.trans hn)
 have rR:∀ i x,i≠0→gs2[i]?=some x→1≤i∧i≤b.n∧τ2 i≤1∧∃ n,aH P (ig P b.R b.q) (oN b.R b.q) (kK b.R b.q) n (τ2 i) x:=fun i x hi hx=>by
  have hlt:i < gs2.size:=(Array.getElem?_eq_some_iff.1 hx).1
  have h1:1≤i:=by omega
  have h2:i≤b.n:=by omega
  have h3:=Wt i h1 h2
  refine ⟨h1,h2,h3,?_⟩
  have Wu:i∉L2:=fun gU=>by
   rcases uh.sys.live i gU with q | q
   ·exact hi q
   ·omega
  rcases uh.sys.sat i x hi hx Wu with ⟨_,_,q⟩ | ⟨cs,sh,g2,q,_⟩
  ·exact q
  ·exact absurd ((hO i hi ag).symm.trans q) ah
 refine ⟨N,crowd gs2 w2 sl2,T2,hrun,fun hT=>⟨.done v,w2.at d,#[],hstep.trans (Go.ConcN.runT_crowd_ended hg' hst),v,rfl,⟨hpost,uh.sys.eZ.out.trans ho⟩,?_,?_,⟨?_,rfl⟩,?_⟩⟩
 ·rw [Array.append_empty];exact uh.sys.eZ.ledger.clean
 ·rw [Array.append_empty]
  intro i j hj hne hc
  obtain ⟨op,hop,e⟩:=Wq hj
  have hlt:op.g < gs2.size:=hT op hop
  exact (htold.1.2.2.2 trivial).2 j i ag (show j≤b.n by omega) hj hc
 ·intro x hx
  obtain ⟨k,hk2⟩:=List.mem_iff_getElem?.1 hx
  rw [List.getElem?_drop] at hk2
  have hx2:gs2[1+k]?=some x:=by
   have:(crowd gs2 w2 sl2).gs.toList[1+k]?=some x:=hk2
   rwa [Array.getElem?_toList] at this
  obtain ⟨_,_,h3,n,ht⟩:=rR (1+k) x ag hx2
  exact ⟨n,Wo w2 ht h3⟩
 ·rw [Array.append_empty]
  intro i x hx hi
  obtain ⟨h1,h2,h3,n,ht⟩:=rR i x hi hx
  obtain ⟨k,hk3⟩:=Wp w2 ht h3
  have hd:Deaf T2 i=oM (τ2 i):=(htold.2 i h1 h2 ag).1
  refine ⟨k,?_⟩
  show x.endsWith P w2 k (T2.deaf i T2.size)=some 0
  have:T2.deaf i T2.size=oM (τ2 i):=hd
  rw [this]
  exact hk3
end
def oF (out:Os×Array (Nat×ByteArray))(Home:Nat→ai):Ring:=⟨[],oZ out,fun _=>none,Home,1⟩
def yP (w:World):Nat→Prop:=fun c=>c / 2 < w.heap.size
theorem Wv {P:Program}{Fin:bH}{Home:Nat→ai}{g:Goroutine}{w:World}(lN:∀ i,i < P.globals.size→∃ c e fz,w.heap[i]?=some (.cells c e fz))(h:aj P true (aK P Fin (oF (ic w) Home)) (yP w) g w)(ho:ic w=Fin.out) :
  ∃ N m t,runNT P N (solo g w) #[]=(.next m,t)∧Fin.fin m t:=by
 have hD:=EX h
 have hrun:=hD.1
 rw [solo_eq_crowd]
 have hok:(oF (ic w) Home).Ok P:=⟨⟨fun i cs sh e=>absurd e (by simp [oF]),fun i l iU jM jq shl a b _ e=>absurd e (by simp [oF])⟩,NP P _,fun _ _ _ h _=>h,List.nodup_nil,fun _ _=>rfl⟩
 refine hD.2 hok ho #[g] none #[] (fun i c=>i=0∧yP w c) (fun _=>7) [] (by funext c;simp) rfl rfl ⟨fun _=>Nat.le_refl _,fun _ _ _=>rfl⟩ ah ?_
 refine ⟨⟨⟨fun said hr=>?_,fun i j b hi hj=>hi.1.trans hj.1.symm,fun i b hb=>hb.2,fun k a b ha=>?_,fun op hop=>by simp at hop⟩,fun c hc=>absurd hc (by simp [Ring.C,oF]),fun c hc=>hc.elim,lN,fun i _=>?_,fun c hc=>absurd hc (by simp [Ring.C,oF]),fun b o hb=>hb.elim,⟨fun _=>rfl,fun op hop=>by simp at hop⟩,rfl⟩,ah,fun x hx=>?_,fun i x hi hx hL=>by simp at hL,fun i x hi hx _=>?_,fun i hi=>by simp at hi,rfl⟩
 ·obtain ⟨i,j,_,⟨a,b,ha,_⟩,_⟩:=hr
  simp [Trace.act?] at ha
 ·simp [touchAt,Trace.act?] at ha
 ·rfl
 ·have:x=g:=by simpa using hx.symm
  subst this
  exact .stop fun _ _=>hrun
 ·exfalso
  have:=(Array.getElem?_eq_some_iff.1 hx).1
  simp at this
  exact hi this
theorem BS {gs:Array Goroutine}{r:Nat}{b:Bool}:∀ x∈partners gs r b,x.1 < gs.size:=by
 intro x hx
 unfold partners at hx
 obtain ⟨⟨h,j⟩,hj,hx⟩:=List.mem_flatMap.1 hx
 have hlt:j < gs.size:=by
  have:=Array.mem_zipIdx (Array.mem_toList_iff.1 hj)
  simpa using this.2.1
 dsimp only at hx
 split at hx
 ·obtain ⟨q,_,e⟩:=List.mem_map.1 hx
  rw [← e]
  exact hlt
 ·simp at hx
theorem I4 {gs:Array Goroutine}{r k:Nat}{b:Bool}(h0:0 < gs.size):((partners gs r b).getD k (0,0)).1 < gs.size:=by
 rw [List.getD_eq_getElem?_getD]
 cases hq:(partners gs r b)[k]? with
 | none=>exact h0
 | some y=>exact BS y (List.mem_of_getElem? hq)
theorem Ww {w:World}{gs:Array Goroutine}{c:CommCase}{h k:Nat}(hx:Way.partner h k∈ways w gs c):h < gs.size:=by
 unfold ways at hx
 split at hx
 ·split at hx
  ·split at hx
   ·simp at hx
   ·split at hx
    ·split at hx <;> simp at hx
    ·rename_i ps hps
     obtain ⟨⟨a,b⟩,hm,e⟩:=List.mem_map.1 hx
     cases e
     exact BS _ hm
  ·split at hx
   ·simp at hx
   ·split at hx
    ·split at hx <;> simp at hx
    ·obtain ⟨⟨a,b⟩,hm,e⟩:=List.mem_map.1 hx
     cases e
     exact BS _ hm
  ·simp at hx
 ·simp at hx
theorem Wx {p:Program}{rest:Rest}{gs:Array Goroutine}{i:Nat}{g:Goroutine}{cases:Array CommCase}{blocking:Bool}{shape:CommShape}{w:World}{r:Stepped}{ops:Array MemOp}(hi:i < gs.size)(h:communicate p rest gs i g cases blocking shape w=(r,ops)):∀ op∈ops,op.g < gs.size:=by
 unfold communicate at h
 simp only [] at h
 split at h
 ·simp only [Prod.mk.injEq] at h;obtain ⟨_,rfl⟩:=h;simp
 split at h
 ·split at h
  ·split at h <;> (simp only [Prod.mk.injEq] at h;obtain ⟨_,rfl⟩:=h;simp)
  ·simp only [Prod.mk.injEq] at h;obtain ⟨_,rfl⟩:=h;simp
 split at h
 ·simp only [Prod.mk.injEq] at h;obtain ⟨_,rfl⟩:=h;simp
 ·rename_i k c way w' hpick
  have fK:∀ x y,way=.partner x y→x < gs.size:=by
   intro x y e
   subst e
   rw [Sem.run_bind] at hpick
   cases h1:(choose (.select (((cases.zipIdx.toList.map fun (c,k)=>(k,c,ways w gs c)).filter fun (_,_,ws)=>!ws.isEmpty).length))).run p w with
   | halt e u=>rw [h1] at hpick;cases hpick
   | ok a u =>
    rw [h1] at hpick
    simp only [Result.andThen_ok,Sem.run_bind] at hpick
    have hz:∀ z,(List.filter (fun x:Nat×CommCase×List Way=>!x.2.snd.isEmpty) (List.map (fun x:CommCase×Nat=>(x.snd,x.fst,ways w gs x.fst)) cases.zipIdx.toList)).getD a (0,default,[])=z→∀ e∈z.2.2,∃ c',e∈ways w gs c':=by
     intro z hz e he
     rw [List.getD_eq_getElem?_getD] at hz
     cases hq:(List.filter (fun x:Nat×CommCase×List Way=>!x.2.snd.isEmpty) (List.map (fun x:CommCase×Nat=>(x.snd,x.fst,ways w gs x.fst)) cases.zipIdx.toList))[a]? with
     | none=>rw [hq] at hz;subst hz;simp at he
     | some y =>
      rw [hq] at hz
      simp only [Option.getD_some] at hz
      subst hz
      obtain ⟨q,_,rfl⟩:=List.mem_map.1 (List.mem_filter.1 (List.mem_of_getElem? hq)).1
      exact ⟨_,he⟩
    generalize hzz:(List.filter (fun x:Nat×CommCase×List Way=>!x.2.snd.isEmpty) (List.map (fun x:CommCase×Nat=>(x.snd,x.fst,ways w gs x.fst)) cases.zipIdx.toList)).getD a (0,default,[])=z at hpick
    cases h2:(choose (.extern "which waiting goroutine is the partner" z.2.2.length)).run p u with
    | halt e v=>rw [h2] at hpick;cases hpick
    | ok b v =>
     rw [h2] at hpick
     simp only [Result.andThen_ok,Sem.run_pure,Result.ok.injEq,Prod.mk.injEq] at hpick
     obtain ⟨⟨_,_,e⟩,_⟩:=hpick
     have hmem:Way.partner x y∈z.2.2:=by
      rw [List.getD_eq_getElem?_getD] at e
      cases hb:z.2.2[b]? with
      | none=>rw [hb] at e;cases e
      | some q=>rw [hb] at e;simp only [Option.getD_some] at e;subst e;exact List.mem_of_getElem? hb
     obtain ⟨c',hc⟩:=hz z hzz _ hmem
     exact Ww hc
  repeat' split at h
  all_goals first
   | (simp only [Prod.mk.injEq] at h;obtain ⟨_,rfl⟩:=h;simp;done)
   | (simp only [Prod.mk.injEq] at h;obtain ⟨_,rfl⟩:=h;intro op hop;simp at hop;subst hop;exact hi)
   | (simp only [Prod.mk.injEq] at h;obtain ⟨_,rfl⟩:=h;intro op hop;simp at hop;rcases hop with rfl | rfl <;> exact hi)
   | (simp only [Prod.mk.injEq] at h;obtain ⟨_,rfl⟩:=h;intro op hop;simp at hop;rcases hop with rfl | rfl | rfl | rfl <;> first | exact hi | exact fK _ _ rfl)
   | (simp only [Prod.mk.injEq] at h;obtain ⟨_,rfl⟩:=h;intro op hop;simp at hop;rcases hop with rfl | rfl | rfl | rfl <;> first | exact hi | (have:=I4 (gs:=gs) (Nat.lt_of_le_of_lt (Nat.zero_le _) hi);simpa using this) | exact I4 (Nat.lt_of_le_of_lt (Nat.zero_le _) hi))
theorem Wy {p:Program}{m m':Machine}{i:Nat}{b:Bool}{ops:Array MemOp}(h:runT p m i b=(.next m',ops))(hi:i < m.gs.size):∀ op∈ops,op.g < m'.gs.size:=by
 have hle:=runT_size p m m' i b (by rw [h])
 simp only [runT] at h
 have hs:(m.gs.swapAt! i { (default:Goroutine) with status:=.finished }).2.size=m.gs.size:=by simp
 revert hs h
 generalize m.gs.swapAt! _ _=gg
 intro h hs
 have hof:∀ (fn:FuncId) (pos:String) (es:Array Event),∀ op∈MemOp.ofEvents i fn pos es,op.g < m'.gs.size:=fun fn pos es op hop=>by
  obtain ⟨_,_,rfl⟩:=Go.Conc.mem_ofEvents hop
  exact Nat.lt_of_lt_of_le hi hle
 generalize stepG p _ gg.1 m.world b=s at h
 cases s <;> simp only [Prod.mk.injEq] at h
 all_goals first
  | (obtain ⟨_,rfl⟩:=h;exact hof _ _ _)
  | (obtain ⟨h1,rfl⟩:=h
     simp only [Stepped.next.injEq] at h1
     subst h1
     intro op hop
     simp only [Array.mem_push] at hop
     rcases hop with (hop | rfl) | rfl
     ·exact hof _ _ _ op hop
     ·exact Nat.lt_of_lt_of_le hi hle
     ·simp)
  | (obtain ⟨h1,rfl⟩:=h
     intro op hop
     rcases Array.mem_append.1 hop with hop | hop
     ·exact hof _ _ _ op hop
     ·exact Nat.lt_of_lt_of_le (Wx (hs ▸ hi) rfl op hop) (by rw [communicate_size _ _ _ _ _ _ _ _ _ _ h1];exact Nat.le_refl _))
theorem Wz {p:Program}{m m':Machine}{k:Nat}(h:serve p m k=.next m'):∀ op∈served p m k,op.g < m'.gs.size:=by
 intro op hop
 unfold served at hop
 split at hop
 ·rename_i a _ _ _ _ _ hk
  unfold serve at h
  simp only [hk] at h
  rw [Array.mem_singleton.1 hop]
  split at h
  ·cases h
  ·simp only [Stepped.next.injEq] at h
   subst h
   simp
 ·simp at hop
theorem WA {p:Program}{m m':Machine}{ops:Array MemOp}(h:askOn p m=.machine (.next m') ops):∀ op∈ops,op.g < m'.gs.size:=by
 unfold askOn at h
 simp only [] at h
 repeat' first
  | (simp at h;done)
  | (simp only [Move.machine.injEq] at h;obtain ⟨h1,rfl⟩:=h;exact Wz h1)
  | (simp only [Move.machine.injEq] at h;obtain ⟨_,rfl⟩:=h;simp;done)
  | split at h
theorem WB {p:Program}{m m':Machine}{ops:Array MemOp}(h:ask p m=.machine (.next m') ops):∀ op∈ops,op.g < m'.gs.size:=by
 rcases ask_cases p m with ⟨m₂,_,he,_⟩ | ⟨o,w,he⟩
 ·rw [he] at h;exact WA h
 ·rw [he] at h;simp at h
theorem WC {p:Program}{m m':Machine}{ops:Array MemOp}(h:move p m=.machine (.next m') ops):∀ op∈ops,op.g < m'.gs.size:=by
 unfold move at h
 repeat' first
  | (simp at h;done)
  | exact WB h
  | (simp only [Move.machine.injEq] at h;obtain ⟨_,rfl⟩:=h;simp;done)
  | split at h
theorem WE {p:Program}{m m':Machine}{ops:Array MemOp}(h0:0 < m.gs.size)(h:stepT p m=(.next m',ops)):m.gs.size≤m'.gs.size∧∀ op∈ops,op.g < m'.gs.size:=by
 unfold stepT at h
 split at h
 ·rename_i m1 i hm
  obtain ⟨h1,h2,_⟩:=move_goroutine p m m1 i hm
  have hi:i < m1.gs.size:=by omega
  have:=runT_size p m1 m' i true (by rw [h])
  exact ⟨ag,Wy h hi⟩
 ·rename_i s o hm
  simp only [Prod.mk.injEq] at h
  obtain ⟨rfl,rfl⟩:=h
  exact ⟨move_size p m m' o hm,WC hm⟩
theorem I5 {p:Program}:∀ (N:Nat){m m':Machine}{t t':Trace},0 < m.gs.size→(∀ op∈t,op.g < m.gs.size)→runNT p N m t=(.next m',t')→∀ op∈t',op.g < m'.gs.size
 | 0,m,m',t,t',_,ht,h=>by
  simp only [runNT,Prod.mk.injEq,Stepped.next.injEq] at h
  obtain ⟨rfl,rfl⟩:=h
  exact ht
 | N+1,m,m',t,t',h0,ht,h=>by
  unfold runNT at h
  split at h
  ·rename_i m1 ops hs
   obtain ⟨h1,h2⟩:=WE h0 hs
   refine I5 N ag (fun op hop=>?_) h
   rcases Array.mem_append.1 hop with q | q
   ·exact Nat.lt_of_lt_of_le (ht op q) h1
   ·exact h2 op q
  ·rename_i e ops hne hs
   simp only [Prod.mk.injEq] at h
   exact (hne m' h.1).elim
theorem I6 {p:Program}:∀ (N:Nat){m m':Machine}{t t':Trace},runNT p N m t=(.next m',t')→runN p N m=.next m'
 | 0,m,m',t,t',h=>by
  simp only [runNT,Prod.mk.injEq] at h
  exact h.1
 | N+1,m,m',t,t',h=>by
  unfold runNT at h
  unfold runN step
  split at h
  ·rename_i m1 ops hs
   rw [hs]
   exact I6 N h
  ·rename_i e ops hne hs
   simp only [Prod.mk.injEq] at h
   exact (hne m' h.1).elim
theorem WG {P:Program}{Post:Value→World→Prop}{Home:Nat→ai}{g:Goroutine}{w:World}(lN:∀ i,i < P.globals.size→∃ c e fz,w.heap[i]?=some (.cells c e fz))(h:aj P true (aK P (qO P Post (ic w)) (oF (ic w) Home)) (yP w) g w) :
  ∃ M last o w' t',runNT P (M+1) (solo g w) #[]=(.ended o w',t')∧runN P M (solo g w)=.next last∧step P last=.ended o w'∧Conc.Good P (fun v w1=>Post v w1∧ic w1=ic w) last o w' t':=by
 obtain ⟨N,m,t,hrun,hfin⟩:=Wv lN h rfl
 have hops:=I5 N (show 0 < (solo g w).gs.size by simp [solo]) (fun op hop=>by simp at hop) hrun
 obtain ⟨o,w',ops,hst,hgood⟩:=hfin hops
 refine ⟨N,m,o,w',t ++ ops,?_,?_,?_,hgood⟩
 ·exact (runNT_then N 1 _ _ _ _ hrun).trans (by simp only [runNT,hst])
 ·exact I6 N hrun
 ·unfold step;rw [hst]
end Go.Blind

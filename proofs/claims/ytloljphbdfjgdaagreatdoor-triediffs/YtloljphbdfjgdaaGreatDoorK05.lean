/- Drawn regions within a round of a range over a function: by the same invariants. -/
import Derived.Test.YtloljphbdfjgdaaGreatDoorK03
import Derived.Test.YtloljphbdfjgdaaGreatDoorK04
import Derived.OrdersIn
import Derived.RangeFuncCalls
namespace Go.Proofs.YtloljphbdfjgdaaGreatDoor
open Go.RowKit
section
variable {P:Program} {ops:Array Oper} {Q:Exit→Act→World→Prop}
theorem any_inv (hac:∀ i o,ops[i]?=some o→∀ e∈o.after,Region.binds .any e=true→e.on < i) (I:Array Bool→Act→World→Prop) (hsz:∀ l a w,I l a w→l.size=ops.size) {a:Act} {w:World}
  (h0:I (Array.replicate ops.size false) a w.drew) (hstep:∀ l a w,I l a w→∀ i∈Region.ready .any ops l,wpOp P ops Q i (fun a' w'=>I (l.setIfInBounds i true) a' w') a w) (hend:∀ l a w,I l a w→(∀ i,i < ops.size→l.getD i true=true)→Q .normal a w) :
  wpAny P .any ops Q ops.size (Array.replicate ops.size false) a w.drew:=by
 refine wpAny_inv hac I hsz hstep hend ops.size _ _ _ h0 ?_
 have:∀ n,cnt (List.replicate n false)≤n:=fun n=>by
  have:=List.countP_le_length (p:=fun b=>!b) (l:=List.replicate n false)
  simpa [cnt] using this
 simpa using this ops.size
def noDefer (o:Oper):Bool:=match o.op with | .defer _=>false | _=>true
theorem noDefer_ne {o:Oper} (h:noDefer o=true):∀ c,o.op≠.defer c:=fun c e=>by unfold noDefer at h; rw [e] at h; cases h
theorem oper_in {o:Oper} {a:Act} {w:World} {K:Act→World→Prop} {Q':Exit→Act→World→Prop} {l:Nat} (hd:noDefer o=true) (h:o.wp P a w K (fun _ _ _=>False)):o.wpIn (Fence.wide.inRound l) 0 P a w K Q':=by
 refine ⟨fun f _=>trivial,?_⟩
 rw [show (Fence.wide.inRound l).round=some l from rfl,Oper.semAt_some l a.eval o (noDefer_ne hd)]
 unfold Oper.wp at h
 cases hr:(execOp a.eval o).run P w with
 | ok x w' =>
  rw [hr] at h
  cases x with
  | value v=>exact h
  | skip=>exact h
  | defer d=>exact h
  | enter f args =>
   refine ⟨fun hh=>(by cases hh),?_⟩
   have h2:Calls P f args w' _:=h
   refine ((callsIn_wide.2 h2).inRound l).mono ?_
   intro e w'' he
   cases e with
   | returned v=>exact he
   | panicked ch=>exact he.elim
   | outgrown=>obtain ⟨_,_,hh⟩:=he; exact hh.elim
  | row r args =>
   refine ⟨fun hh=>(by cases hh),fun c cs _=>?_⟩
   obtain ⟨v,w'',hv,hs⟩:=h c cs
   exact ⟨v,w'',hv,stepsIn_wide.2 hs⟩
  | _=>exact h.elim
 | halt x w' =>
  rw [hr] at h
  cases x with
  | panic v=>exact h.elim
  | _=>exact h.elim
theorem oper_post {o:Oper} {a:Act} {w:World} {K K':Act→World→Prop} (h:o.wp P a w K (Exit.then K' (fun _ _ _=>False))):o.wp P a w K (fun _ _ _=>False):=by
 unfold Oper.wp at *
 cases hr:(execOp a.eval o).run P w with
 | ok x w' =>
  rw [hr] at h
  cases x with
  | enter f args =>
   refine Calls.mono (show Calls P f args w' _ from h) ?_
   intro e w'' he
   cases e with
   | returned v=>exact he
   | panicked ch=>exact he
   | outgrown=>obtain ⟨x,y,hh⟩:=he; exact ⟨x,y,hh⟩
  | _=>exact h
 | halt x w'=>rw [hr] at h; cases x <;> exact h
theorem lets_false {K:Act→World→Prop}:¬ LetsOut (Exit.then K (fun _ _ _=>False)):=by
 rintro ⟨a,w,h⟩; exact h
theorem any_in {K:Act→World→Prop} {Q':Exit→Act→World→Prop} {l:Nat} (hd:ops.all noDefer=true):∀ (fuel:Nat) (li:Array Bool) (a:Act) (w:World),wpAny P .any ops (Exit.then K (fun _ _ _=>False)) fuel li a w→wpAnyIn (Fence.wide.inRound l) 0 P .any ops (Exit.then K Q') fuel li a w:=by
 intro fuel
 induction fuel with
 | zero=>intro li a w h; exact h
 | succ fuel ih =>
  intro li a w h
  refine ⟨h.1,fun i hi=>?_⟩
  have hs:=h.2 i hi
  unfold wpOp at hs
  unfold wpOpIn
  cases ho:ops[i]? with
  | none=>simp only [ho] at hs ⊢; exact ih _ _ _ hs
  | some o =>
   simp only [ho] at hs ⊢
   have hno:noDefer o=true:=Array.all_eq_true_iff_forall_mem.1 hd o (Array.mem_of_getElem? ho)
   split at hs
   ·rename_i hw
    rw [if_pos hw]
    rcases hs with hs | ⟨_,hs⟩
    ·refine oper_in hno ?_
     refine Oper.wp_mono (fun a w=>ih _ a w) ?_
     exact oper_post hs
    ·exact (lets_false hs).elim
   ·rename_i hw
    rw [if_neg hw]
    exact ⟨fun f _=>trivial,ih _ _ _ hs⟩
theorem region_in {K:Act→World→Prop} {Q':Exit→Act→World→Prop} {l id:Nat} {a:Act} {w:World} (hm:P.follows .mixedOrders=true) (hd:ops.all noDefer=true) (h:wpAny P .any ops (Exit.then K (fun _ _ _=>False)) ops.size (Array.replicate ops.size false) a w.drew):(Code.region id ops true).wpIn (Fence.wide.inRound l) 0 P (Exit.then K Q') a w :=
 wpIn_region_any hm (any_in hd _ _ _ _ h)
end
section
variable {P:Program} {ops:Array Oper} {Q:Exit→Act→World→Prop} {G:Type}
theorem ghost3_any {a0:Act} {w:World} (D:List (Option Nat)) (hok:regOk ops D a0.tmps.size=true) (V:G→Nat→Value) (As:List Nat) (hgu:∀ (i g:Nat) (b:Bool),(ops[i]?).bind (fun o:Oper=>o.guard)=some (g,b)→∀ γ,(∃ b',V γ g=.bool b'∧(b'≠b→V γ i=undef∧i∉As))∨(V γ g=undef∧V γ i=undef∧i∉As)) (done:G→Nat→Bool) (St:G→World→Prop) (g0:G) (h0:St g0 w.drew) (hd0:∀ x∈As,done g0 x=false) (hlt:As.all (fun x=>decide (x < D.length))=true)
  (hstep:∀ i,i < D.length→(∀ (g:Nat) (b:Bool),(ops[i]?).bind (fun o:Oper=>o.guard)=some (g,b)→∃ γ,V γ g=.bool b)→YieldsG P ops D V a0 As done St Q i)
  (hend:∀ a' w' g,a'.tmps.size=a0.tmps.size→a'.defers=a0.defers→(∀ s,some s∉D→a'.tmps[s]?=a0.tmps[s]?)→St g w'→(∀ x∈As,done g x=true)→(∀ i d,D.getD i none=some d→a'.eval (.tmp d)=V g i)→Q .normal a' w') :
  wpAny P .any ops Q ops.size (Array.replicate ops.size false) a0 w.drew:=by
 have hn:ops.size=D.length:=by
  unfold regOk at hok
  simp only [Bool.and_eq_true,beq_iff_eq] at hok
  exact hok.1
 have mem:∀ s i,D.getD i none=some s→some s∈D:=fun s i e=>by
  have hi:i < D.length:=by
   apply Classical.byContradiction
   intro h
   rw [List.getD_eq_getElem?_getD,List.getElem?_eq_none (by omega)] at e
   cases e
  rw [List.getD_eq_getElem?_getD,List.getElem?_eq_getElem hi] at e
  have:=List.getElem_mem hi
  rw [show D[i]=some s from e] at this
  exact this
 have lt:∀ i d,D.getD i none=some d→i < D.length:=fun i d e=>by
  apply Classical.byContradiction
  intro h
  rw [List.getD_eq_getElem?_getD,List.getElem?_eq_none (by omega)] at e
  cases e
 have hoff:∀ i,on (Array.replicate ops.size false) i=false:=fun i=>by
  simp only [on,Array.getD_eq_getD_getElem?,Array.getElem?_replicate]
  split <;> rfl
 refine any_inv (fun i o ho=>(reg_at hok ho).2.2.1) (IGhost ops D V a0 As done St) (fun l a w h=>by rw [hn]; exact h.size) ?_ ?_ ?_
 ·exact ⟨by simp [hn],rfl,rfl,fun _ _=>rfl,fun i j hh=>(by rw [hoff] at hh; cases hh),g0,h0,fun x hx=>by rw [hoff,hd0 x hx],fun i d _ hh=>(by rw [hoff] at hh; cases hh)⟩
 ·intro l a w' h i hi
  obtain ⟨hu,o,ho,hall⟩:=mem_ready.1 hi
  obtain ⟨r1,r2,r3,r4,r5,r6⟩:=reg_at hok ho
  have hoi:on l i=false:=by simp only [on]; simp [Array.getD,h.size,r1] at hu ⊢; exact hu
  have hset:∀ j,on (l.setIfInBounds i true) j=if i=j then true else on l j:=fun j=>on_set i j (by rw [h.size]; exact r1)
  obtain ⟨g,hg1,hg2,hg3⟩:=h.g
  have hyield:∀ (q:Nat) (bq b':Bool),o.guard=some (q,bq)→V g q=.bool b'→yielded ops a.tmps q=some b':=fun q bq b' hgd h2=>by
   obtain ⟨h1,h3,h4⟩:=r6 q bq hgd
   obtain ⟨d,hgD⟩:=Option.isSome_iff_exists.1 h4
   have hv:=hg3 q d hgD (dep_of hi (waits_map h3))
   rw [h2] at hv
   have hgo:∃ og,ops[q]?=some og:=⟨ops[q]'(by omega),Array.getElem?_eq_getElem (by omega)⟩
   obtain ⟨og,hog⟩:=hgo
   unfold yielded
   rw [hog]
   simp only [Option.bind_some,(reg_at hok hog).2.1,hgD]
   have hlt:d < a.tmps.size:=by rw [h.tsize]; exact (reg_at hok hog).2.2.2.1 d hgD
   simp only [Act.eval,Array.getD,hlt,dite_true] at hv
   rw [Array.getElem?_eq_getElem hlt]
   have:a.tmps[d]=.bool b':=hv
   rw [this]
  have hyieldU:∀ (q:Nat) (bq:Bool),o.guard=some (q,bq)→V g q=undef→yielded ops a.tmps q=none:=fun q bq hgd h2=>by
   obtain ⟨h1,h3,h4⟩:=r6 q bq hgd
   obtain ⟨d,hgD⟩:=Option.isSome_iff_exists.1 h4
   have hv:=hg3 q d hgD (dep_of hi (waits_map h3))
   rw [h2] at hv
   have hgo:∃ og,ops[q]?=some og:=⟨ops[q]'(by omega),Array.getElem?_eq_getElem (by omega)⟩
   obtain ⟨og,hog⟩:=hgo
   unfold yielded
   rw [hog]
   simp only [Option.bind_some,(reg_at hok hog).2.1,hgD]
   have hlt:d < a.tmps.size:=by rw [h.tsize]; exact (reg_at hok hog).2.2.2.1 d hgD
   simp only [Act.eval,Array.getD,hlt,dite_true] at hv
   rw [Array.getElem?_eq_getElem hlt]
   have:a.tmps[d]=undef:=hv
   rw [this]
   rfl
  have keeps:∀ g' w2,St g' w2→(∀ x∈As,done g' x=(done g x || x == i))→(∀ j,j≠i→reachB ops ops.size j i=false→V g' j=V g j)→IGhost ops D V a0 As done St (l.setIfInBounds i true) (a.put (D.getD i none) (V g' i)) w2:=by
   intro g' w2 hS hdn hV
   have hputs:(a.put (D.getD i none) (V g' i)).tmps.size=a0.tmps.size:=by
    cases hD:D.getD i none <;> simp [Act.put,h.tsize]
   have hputd:(a.put (D.getD i none) (V g' i)).defers=a0.defers:=by
    cases hD:D.getD i none <;> simp [Act.put,h.defers]
   refine ⟨by simp [h.size],hputs,hputd,fun s hs=>?_,fun x y hx hy=>?_,g',hS,fun x hx=>?_,fun j d hjd hh=>?_⟩
   ·cases hD:D.getD i none with
    | none=>exact h.off s hs
    | some d =>
     have:d≠s:=fun e=>hs (mem s i (by rw [hD,e]))
     simp only [Act.put,Array.getElem?_setIfInBounds,this,if_false]
     exact h.off s hs
   ·rw [hset] at hx ⊢
    by_cases e2:i=y
    ·rw [if_pos e2]
    ·rw [if_neg e2]
     by_cases e1:i=x
     ·subst e1
      exact dep_of hi (waits_map hy)
     ·rw [if_neg e1] at hx
      exact h.closed x y hx hy
   ·rw [hdn x hx,hg2 x hx,hset]
    by_cases e:i=x
    ·subst e
     simp
    ·have e':¬ x=i:=fun z=>e z.symm
     simp [e,e']
   ·rw [hset] at hh
    by_cases e:i=j
    ·subst e
     rw [hjd,ev_put _ _ _ (by rw [h.tsize]; exact r4 d hjd),if_pos rfl]
    ·rw [if_neg e] at hh
     have hVj:V g' j=V g j:=hV j (fun z=>e z.symm) (by
      cases hr:reachB ops ops.size j i with
      | false=>rfl
      | true =>
       have:=reach_on h.closed ops.size j i hh hr
       rw [hoi] at this
       cases this)
     rw [hVj]
     cases hD:D.getD i none with
     | none=>exact hg3 j d hjd hh
     | some d' =>
      rw [ev_put _ _ _ (by rw [h.tsize]; exact r4 d' hD),if_neg (fun e2=>e (r5 j d (lt j d hjd) (by rw [hD,e2]) hjd))]
      exact hg3 j d hjd hh
  unfold wpOp
  simp only [ho]
  by_cases hwant:Region.wanted o (yielded ops a.tmps)=true
  ·rw [if_pos hwant]
   left
   refine hstep i r1 (fun q bq hgb=>?_) o a w' g _ ho r2 h.tsize (fun s hs=>?_) (fun j d hjd hh=>hg3 j d hjd (dep_of hi (waits_map hh))) hg1 (fun x hx hr=>?_) (fun hm=>?_) (fun x hx hr=>?_) keeps
   ·rcases hgu i q bq hgb g with ⟨b',h1,h2⟩ | ⟨h1,-,-⟩
    ·rw [ho] at hgb
     have hgd:o.guard=some (q,bq):=hgb
     have hy:=hyield q bq b' hgd h1
     simp [Region.wanted,hgd,hy] at hwant
     exact ⟨g,by rw [h1,hwant]⟩
    ·rw [ho] at hgb
     have hgd:o.guard=some (q,bq):=hgb
     have hy:=hyieldU q bq hgd h1
     simp [Region.wanted,hgd,hy] at hwant
   ·simp only [Act.eval,Array.getD_eq_getD_getElem?,h.off s hs]
   ·rw [hg2 x hx]
    exact reach_on_ready hi hr h.closed
   ·rw [hg2 i hm,hoi]
   ·rw [hg2 x hx]
    cases hx2:on l x with
    | false=>rfl
    | true =>
     have:=reach_on h.closed ops.size x i hx2 hr
     rw [hoi] at this
     cases this
  ·rw [if_neg hwant,r2]
   cases hgd:o.guard with
   | none=>exact absurd (by simp [Region.wanted,hgd]) hwant
   | some gb =>
    obtain ⟨q,bq⟩:=gb
    obtain ⟨h3,h4⟩:V g i=undef∧i∉As:=by
     rcases hgu i q bq (by rw [ho]; exact hgd) g with ⟨b',h1,h2⟩ | ⟨-,h2,h3⟩
     ·have hy:=hyield q bq b' hgd h1
      have hne:b'≠bq:=fun e=>hwant (by simp [Region.wanted,hgd,hy,e])
      exact h2 hne
     ·exact ⟨h2,h3⟩
    have:=keeps g w' hg1 (fun x hx=>by have:¬ x=i:=fun e=>h4 (e ▸ hx); simp [this]) (fun j _ _=>rfl)
    rw [h3] at this
    exact this
 ·intro l a w' h hall
  have hal:∀ i,i < D.length→on l i=true:=fun i hi=>by
   have:=hall i (by rw [hn]; exact hi)
   simp only [on,Array.getD,h.size,hi,dite_true] at this ⊢
   exact this
  obtain ⟨g,hg1,hg2,hg3⟩:=h.g
  exact hend a w' g h.tsize h.defers h.off hg1 (fun x hx=>by
   rw [hg2 x hx]
   exact hal x (by simpa using List.all_eq_true.1 hlt x hx)) fun i d hD=>hg3 i d hD (hal i (lt i d hD))

theorem wpIn_region_ghost3 {K:Act→World→Prop} {Q':Exit→Act→World→Prop} {l id:Nat} {a0:Act} {w:World} (hm:P.follows .mixedOrders=true) (hdf:ops.all noDefer=true) (D:List (Option Nat)) (hok:regOk ops D a0.tmps.size=true) (V:G→Nat→Value) (As:List Nat) (hgu:∀ (i g:Nat) (b:Bool),(ops[i]?).bind (fun o:Oper=>o.guard)=some (g,b)→∀ γ,(∃ b',V γ g=.bool b'∧(b'≠b→V γ i=undef∧i∉As))∨(V γ g=undef∧V γ i=undef∧i∉As)) (done:G→Nat→Bool) (St:G→World→Prop) (g0:G) (h0:St g0 w.drew) (hd0:∀ x∈As,done g0 x=false) (hlt:As.all (fun x=>decide (x < D.length))=true)
  (hstep:∀ i,i < D.length→(∀ (g:Nat) (b:Bool),(ops[i]?).bind (fun o:Oper=>o.guard)=some (g,b)→∃ γ,V γ g=.bool b)→YieldsG P ops D V a0 As done St (Exit.then K (fun _ _ _=>False)) i)
  (hend:∀ a' w' g,a'.tmps.size=a0.tmps.size→a'.defers=a0.defers→(∀ s,some s∉D→a'.tmps[s]?=a0.tmps[s]?)→St g w'→(∀ x∈As,done g x=true)→(∀ i d,D.getD i none=some d→a'.eval (.tmp d)=V g i)→K a' w') :
  (Code.region id ops true).wpIn (Fence.wide.inRound l) 0 P (Exit.then K Q') a0 w :=
 region_in hm hdf (ghost3_any D hok V As hgu done St g0 h0 hd0 hlt hstep hend)
end
def regOpsR (id:Nat):Code→Option (Array Oper)
 | .region i ops _=>if i=id then some ops else none
 | .seq a b=>match regOpsR id a with
  | some o=>some o
  | none=>regOpsR id b
 | .cond _ a b=>match regOpsR id a with
  | some o=>some o
  | none=>regOpsR id b
 | .block _ c=>regOpsR id c
 | .scope c=>regOpsR id c
 | .loop c=>regOpsR id c
 | .rangeFunc _ _ a b=>match regOpsR id a with
  | some o=>some o
  | none=>regOpsR id b
 | _=>none
def opsR (id:Nat) (b:Option Code):Array Oper:=(b.bind (regOpsR id)).getD #[]
structure StC (F:List Nat) (w:World) (k:Nat) (A Post:World→Prop) (g:Nat) (x:World):Prop where
 turned:Turned F w x
 le:g≤k
 pre:g < k→A x
 post:g=k→Post x
def doneC (l:List Nat) (g i:Nat):Bool:=decide (l.idxOf i < g)
end Go.Proofs.YtloljphbdfjgdaaGreatDoor

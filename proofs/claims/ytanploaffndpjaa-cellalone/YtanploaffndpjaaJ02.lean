/- Of the proof. -/
import Derived.Test.YtanploaffndpjaaJ01
namespace Go.Blind
section
variable {P:Program}{β γ:Type}{Q:av→β→γ→Prop}{K:av}
theorem SR.twoPlaces {a a' b b':Addr}(ra:bA K a a')(rb:bA K b b'):SR P (fun _ x y=>x=y) K (Op.twoPlaces a b) (Op.twoPlaces a' b'):=by
 unfold Op.twoPlaces
 refine SR.iF ?_
 intro v w es hs ha
 have hb:=hs.gQ _ _ _ _ ra.block rb.block
 by_cases hc:a.block=b.block∧a.block < P.globals.size
 ·have e1:a'.block=a.block:=((hs.gQ _ _ _ _ (hs.base a.block ag) ra.block).1 rfl).symm
  have t1:¬ (a.block != b.block || decide (a.block ≥ P.globals.size))=true:=by simp [hc.1];have:=hc.1 ▸ hc.2;omega
  have t2:¬ (a'.block != b'.block || decide (a'.block ≥ P.globals.size))=true:=by simp [← hb.1 hc.1,e1];exact hc.2
  dsimp only
  rw [if_neg t1,if_neg t2]
  exact SR.bind (SR.byteOf ra) (fun N x y hN e=>SR.bind (SR.byteOf (rb.mono hN)) fun O x' y' hO e'=>SR.pure (by rw [e,e'])) v w es hs ha
 ·have t1:(a.block != b.block || decide (a.block ≥ P.globals.size))=true:=by
   simp only [Bool.or_eq_true,bne_iff_ne,ne_eq,decide_eq_true_eq]
   by_cases h:a.block=b.block
   ·exact .inr (Nat.le_of_not_lt fun z=>hc ⟨h,z⟩)
   ·exact .inl h
  dsimp only
  rw [if_pos t1]
  exact ⟨dG.stop (h:=.unsupported .addressObserved) rfl,Loc.halt (h:=.unsupported .addressObserved) rfl rfl⟩
theorem SR.um {a a' b b':Addr}(ra:bA K a a')(rb:bA K b b'){f:Nat×Nat→Sem β}{g:Nat×Nat→Sem γ}(h:∀ L x,K.le L→SR P Q L (f x) (g x)) :
  SR P Q K (do let p ← behindNumber a
               let q ← behindNumber b
               (Op.twoPlaces p.1 q.1) >>= f) (do let p ← behindNumber a'
                                                 let q ← behindNumber b'
                                                 (Op.twoPlaces p.1 q.1) >>= g):=by
 by_cases ho:(K.own a.block∨a.block < P.globals.size)∧(K.own b.block∨b.block < P.globals.size)
 ·refine SR.bind (SR.behind ra ho.1) fun L p p' hL e=>?_
  refine SR.bind (SR.behind (rb.mono hL) (ho.2.imp (hL.own _) id)) fun M q q' hM e'=>?_
  exact SR.bind (SR.twoPlaces (e.1.mono hM) e'.1) fun N x y hN e=>by subst e;exact h N x ((hL.trans hM).trans hN)
 ·refine SR.dead fun v w hs=>?_
  obtain ⟨p,hp⟩:=wL hs ra
  obtain ⟨q,hq⟩:=wL hs rb
  have t1:(p.1.block != q.1.block || decide (p.1.block ≥ P.globals.size))=true:=by
   simp only [Bool.or_eq_true,bne_iff_ne,ne_eq,decide_eq_true_eq]
   refine Classical.byContradiction fun hn=>ho ?_
   have z1:p.1.block=q.1.block:=Classical.byContradiction fun z=>hn (.inl z)
   have z2:p.1.block < P.globals.size:=Nat.lt_of_not_le fun z=>hn (.inr z)
   constructor
   ·by_cases h1:K.own a.block
    ·exact .inl h1
    ·rw [lg hs ra h1] at hp;cases hp;exact .inr z2
   ·by_cases h1:K.own b.block
    ·exact .inl h1
    ·rw [lg hs rb h1] at hq;cases hq;exact .inr (z1 ▸ z2)
  refine ⟨.unsupported .addressObserved,v,?_,rfl⟩
  simp only [Bind.bind,run_bind',hp,hq,Op.twoPlaces,Go.program,Sem.run,t1,if_true]
  rfl
theorem SR.addrMod {k:IntKind}{a a':Addr}(r:bA K a a')(n:Int):SR P VR K (Op.addrMod k a n) (Op.addrMod k a' n):=by
 unfold Op.addrMod
 refine SR.shape r.block (fun _ s=>?_) fun _ _=>SR.unsupported
 cases s with
 | none=>exact SR.unsupported
 | some s =>
  obtain ⟨e,c⟩:=s
  refine SR.info fun i _=>?_
  dsimp only
  split
  ·exact SR.unsupported
  ·exact SR.bind (SR.byteOf r) fun _ _ _ _ e=>SR.pure (e ▸ .int _ _)
theorem SR.yV {k:IntKind}{a a':Addr}(r:bA K a a')(n:Int):SR P VR K (do Op.addrMod k (← behindNumber a).1 n) (do Op.addrMod k (← behindNumber a').1 n):=by
 by_cases ho:K.own a.block
 ·exact SR.bind (SR.behind r (.inl ho)) fun L p p' hL e=>SR.addrMod e.1 n
 ·refine SR.dead fun v w hs=>?_
  have e1:=hs.off _ _ r.block ho
  refine ⟨.unsupported .addressObserved,v,?_,rfl⟩
  simp only [Bind.bind,run_bind',lg hs r ho,Op.addrMod,Go.shape,Sem.run]
  simp [World.shape?,e1,fB,Go.unsupported,Sem.run]
theorem SR.viewAt {a a':Addr}(r:bA K a a'){f:Option (Addr×TypeId)→Sem β}{g:Option (Addr×TypeId)→Sem γ}(h:SR P Q K (f none) (g none))(hoff:¬ K.own a.block→∀ v x,∃ h v',(f (some x)).run P v=.halt h v'∧iP h=true) :
  SR P Q K (Go.viewAt a.block >>= f) (Go.viewAt a'.block >>= g):=by
 by_cases ho:K.own a.block
 ·unfold Go.viewAt
  refine SR.assoc (SR.shape r.block (fun _ s=>?_) fun hn=>absurd ho hn)
  cases s with
  | some s=>exact h
  | none=>exact SR.assoc (SR.getObj r.block (fun _ _ _ _ _=>h) fun hn=>absurd ho hn)
 ·refine SR.dead fun v w hs=>?_
  have e1:=hs.off _ _ r.block ho
  obtain ⟨q,v',z1,z2⟩:=hoff ho v (⟨0,0,some 0⟩,0)
  refine ⟨q,v',?_,z2⟩
  rw [← z1]
  simp [Go.viewAt,Go.shape,Go.getObj,Bind.bind,Pure.pure,Sem.bind,Sem.run,World.shape?,e1,fB]
theorem SR.unsafeAdd {a a':Addr}(r:bA K a a'){t:Array TypeId}{u:TypeId}(k:IntKind)(n:Int):SR P (fun L x y=>VR L x y∧∃ a,x=.pointer (some a)) K (Builtin.unsafeAdd_ t u #[.pointer (some a),.int k n]) (Builtin.unsafeAdd_ t u #[.pointer (some a'),.int k n]):=by
 unfold Builtin.unsafeAdd_
 dsimp only
 refine SR.bind (Q:=fun _ a b=>a=b) (SR.asInt (.int k n)) fun L x y hL e=>?_
 subst e
 dsimp only
 split
 ·refine SR.viewAt (r.mono hL) (SR.pure ⟨.ptr _ _ (r.mono hL),_,rfl⟩) fun _ v x=>⟨.unsupported (.unsafePointer "Add: at a place where no cell lies"),v,rfl,rfl⟩
 ·split
  ·exact SR.unsupported
  ·refine SR.shape (hL.b _ _ r.block) (fun _ s=>?_) fun _ _=>SR.unsupported
   cases s with
   | none=>exact SR.unsupported
   | some s =>
    obtain ⟨e,c⟩:=s
    refine SR.iF ?_
    rw [← r.off]
    split
    ·exact SR.pure ⟨.ptr _ _ ⟨hL.b _ _ r.block,rfl,r.spot⟩,_,rfl⟩
    ·exact SR.unsupported
def Dead (P:Program){β:Type}(K:av)(s:Sem β):Prop:=∀ v w,aY P K v w→∃ q,s.run P v=.halt q v∧iP q=true
theorem Dead.stop {q:Halt}(h:iP q=true):Dead P (β:=β) K (.halt q):=fun _ _ _=>⟨q,rfl,h⟩
theorem Dead.after {α:Type}{s:Sem α}{f:α→Sem β}{x:α}(h:∀ v w,aY P K v w→s.run P v=.ok x v)(k:Dead P K (f x)):Dead P K (s >>= f):=by
 intro v w hs
 obtain ⟨q,h1,h2⟩:=k v w hs
 refine ⟨q,?_,h2⟩
 show (s.bind f).run P v=_
 rw [run_bind',h v w hs]
 exact h1
theorem Dead.sr {s:Sem β}{t:Sem γ}(h:Dead P K s):SR P Q K s t:=SR.dead fun v w hs=>by
 obtain ⟨q,h1,h2⟩:=h v w hs
 exact ⟨q,v,h1,h2⟩
theorem Dead.unsafeAdd {a a':Addr}(r:bA K a a')(ho:¬ K.own a.block){t:Array TypeId}{u:TypeId}(k:IntKind)(n:Int):Dead P K (Builtin.unsafeAdd_ t u #[.pointer (some a),.int k n]):=by
 unfold Builtin.unsafeAdd_
 dsimp only
 refine Dead.after (x:=n) (fun v w hs=>rfl) ?_
 dsimp only
 split
 ·refine Dead.after (x:=some (⟨0,0,some 0⟩,0)) (fun v w hs=>?_) (Dead.stop (q:=.unsupported (.unsafePointer "Add: at a place where no cell lies")) rfl)
  have e1:=hs.off _ _ r.block ho
  simp [Go.viewAt,Go.shape,Go.getObj,Bind.bind,Pure.pure,Sem.bind,Sem.run,World.shape?,e1,fB]
 ·split
  ·exact Dead.stop (q:=.unsupported (.unsafePointer "Add: a move by a count below zero")) rfl
  ·refine Dead.after (x:=none) (fun v w hs=>?_) (Dead.stop (q:=.unsupported (.unsafePointer "Add")) rfl)
   have e1:=hs.off _ _ r.block ho
   simp [Go.shape,Sem.run,World.shape?,e1,fB]
theorem SR.movedNumber {t:TypeId}{a a':Addr}(r:bA K a a')(k:IntKind)(n:Int):SR P VR K (Go.movedNumber t (.pointer (some a)) (.int k n)) (Go.movedNumber t (.pointer (some a')) (.int k n)):=by
 unfold Go.movedNumber
 refine SR.under fun i _=>?_
 dsimp only
 split
 ·exact SR.unsupported
 ·by_cases ho:K.own a.block
  ·refine SR.bind (SR.behind r (.inl ho)) fun L p p' hL e=>?_
   obtain ⟨r1,e1⟩:=e
   obtain ⟨p,l⟩:=p
   obtain ⟨p',l'⟩:=p'
   simp only at e1 r1
   subst e1
   dsimp only
   refine SR.bind (SR.unsafeAdd r1 k n) fun M x y hM e=>?_
   obtain ⟨rv,b,rfl⟩:=e
   cases rv with
   | ptr _ b' rb=>exact SR.bind (SR.newObj (.number _ _ _ rb)) fun _ _ _ _ e=>SR.pure (.ptr _ _ ⟨e.2,rfl,rfl⟩)
  ·refine Dead.sr (Dead.after (x:=(a,false)) (fun v w hs=>lg hs r ho) ?_)
   intro v w hs
   obtain ⟨q,z1,z2⟩:=Dead.unsafeAdd r ho (t:=#[]) (u:=t) k n v w hs
   refine ⟨q,?_,z2⟩
   simp only [Bind.bind,run_bind',z1]
theorem SR.movedPointer {t:TypeId}{a a':Addr}(r:bA K a a')(k:IntKind)(n:Int):SR P VR K (Go.movedPointer t (.pointer (some a)) (.int k n)) (Go.movedPointer t (.pointer (some a')) (.int k n)):=by
 unfold Go.movedPointer
 dsimp only
 by_cases ho:K.own a.block
 ·unfold Go.numberAt
  refine SR.assoc (SR.shape r.block (fun _ s=>?_) fun hn=>absurd ho hn)
  cases s with
  | some s=>exact SR.mono (SR.unsafeAdd r (t:=#[]) (u:=t) k n) fun _ _ _ _ e=>e.1
  | none=>exact SR.assoc (SR.getObj r.block (fun _ _ _ _ _=>SR.unsupported) fun hn=>absurd ho hn)
 ·refine Dead.sr (Dead.after (x:=none) (fun v w hs=>?_) (Dead.unsafeAdd r ho (t:=#[]) (u:=t) k n))
  have e1:=hs.off _ _ r.block ho
  simp [Go.numberAt,Go.shape,Go.getObj,Bind.bind,Pure.pure,Sem.bind,Sem.run,World.shape?,e1,fB]
theorem Dead.Cc {t:Array TypeId}{u:TypeId}(k:IntKind)(n:Int):Dead P K (Builtin.unsafeAdd_ t u #[.pointer none,.int k n]):=by
 unfold Builtin.unsafeAdd_
 dsimp only
 refine Dead.after (x:=n) (fun v w hs=>rfl) ?_
 dsimp only
 split
 ·exact Dead.stop (q:=.unsupported (.unsafePointer "Add: from nil")) rfl
 ·split
  ·exact Dead.stop (q:=.unsupported (.unsafePointer "Add: a move by a count below zero")) rfl
  ·exact Dead.stop (q:=.unsupported (.unsafePointer "Add")) rfl
theorem Dead.Jh {t:TypeId}(k:IntKind)(n:Int):Dead P K (Go.movedPointer t (.pointer none) (.int k n)):=Dead.Cc (t:=#[]) (u:=t) k n
theorem Dead.yX {t:TypeId}(k:IntKind)(n:Int):Dead P K (Go.movedNumber t (.pointer none) (.int k n)):=by
 intro v w hs
 unfold Go.movedNumber
 simp only [Bind.bind,run_bind',Go.underlying,Go.program,Sem.run]
 cases P.underlying t with
 | none=>exact ⟨_,rfl,rfl⟩
 | some d =>
  simp only [Pure.pure,Sem.run]
  split
  ·exact ⟨_,rfl,rfl⟩
  ·exact Dead.Cc (t:=#[]) (u:=t) k n v w hs
def twins:Value→Value→Bool
 | .int ..,.int .. | .float ..,.float .. | .complex ..,.complex .. | .string ..,.string ..=>true
 | _,_=>false
theorem VR.twins {x x' y y':Value}(hx:VR K x x')(hy:VR K y y'):twins x y=twins x' y':=by
 cases hx <;> first | rfl | (cases hy <;> rfl)
theorem SR.Ji {op:BinOp}{t:TypeId}{x x' y y':Value}(hx:VR K x x')(hy:VR K y y')(h:Blind.twins x y=true):SR P VR K (Go.binOp op t x y) (Go.binOp op t x' y'):=by
 unfold Blind.twins at h
 split at h
 ·cases hx;cases hy
  cases op <;> unfold Go.binOp <;> dsimp only <;> first | exact SR.shift | (split <;> first | exact SR.stuck | exact SR.intArith | exact SR.intDiv | exact SR.intBits | exact SR.intCmp)
 ·cases hx;cases hy
  cases op <;> unfold Go.binOp <;> dsimp only <;> (split <;> first | exact SR.stuck | exact SR.floatArith | exact SR.floatCmp)
 ·cases hx
 ·cases hx;cases hy
  cases op <;> unfold Go.binOp <;> dsimp only <;> exact SR.stringOp
 ·cases h
theorem binOp_eql {t:TypeId}{x y:Value}(h:Blind.twins x y=false):Go.binOp .eql t x y=(do Pure.pure (.bool (← Op.equal t x y))):=by
 unfold Go.binOp
 split <;> first | rfl | (simp_all [Blind.twins];done)
theorem binOp_neq {t:TypeId}{x y:Value}(h:Blind.twins x y=false):Go.binOp .neq t x y=(do Pure.pure (.bool (!(← Op.equal t x y)))):=by
 unfold Go.binOp
 split <;> first | rfl | (simp_all [Blind.twins];done)
theorem SR.binOp (F:Fit P){op:BinOp}{t:TypeId}{x x' y y':Value}(hx:VR K x x')(hy:VR K y y'):SR P VR K (Go.binOp op t x y) (Go.binOp op t x' y'):=by
 by_cases ht:Blind.twins x y=true
 ·exact SR.Ji hx hy ht
 have ht1:Blind.twins x y=false:=by simpa using ht
 have ht2:Blind.twins x' y'=false:=by rw [← VR.twins hx hy];exact ht1
 by_cases he:op=.eql
 ·subst he
  rw [binOp_eql ht1,binOp_eql ht2]
  exact SR.bind (SR.equal F _ hx hy) fun _ _ _ _ e=>SR.pure (e ▸ .bool _)
 by_cases hn:op=.neq
 ·subst hn
  rw [binOp_neq ht1,binOp_neq ht2]
  exact SR.bind (SR.equal F _ hx hy) fun _ _ _ _ e=>SR.pure (e ▸ .bool _)
 conv=>arg 4;unfold Go.binOp
 split
 all_goals first | (exfalso;simp_all [Blind.twins];done) | exact SR.stuck | exact SR.unsupported | skip
 ·cases hy
  cases hx with
  | dU =>
   refine Dead.sr ?_
   intro v w hs
   simp only [Bind.bind,run_bind',Go.underlying,Go.program,Sem.run]
   cases P.underlying t with
   | none=>exact ⟨_,rfl,rfl⟩
   | some d =>
    simp only [Pure.pure,Sem.run]
    split
    ·simp only [if_true];exact Dead.Jh _ _ v w hs
    ·simp only [Bool.false_eq_true,if_false];exact Dead.yX _ _ v w hs
  | ptr a a' r =>
   refine SR.under fun d _=>?_
   split
   ·exact SR.movedPointer r _ _
   ·exact SR.movedNumber r _ _
 ·cases hx
  cases hy with
  | dU=>exact Dead.sr (Dead.yX _ _)
  | ptr a a' r=>exact SR.movedNumber r _ _
 ·cases hy
  cases hx with
  | dU=>exact Dead.sr (Dead.yX _ _)
  | ptr a a' r=>exact SR.movedNumber r _ _
 ·cases hx with
  | ptr a a' r=>cases hy with
   | ptr b b' rb=>exact SR.um r rb fun L x _=>SR.pure (.int _ _)
 ·cases hx with
  | ptr a a' r=>cases hy with
   | ptr b b' rb=>exact SR.um r rb fun L x _=>SR.pure (.bool _)
 ·cases hx with
  | ptr a a' r=>cases hy with
   | ptr b b' rb=>exact SR.um r rb fun L x _=>SR.pure (.bool _)
 ·cases hx with
  | ptr a a' r=>cases hy with
   | ptr b b' rb=>exact SR.um r rb fun L x _=>SR.pure (.bool _)
 ·cases hx with
  | ptr a a' r=>cases hy with
   | ptr b b' rb=>exact SR.um r rb fun L x _=>SR.pure (.bool _)
 ·cases hx with
  | ptr a a' r=>cases hy with
   | int k n=>exact SR.yV r _
 ·cases hx with
  | ptr a a' r=>cases hy with
   | int k n=>exact SR.yV r _
 ·cases hy with
  | ptr a a' r=>cases hx with
   | int k n=>exact SR.yV r _
end
section
variable {P:Program}{β γ:Type}{Q:av→β→γ→Prop}{K:av}
theorem Jj {α:Type}(s:Sem α):s.bind Sem.pure=s:=by
 induction s with
 | pure a=>rfl
 | load m a k ih=>simp only [Sem.bind,ih]
 | store m a v k ih=>simp only [Sem.bind,ih]
 | new o k ih=>simp only [Sem.bind,ih]
 | shape r k ih=>simp only [Sem.bind,ih]
 | freeze a n k ih=>simp only [Sem.bind,ih]
 | frozen a k ih=>simp only [Sem.bind,ih]
 | getObj r k ih=>simp only [Sem.bind,ih]
 | setObj r o k ih=>simp only [Sem.bind,ih]
 | choose q k ih=>simp only [Sem.bind,ih]
 | sys c k ih=>simp only [Sem.bind,ih]
 | program k ih=>simp only [Sem.bind,ih]
 | mark m k ih=>simp only [Sem.bind,ih]
 | halt h=>rfl
theorem Jk {α β γ:Type}(s:Sem α)(f:α→Sem β)(g:β→Sem γ):(s.bind f).bind g=s.bind fun a=>(f a).bind g:=by
 induction s with
 | pure a=>rfl
 | load m a k ih=>simp only [Sem.bind,ih]
 | store m a v k ih=>simp only [Sem.bind,ih]
 | new o k ih=>simp only [Sem.bind,ih]
 | shape r k ih=>simp only [Sem.bind,ih]
 | freeze a n k ih=>simp only [Sem.bind,ih]
 | frozen a k ih=>simp only [Sem.bind,ih]
 | getObj r k ih=>simp only [Sem.bind,ih]
 | setObj r o k ih=>simp only [Sem.bind,ih]
 | choose q k ih=>simp only [Sem.bind,ih]
 | sys c k ih=>simp only [Sem.bind,ih]
 | program k ih=>simp only [Sem.bind,ih]
 | mark m k ih=>simp only [Sem.bind,ih]
 | halt h=>rfl
theorem Ce:LawfulMonad Sem:=LawfulMonad.mk' Sem (fun s=>Jj s) (fun _ _=>rfl) (fun s f g=>Jk s f g)
theorem SR.Jl {α:Type}{f:α→Sem β}{g:α→Sem γ}{R:av→β→γ→Prop}{Rs:av→List β→List γ→Prop}(hp:∀ L M xs ys x y,L.le M→Rs M xs ys→R L x y→Rs M (x :: xs) (y :: ys))(h0:∀ K,Rs K [] [])(as:List α) :
  ∀ {K:av},(∀ L x,K.le L→x∈as→SR P R L (f x) (g x))→SR P Rs K (as.mapM f) (as.mapM g):=by
 haveI:=Ce
 induction as with
 | nil=>intro K _;rw [List.mapM_nil,List.mapM_nil];exact SR.pure (h0 K)
 | cons a as ih =>
  intro K h
  rw [List.mapM_cons,List.mapM_cons]
  refine SR.bind (h K a (.refl K) ah) fun L x y hL e=>?_
  exact SR.bind (ih fun M z hM hz=>h M z (hL.trans hM) (by simp [hz])) fun M xs ys hM es=>SR.pure (hp L M xs ys x y hM es e)
theorem SR.mapM {α:Type}{f:α→Sem β}{g:α→Sem γ}{R:av→β→γ→Prop}{Rs:av→List β→List γ→Prop}(as:Array α)(hp:∀ L M xs ys x y,L.le M→Rs M xs ys→R L x y→Rs M (x :: xs) (y :: ys))(h0:∀ K,Rs K [] [])(h:∀ L x,K.le L→x∈as→SR P R L (f x) (g x)) :
  SR P (fun L xs ys=>Rs L xs.toList ys.toList) K (as.mapM f) (as.mapM g):=by
 haveI:=Ce
 rw [Array.mapM_eq_mapM_toList,Array.mapM_eq_mapM_toList]
 exact SR.bind' (SR.Jl hp h0 as.toList fun L x hL hx=>h L x hL (by simpa using hx)) fun _ _ _ _ e=>SR.pure' (by simpa using e)
inductive PR (K:av):List (Nat×Value)→List (Nat×Value)→Prop
 | nil:PR K [] []
 | cons (i:Nat) (x y:Value) (xs ys:List (Nat×Value)):VR K x y→PR K xs ys→PR K ((i,x) :: xs) ((i,y) :: ys)
theorem PR.of {ρ ρ':Operand→Value}(parts:List (Nat×Operand))(h:∀ p∈parts,VR K (ρ p.2) (ρ' p.2)):PR K (parts.map fun (i,x)=>(i,ρ x)) (parts.map fun (i,x)=>(i,ρ' x)):=by
 induction parts with
 | nil=>exact .nil
 | cons p ps ih=>exact .cons _ _ _ _ _ (h p ah) (ih fun q hq=>h q (by simp [hq]))
theorem Jm {xs:List Value}:∀ {ys:List Value}{c c':Array Value}(off n:Nat),LR K xs ys→AR K c c' →
  AR K ((xs.zipIdx n).foldl (fun cs (p:Value×Nat)=>cs.setIfInBounds (off+p.2) p.1) c) ((ys.zipIdx n).foldl (fun cs (p:Value×Nat)=>cs.setIfInBounds (off+p.2) p.1) c'):=by
 induction xs with
 | nil=>intro ys c c' off n h r;cases h;exact r
 | cons x xs ih =>
  intro ys c c' off n h r
  cases h with
  | cons _ y _ ys hv hr =>
   simp only [List.zipIdx_cons,List.foldl_cons]
   exact ih off (n+1) hr (r.set _ hv)
theorem yY {place:Nat→Option (Nat×Nat)}{ps:List (Nat×Value)}:∀ {ps':List (Nat×Value)}{c c':Array Value},PR K ps ps'→AR K c c' →
  (Instr.fill place c ps=none∧Instr.fill place c' ps'=none)∨∃ d d',Instr.fill place c ps=some d∧Instr.fill place c' ps'=some d'∧AR K d d':=by
 induction ps with
 | nil=>intro ps' c c' h r;cases h;exact .inr ⟨c,c',rfl,rfl,r⟩
 | cons p ps ih =>
  intro ps' c c' h r
  cases h with
  | cons i x y _ ys hv hr =>
   unfold Instr.fill
   cases hp:place i with
   | none=>exact .inl ⟨rfl,rfl⟩
   | some q =>
    obtain ⟨off,size⟩:=q
    have hc:=hv.cells
    simp only [hc.size,r.size]
    split
    ·exact .inl ⟨rfl,rfl⟩
    ·refine ih hr ?_
     rw [← Array.foldl_toList,← Array.foldl_toList,Array.toList_zipIdx,Array.toList_zipIdx]
     exact Jm off 0 hc.list r
theorem SR.build (F:Fit P){t:TypeId}{ps ps':Array (Nat×Value)}(h:PR K ps.toList ps'.toList):SR P VR K (Instr.build t ps) (Instr.build t ps'):=by
 unfold Instr.build
 refine SR.zeroV F fun z hz=>?_
 have rz:=(hz K).cells
 refine SR.under fun d _=>?_
 split
 ·refine SR.bind (SR.mapM (R:=fun _ a b=>a=b) (Rs:=fun _ a b=>a=b) _ (fun _ _ _ _ _ _ _ e e'=>by rw [e,e']) (fun _=>rfl) fun L x _ _=>SR.size fun n=>SR.pure rfl) fun L a b hL e=>?_
  have e:=Array.toList_inj.1 e
  subst e
  rcases yY (place:=fun i=>a[i]?) h rz with ⟨h1,h2⟩ | ⟨d,d',h1,h2,r⟩
  ·simp only [h1];exact SR.stuck
  ·simp only [h1,h2];exact SR.pure (.agg _ _ (r.mono hL).size (r.mono hL).at_)
 ·refine SR.size fun n=>?_
  rcases yY (place:=fun i=>some (i * n,n)) h rz with ⟨h1,h2⟩ | ⟨d,d',h1,h2,r⟩
  ·simp only [h1];exact SR.stuck
  ·simp only [h1,h2];exact SR.pure (.agg _ _ r.size r.at_)
 ·exact SR.stuck
theorem Jn (K:av):VR K default default:=.bool _
theorem AR.times {z:Array Value}(h:AR K z z)(n:Nat):AR K ((Array.range n).map (z[· % z.size]!)) ((Array.range n).map (z[· % z.size]!)):=by
 refine ⟨rfl,fun i x y hx hy=>?_⟩
 rw [hx] at hy
 cases hy
 simp only [Array.getElem?_map,Option.map_eq_some_iff] at hx
 obtain ⟨j,_,rfl⟩:=hx
 rcases h.get (j % z.size) with ⟨h1,_⟩ | ⟨x,y,h1,h2,r⟩
 ·rw [getElem!_def,h1];exact Jn K
 ·rw [h1] at h2
  cases h2
  rw [getElem!_def,h1];exact r
theorem SR.buildSlice (F:Fit P){t:TypeId}{n:Nat}{ps ps':Array (Nat×Value)}(h:PR K ps.toList ps'.toList):SR P VR K (Instr.buildSlice t n ps) (Instr.buildSlice t n ps'):=by
 unfold Instr.buildSlice
 refine SR.under fun d _=>?_
 dsimp only
 split
 ·refine SR.size fun size=>?_
  split
  ·exact SR.unsupported
  ·rename_i el _ _
   have go:∀ z:Array Value,(∀ L,AR L z z)→SR P VR K
     (match Instr.fill (fun i=>some (i * size,size)) ((Array.range (n * size)).map (z[· % z.size]!)) ps.toList with
      | some cells=>do Pure.pure (.slice (some (← Go.newRow el cells)) n n)
      | _=>Go.stuck "buildSlice: a part of the wrong size")
     (match Instr.fill (fun i=>some (i * size,size)) ((Array.range (n * size)).map (z[· % z.size]!)) ps'.toList with
      | some cells=>do Pure.pure (.slice (some (← Go.newRow el cells)) n n)
      | _=>Go.stuck "buildSlice: a part of the wrong size"):=by
    intro z hz
    rcases yY (place:=fun i=>some (i * size,size)) h ((hz K).times (n * size)) with ⟨h1,h2⟩ | ⟨d,d',h1,h2,r⟩
    ·simp only [h1];exact SR.stuck
    ·simp only [h1,h2];exact SR.bind (SR.newRow r) fun _ _ _ _ e=>SR.pure (.slice _ _ _ _ e.1)
   split
   ·exact go #[] fun L=>.nil L
   ·exact SR.zeroV F fun z hz=>go z.cells fun L=>(hz L).cells
 ·exact SR.stuck
end
section
variable {P:Program}{β γ:Type}{Q:av→β→γ→Prop}{K:av}
theorem SR.alloc (F:Fit P){t:TypeId}:SR P VR K (Instr.alloc t true (.tuple #[])) (Instr.alloc t true (.tuple #[])) :=
 SR.zeroV F fun _ hz=>SR.bind (SR.newVar (hz K)) fun _ _ _ _ e=>SR.pure (.ptr _ _ e.1)
theorem SR.box {t:TypeId}{x y:Value}(h:VR K x y):SR P VR K (Instr.box t x) (Instr.box t y) :=
 SR.bind (SR.newVar h) fun _ _ _ _ e=>SR.pure (.ptr _ _ e.1)
theorem SR.loadAt {t:TypeId}{x y:Value}(h:VR K x y):SR P VR K (Instr.loadAt t x) (Instr.loadAt t y) :=
 SR.bind (SR.sureAddr h) fun _ _ _ _ e=>SR.loadVar e
theorem SR.storeAt {t:TypeId}{x y u v:Value}(h:VR K x y)(k:VR K u v):SR P (fun _ _ _=>True) K (Instr.storeAt t x u) (Instr.storeAt t y v) :=
 SR.bind (SR.sureAddr h) fun _ _ _ hL e=>SR.storeVar e (k.mono hL)
theorem SR.fieldAt {t:TypeId}{f:Nat}{x y:Value}(h:VR K x y):SR P VR K (Instr.fieldAt t x f) (Instr.fieldAt t y f):=by
 unfold Instr.fieldAt
 refine SR.under fun d _=>?_
 split
 ·split
  ·exact SR.bind (SR.sureAddr h) fun _ _ _ _ e=>SR.bind (SR.fieldPlace e _) fun _ _ _ _ e=>SR.pure (.ptr _ _ e)
  ·exact SR.stuck
 ·exact SR.stuck
theorem SR.indexAt {t:TypeId}{x y i j:Value}(h:VR K x y)(k:VR K i j):SR P VR K (Instr.indexAt t x i) (Instr.indexAt t y j):=by
 unfold Instr.indexAt
 refine SR.bind (SR.asIntOf k) fun L p q hL e=>?_
 subst e
 obtain ⟨kd,n⟩:=p
 refine SR.under fun d hd=>?_
 have tail:∀ {M:av} {a a':Option Addr} (len:Nat) (elem:TypeId),VR M (.pointer a) (.pointer a')→SR P VR M
   (do let tiny:=decide (len≤1) && (match ← Go.underlying t with | .array ..=>true | _=>false)
       match a with
       | some a =>
        if 0≤n∧n < len then do Pure.pure (.pointer (some (a.add (n.toNat * (← Go.sizeOf elem)))))
        else if tiny then Go.unsupported (.noEntry "op/indexAddr.an index out of range at an array of length 0 or 1 (ledger 616)")
        else Go.boundsPanic kd n len .index
       | none=>Go.boundsPanic kd n 0 .index)
   (do let tiny:=decide (len≤1) && (match ← Go.underlying t with | .array ..=>true | _=>false)
       match a' with
       | some a =>
        if 0≤n∧n < len then do Pure.pure (.pointer (some (a.add (n.toNat * (← Go.sizeOf elem)))))
        else if tiny then Go.unsupported (.noEntry "op/indexAddr.an index out of range at an array of length 0 or 1 (ledger 616)")
        else Go.boundsPanic kd n len .index
       | none=>Go.boundsPanic kd n 0 .index):=by
  intro M a a' len elem r
  refine SR.under fun d _=>?_
  cases r with
  | dU=>exact SR.boundsPanic
  | ptr a a' r =>
   dsimp only
   generalize (match d with | TypeDesc.array ..=>true | _=>false)=b
   split
   ·exact SR.size fun m=>SR.pure (.ptr _ _ (r.add _))
   ·split
    ·exact SR.unsupported
    ·exact SR.boundsPanic
 dsimp only
 split
 ·exact SR.bind (SR.sureAddr (h.mono hL)) fun _ _ _ _ r=>tail _ _ (.ptr _ _ r)
 ·cases h with
  | bX l c =>
   refine SR.bind (Q:=fun M p q=>VR M (.pointer p.1) (.pointer q.1)∧p.2=q.2) (SR.pure ⟨.dU,rfl⟩) fun M p q _ e=>?_
   obtain ⟨p1,p2⟩:=p
   obtain ⟨q1,q2⟩:=q
   obtain ⟨e1,e2⟩:=e
   simp only at e1 e2
   subst e2
   exact tail _ _ e1
  | void a hv =>
   refine SR.bind (Q:=fun M p q=>(p.1=some a∧p.2.1=0)∧q=p) (SR.pure ⟨⟨rfl,rfl⟩,rfl⟩) fun M p q _ e=>?_
   obtain ⟨p1,p2,p3⟩:=p
   obtain ⟨⟨e1,e2⟩,rfl⟩:=e
   simp only at e1 e2
   subst e1 e2
   refine SR.under fun d _=>?_
   dsimp only
   generalize (match d with | TypeDesc.array ..=>true | _=>false)=b
   split
   ·exfalso
    rename_i hh
    simp at hh
    omega
   ·split
    ·exact SR.unsupported
    ·exact SR.boundsPanic
  | slice a a' l c r =>
   refine SR.bind (Q:=fun M p q=>VR M (.pointer p.1) (.pointer q.1)∧p.2=q.2) (SR.pure ⟨.ptr _ _ (r.mono hL),rfl⟩) fun M p q _ e=>?_
   obtain ⟨p1,p2⟩:=p
   obtain ⟨q1,q2⟩:=q
   obtain ⟨e1,e2⟩:=e
   simp only at e1 e2
   subst e2
   exact tail _ _ e1
 ·exact SR.stuck
theorem SR.sliceBound {x y:Value}(h:VR K x y){n:Nat}{c:BoundsCode}:SR P (fun _ a b=>a=b) K (Instr.sliceBound x n c) (Instr.sliceBound y n c):=by
 unfold Instr.sliceBound
 refine SR.bind (SR.asIntOf h) fun L p q hL e=>?_
 subst e
 dsimp only
 split
 ·exact SR.pure rfl
 ·exact SR.boundsPanic
inductive OR (K:av):Option Value→Option Value→Prop
 | none:OR K none none
 | some (x y:Value):VR K x y→OR K (some x) (some y)
theorem OR.mono {L:av}(h:K.le L){x y:Option Value}(r:OR K x y):OR L x y:=by
 cases r with
 | none=>exact .none
 | some x y r=>exact .some x y (r.mono h)
theorem SR.sliceBounds {is:Bool}{l c:Nat}{a a' b b' m m':Option Value}(ha:OR K a a')(hb:OR K b b')(hm:OR K m m'):SR P (fun _ x y=>x=y) K (Instr.sliceBounds is l c a b m) (Instr.sliceBounds is l c a' b' m'):=by
 have low:∀ {L:av} (h x:Nat),K.le L→∀ s:Bool,SR P (fun _ x y=>x=y) L
   (do let l ← match a with
        | some v=>Instr.sliceBound v h (if s then .slice3C else .sliceB)
        | none=>Pure.pure 0
       Pure.pure (l,h,x)) (do let l ← match a' with
                               | some v=>Instr.sliceBound v h (if s then .slice3C else .sliceB)
                               | none=>Pure.pure 0
                              Pure.pure (l,h,x)):=by
  intro L h x hL s
  cases ha with
  | none=>exact SR.pure rfl
  | some p q r=>exact SR.bind (SR.sliceBound (r.mono hL)) fun _ _ _ _ e=>SR.pure (by rw [e])
 unfold Instr.sliceBounds
 cases hm with
 | none =>
  cases hb with
  | none=>exact low _ _ (.refl K) false
  | some p q r =>
   refine SR.bind (Q:=fun _ a b=>a=b) (SR.pure rfl) fun L0 x y hL0 e=>?_
   subst e
   exact SR.bind (SR.sliceBound (r.mono hL0)) fun L x y hL e=>by subst e;exact low _ _ (hL0.trans hL) false
 | some p q r =>
  refine SR.bind (SR.sliceBound r) fun L x y hL e=>?_
  subst e
  cases hb with
  | none=>exact SR.stuck
  | some p' q' r'=>exact SR.bind (SR.sliceBound (r'.mono hL)) fun M x y hM e=>by subst e;exact low _ _ (hL.trans hM) true
theorem SR.slice (hV:K.good iE){t:TypeId}{x y:Value}{a a' b b' m m':Option Value}(h:VR K x y)(ha:OR K a a')(hb:OR K b b')(hm:OR K m m'):SR P VR K (Instr.slice t x a b m) (Instr.slice t y a' b' m'):=by
 unfold Instr.slice
 refine SR.under fun d _=>?_
 split
 ·cases h
  have e:m.isSome=m'.isSome:=by cases hm <;> rfl
  dsimp only
  rw [e]
  split
  ·exact SR.stuck
  ·exact SR.bind (SR.sliceBounds ha hb .none) fun L p q _ e=>by subst e;exact SR.pure (.string _)
 ·cases h with
  | bX l c =>
   refine SR.bind (SR.sliceBounds ha hb hm) fun L p q hL e=>?_
   subst e
   refine SR.size fun n=>SR.pure ?_
   split <;> exact .bX _ _
  | void p hv=>exact absurd hV hv
  | slice p p' l c r =>
   refine SR.bind (SR.sliceBounds ha hb hm) fun L p q hL e=>?_
   subst e
   refine SR.size fun n=>SR.pure ?_
   split
   ·exact .slice _ _ _ _ (r.mono hL)
   ·exact .slice _ _ _ _ ((r.mono hL).add _)
 ·refine SR.bind (SR.asAddr h) fun L p q hL r=>?_
  refine SR.under fun d' _=>?_
  split
  ·refine SR.bind (SR.sliceBounds (ha.mono hL) (hb.mono hL) (hm.mono hL)) fun M p q hM e=>?_
   subst e
   refine SR.size fun n=>SR.pure ?_
   split
   ·exact .slice _ _ _ _ (r.mono hM)
   ·exact .slice _ _ _ _ ((r.mono hM).add _)
  ·exact SR.stuck
 ·exact SR.stuck
theorem SR.sliceAt (hV:K.good iE){t:TypeId}{x y:Value}{a a' b b' m m':Option Value}(h:VR K x y)(ha:OR K a a')(hb:OR K b b')(hm:OR K m m'):SR P VR K (Instr.sliceAt t x a b m) (Instr.sliceAt t y a' b' m'):=by
 unfold Instr.sliceAt
 refine SR.under fun d _=>?_
 split
 ·refine SR.bind (SR.sureAddr h) fun L p q hL r=>?_
  refine SR.bind (SR.sliceBounds (ha.mono hL) (hb.mono hL) (hm.mono hL)) fun M p q hM e=>?_
  subst e
  refine SR.size fun n=>SR.pure ?_
  split
  ·exact .slice _ _ _ _ (r.mono hM)
  ·exact .slice _ _ _ _ ((r.mono hM).add _)
 ·exact SR.slice hV h ha hb hm
theorem SR.lq {α:Type}{e:RuntimeError}(h:calm e=true){f:α→Sem β}{g:α→Sem γ}:SR P Q K (Go.runtimePanic e >>= f) (Go.runtimePanic e >>= g) :=
 SR.bind (Q:=fun _ _ _=>False) (SR.runtimePanic h) fun _ _ _ _ z=>z.elim
theorem SR.askRoom {n:Nat}:SR P (fun _ _ _=>True) K (Go.askRoom n) (Go.askRoom n):=by
 unfold Go.askRoom
 split
 ·exact SR.Jd
 ·exact SR.pure trivial
theorem SR.makeSlice (F:Fit P){t:TypeId}{x y u v:Value}(h:VR K x y)(k:VR K u v):SR P VR K (Instr.makeSlice t x u) (Instr.makeSlice t y v):=by
 unfold Instr.makeSlice
 refine SR.under fun d _=>?_
 split
 ·refine SR.bind (SR.asInt h) fun L p q hL e=>?_
  subst e
  refine SR.bind (SR.asInt (k.mono hL)) fun M p' q' hM e=>?_
  subst e
  refine SR.info fun i _=>?_
  dsimp only
  split
  ·split
   ·exact SR.lq rfl
   ·split
    ·exact SR.lq rfl
    ·exact SR.bind (SR.choose _) fun _ _ _ _ e=>by subst e;exact SR.lq rfl
  ·refine SR.bind SR.askRoom fun N _ _ hN _=>?_
   refine SR.size fun size=>?_
   split
   ·refine SR.bind (Q:=fun _ a b=>a=#[]∧b=#[]) (SR.pure ⟨rfl,rfl⟩) fun O a b _ e=>?_
    obtain ⟨rfl,rfl⟩:=e
    exact SR.bind (SR.newRow ((AR.nil O).times _)) fun _ _ _ _ e=>SR.pure (VR.slice _ _ _ _ e.1)
   ·refine SR.zeroV F fun z hz=>?_
    refine SR.bind (Q:=fun _ a b=>a=z.cells∧b=z.cells) (SR.pure ⟨rfl,rfl⟩) fun O a b _ e=>?_
    obtain ⟨rfl,rfl⟩:=e
    exact SR.bind (SR.newRow ((hz O).cells.times _)) fun _ _ _ _ e=>SR.pure (VR.slice _ _ _ _ e.1)
 ·exact SR.stuck
theorem SR.makeInterface {t:TypeId}{x y:Value}(h:VR K x y):SR P VR K (Instr.makeInterface t x) (Instr.makeInterface t y):=by
 unfold Instr.makeInterface
 refine SR.under fun d _=>?_
 split
 ·exact SR.stuck
 ·exact SR.pure (.iface _ _ _ h)
theorem SR.extract {x y:Value}(h:VR K x y)(i:Nat):SR P VR K (Instr.extract x i) (Instr.extract y i):=by
 cases h with
 | tuple xs ys h1 h2 =>
  unfold Instr.extract
  rcases (AR.mk h1 h2).get i with ⟨e1,e2⟩ | ⟨x,y,e1,e2,r⟩
  ·simp only [e1];exact SR.stuck
  ·simp only [e1,e2];exact SR.pure r
 | _=>exact SR.stuck
theorem SR.unary {op:UnOp}{x y:Value}(h:VR K x y):SR P VR K (Op.unary op x) (Op.unary op y):=by
 cases h <;> cases op <;> first | exact SR.stuck | exact SR.unsupported | exact SR.pure (.bool _) | exact SR.pure (.float _ _) | exact SR.intArith (op:=.sub) | exact SR.intBits (op:=.xor)
end
section
variable {P:Program}{β γ:Type}{Q:av→β→γ→Prop}{K:av}
theorem SR.lenOf {x y:Value}(h:VR K x y):SR P (fun _ a b=>a=b) K (Builtin.lenOf x) (Builtin.lenOf y):=by
 cases h <;> first | exact SR.stuck | exact SR.pure rfl
theorem SR.firstCells (hV:K.good iE){x y:Value}(h:VR K x y)(size n:Nat):SR P AR K (Builtin.firstCells size n x) (Builtin.firstCells size n y):=by
 cases h with
 | slice a a' l c r=>exact SR.loadCells _ r
 | bX l c=>exact SR.pure (.nil K)
 | void a hv=>exact absurd hV hv
 | string s =>
  refine SR.pure ⟨rfl,fun i x y hx hy=>?_⟩
  rw [hx] at hy
  cases hy
  simp only [Array.getElem?_map,Option.map_eq_some_iff] at hx
  obtain ⟨b,_,rfl⟩:=hx
  exact .int _ _
 | _=>exact SR.stuck
theorem AR.zeros {z:Array Value}(h:AR K z z)(n:Nat):AR K (Builtin.zeroCells z n) (Builtin.zeroCells z n):=h.times _
theorem SR.uo {α α':Type}{a:α}{b:α'}{f:α→Sem β}{g:α'→Sem γ}(h:SR P Q K (f a) (g b)):SR P Q K (Pure.pure a >>= f) (Pure.pure b >>= g):=h
theorem Cf {a:Addr}{n:Nat}(v:World):∃ b,(Builtin.holdsCells a n).run P v=.ok b v:=by
 unfold Builtin.holdsCells
 simp only [Bind.bind,run_bind',Go.shape,Sem.run]
 cases v.shape? a.block with
 | none=>exact ⟨_,rfl⟩
 | some p=>exact ⟨_,rfl⟩
theorem Dead.mayShare {size l n:Nat}{b:Option Addr}{x:Value}{f:Bool→Sem β}(h:∀ r,Dead P K (f r)):Dead P K (Builtin.mayShare size l n b x >>= f):=by
 intro v w hs
 have:∃ r,(Builtin.mayShare size l n b x).run P v=.ok r v:=by
  unfold Builtin.mayShare
  have two:∀ c:Bool,∃ r,((if (!c)=true then Pure.pure true else match x with
    | .slice (some d) _ _=>do Pure.pure (!(← Builtin.holdsCells d (n * size)) || b.any (·.block == d.block))
    | _=>Pure.pure false:Sem Bool)).run P v=.ok r v:=by
   intro c
   cases c with
   | false=>exact ⟨true,rfl⟩
   | true =>
    simp only [Bool.not_true,Bool.false_eq_true,if_false]
    split
    ·rename_i d _ _
     obtain ⟨z,hz⟩:=Cf (P:=P) (a:=d) (n:=n * size) v
     exact ⟨_,by simp only [Bind.bind,run_bind',hz];rfl⟩
    ·exact ⟨_,rfl⟩
  cases b with
  | none=>exact two true
  | some a =>
   obtain ⟨z,hz⟩:=Cf (P:=P) (a:=a) (n:=l * size) v
   obtain ⟨r,hr⟩:=two (z && !v.frozen? (a.add (l / 2 * size)))
   refine ⟨r,?_⟩
   rw [← hr]
   simp only [Bind.bind,run_bind',hz,Go.frozen,Sem.run]
   rfl
 obtain ⟨r,hr⟩:=this
 obtain ⟨q,h1,h2⟩:=h r v w hs
 refine ⟨q,?_,h2⟩
 show ((Builtin.mayShare size l n b x).bind f).run P v=_
 rw [run_bind',hr]
 exact h1
theorem SR.ite {c:Prop}{hc:Decidable c}{s s':Sem β}{t t':Sem γ}(h1:c→SR P Q K s t)(h2:¬ c→SR P Q K s' t'):SR P Q K (if c then s else s') (if c then t else t'):=by
 split
 ·exact h1 ‹_›
 ·exact h2 ‹_›
theorem Dead.yZ {α:Type}{s:Sem α}{f:α→Sem β}(h:Dead P K s):Dead P K (s >>= f):=by
 intro v w hs
 obtain ⟨q,h1,h2⟩:=h v w hs
 refine ⟨q,?_,h2⟩
 show (s.bind f).run P v=_
 rw [run_bind',h1]
theorem SR.append (F:Fit P)(hV:K.good iE){ts:Array TypeId}{t:TypeId}{xs ys:Array Value}(h:AR K xs ys):SR P VR K (Builtin.append_ ts t xs) (Builtin.append_ ts t ys):=by
 unfold Builtin.append_
 rcases h.get 0 with ⟨e1,e2⟩ | ⟨s,s',e1,e2,rs⟩
 ·rw [e1];cases ts[0]? <;> exact SR.stuck
 rcases h.get 1 with ⟨e3,e4⟩ | ⟨x,x',e3,e4,rx⟩
 ·rw [e1,e3];cases ts[0]? <;> exact SR.stuck
 rw [e1,e2,e3,e4]
 cases ts[0]? with
 | none=>exact SR.stuck
 | some sT =>
 refine SR.under fun d _=>?_
 cases d with
 | slice elem =>
  have hrs:(∃ b b' l c,s=.slice b l c∧s'=.slice b' l c)∨∀ b l c,s≠.slice b l c:=by
   cases rs <;> first | exact .inl ⟨_,_,_,_,rfl,rfl⟩ | exact .inr fun _ _ _ z=>by cases z
  rcases hrs with ⟨b,b',l,c,rfl,rfl⟩ | hn
  ·refine SR.size fun size=>?_
   have hnew:∀ {M:av} (z:Bool) (n:Nat),M.good iE→VR M x x'→SR P AR M
     (if (!z)=true then Builtin.firstCells size n x else if n * size=0 then Pure.pure #[] else do Pure.pure (Builtin.zeroCells (← Go.zeroValue elem).cells n))
     (if (!z)=true then Builtin.firstCells size n x' else if n * size=0 then Pure.pure #[] else do Pure.pure (Builtin.zeroCells (← Go.zeroValue elem).cells n)):=by
    intro M z n Jo r
    split
    ·exact SR.firstCells Jo r _ _
    ·split
     ·exact SR.pure (.nil M)
     ·exact SR.zeroV F fun z hz=>SR.pure ((hz M).cells.zeros _)
   cases ts[1]? with
   | none =>
    refine SR.uo ?_
    refine SR.bind (SR.lenOf rx) fun L n n' hL e=>?_
    subst e
    replace rx:=rx.mono hL
    replace rs:=rs.mono hL
    replace hV:=(hL.good _).1 hV
    dsimp only
    split
    ·refine SR.bind (hnew _ _ hV rx) fun M p q hM rn=>?_
     replace rs:=rs.mono hM
     replace hV:=(hM.good _).1 hV
     cases rs with
     | bX=>exact SR.pure (.bX _ _)
     | void a hv=>exact absurd hV hv
     | slice a a' _ _ r=>exact SR.bind (SR.storeCells 0 (r.add _) rn.list) fun N _ _ hN _=>SR.pure (.slice _ _ _ _ (r.mono hN))
    ·refine SR.info fun i _=>?_
     split
     ·exact SR.lq rfl
     ·refine SR.info fun _ _=>?_
      split
      ·first
        | (simp only [if_true];exact SR.lq rfl)
        | (simp only [Bool.false_eq_true,if_false];exact Dead.sr (Dead.yZ (Dead.mayShare fun r=>by cases r <;> exact fun _ _ _=>⟨_,rfl,rfl⟩)))
      ·refine SR.bind (SR.choose _) fun M1 nc Cg h1 e=>?_
       subst e
       refine SR.info fun _ _=>?_
       refine SR.bind SR.askRoom fun M2 _ _ h2 _=>?_
       refine SR.bind (SR.firstCells ((h2.good _).1 ((h1.good _).1 hV)) ((rs.mono h1).mono h2) _ _) fun M3 o o' h3 ro=>?_
       refine SR.bind (hnew _ _ ((h3.good _).1 ((h2.good _).1 ((h1.good _).1 hV))) (((rx.mono h1).mono h2).mono h3)) fun M4 p q h4 rn=>?_
       refine SR.zeroV F fun z hz=>?_
       exact SR.bind (SR.newRow (((ro.mono h4).append rn).append ((hz M4).cells.zeros _))) fun _ _ _ _ e=>SR.pure (VR.slice _ _ _ _ e.1)
   | some xT =>
    refine SR.under fun d _=>?_
    refine SR.bind (Q:=fun _ a b=>a=b) (SR.pure rfl) fun Lz zs zs' hz e=>?_
    subst e
    replace rx:=rx.mono hz
    replace rs:=rs.mono hz
    replace hV:=(hz.good _).1 hV
    cases zs with
    | false =>
     refine SR.bind (SR.lenOf rx) fun L n n' hL e=>?_
     subst e
     replace rx:=rx.mono hL
     replace rs:=rs.mono hL
     replace hV:=(hL.good _).1 hV
     dsimp only
     split
     ·refine SR.bind (hnew _ _ hV rx) fun M p q hM rn=>?_
      replace rs:=rs.mono hM
      replace hV:=(hM.good _).1 hV
      cases rs with
      | bX=>exact SR.pure (.bX _ _)
      | void a hv=>exact absurd hV hv
      | slice a a' _ _ r=>exact SR.bind (SR.storeCells 0 (r.add _) rn.list) fun N _ _ hN _=>SR.pure (.slice _ _ _ _ (r.mono hN))
     ·refine SR.info fun i _=>?_
      split
      ·exact SR.lq rfl
      ·refine SR.info fun _ _=>?_
       split
       ·first
         | (simp only [if_true];exact SR.lq rfl)
         | (simp only [Bool.false_eq_true,if_false];exact Dead.sr (Dead.yZ (Dead.mayShare fun r=>by cases r <;> exact fun _ _ _=>⟨_,rfl,rfl⟩)))
       ·refine SR.bind (SR.choose _) fun M1 nc Cg h1 e=>?_
        subst e
        refine SR.info fun _ _=>?_
        refine SR.bind SR.askRoom fun M2 _ _ h2 _=>?_
        refine SR.bind (SR.firstCells ((h2.good _).1 ((h1.good _).1 hV)) ((rs.mono h1).mono h2) _ _) fun M3 o o' h3 ro=>?_
        refine SR.bind (hnew _ _ ((h3.good _).1 ((h2.good _).1 ((h1.good _).1 hV))) (((rx.mono h1).mono h2).mono h3)) fun M4 p q h4 rn=>?_
        refine SR.zeroV F fun z hz=>?_
        exact SR.bind (SR.newRow (((ro.mono h4).append rn).append ((hz M4).cells.zeros _))) fun _ _ _ _ e=>SR.pure (VR.slice _ _ _ _ e.1)
    | true =>
     refine SR.bind (SR.asInt rx) fun L0 n0 Xw hL0 e=>?_
     subst e
     replace rx:=rx.mono hL0
     replace rs:=rs.mono hL0
     replace hV:=(hL0.good _).1 hV
     refine SR.ite (fun _=>?_) fun _=>?_
     ·exact SR.lq rfl
     ·refine SR.info fun _ _=>?_
      refine SR.ite (fun _=>?_) fun _=>?_
      ·exact SR.bind (SR.choose _) fun _ _ _ _ e=>by subst e;exact SR.lq rfl
      ·refine SR.uo ?_
       dsimp only
       split
       ·refine SR.bind (hnew _ _ hV rx) fun M p q hM rn=>?_
        replace rs:=rs.mono hM
        replace hV:=(hM.good _).1 hV
        cases rs with
        | bX=>exact SR.pure (.bX _ _)
        | void a hv=>exact absurd hV hv
        | slice a a' _ _ r=>exact SR.bind (SR.storeCells 0 (r.add _) rn.list) fun N _ _ hN _=>SR.pure (.slice _ _ _ _ (r.mono hN))
       ·refine SR.info fun i _=>?_
        split
        ·exact SR.lq rfl
        ·refine SR.info fun _ _=>?_
         split
         ·first
           | (simp only [if_true];exact SR.lq rfl)
           | (simp only [Bool.false_eq_true,if_false];exact Dead.sr (Dead.yZ (Dead.mayShare fun r=>by cases r <;> exact fun _ _ _=>⟨_,rfl,rfl⟩)))
         ·refine SR.bind (SR.choose _) fun M1 nc Cg h1 e=>?_
          subst e
          refine SR.info fun _ _=>?_
          refine SR.bind SR.askRoom fun M2 _ _ h2 _=>?_
          refine SR.bind (SR.firstCells ((h2.good _).1 ((h1.good _).1 hV)) ((rs.mono h1).mono h2) _ _) fun M3 o o' h3 ro=>?_
          refine SR.bind (hnew _ _ ((h3.good _).1 ((h2.good _).1 ((h1.good _).1 hV))) (((rx.mono h1).mono h2).mono h3)) fun M4 p q h4 rn=>?_
          refine SR.zeroV F fun z hz=>?_
          exact SR.bind (SR.newRow (((ro.mono h4).append rn).append ((hz M4).cells.zeros _))) fun _ _ _ _ e=>SR.pure (VR.slice _ _ _ _ e.1)
  ·cases s <;> first | exact SR.stuck | exact absurd rfl (hn _ _ _)
 | _=>exact SR.stuck
theorem SR.copy (hV:K.good iE){ts:Array TypeId}{t:TypeId}{xs ys:Array Value}(h:AR K xs ys):SR P VR K (Builtin.copy_ ts t xs) (Builtin.copy_ ts t ys):=by
 unfold Builtin.copy_
 rcases h.get 0 with ⟨e1,e2⟩ | ⟨s,s',e1,e2,rs⟩
 ·rw [e1];cases ts[0]? <;> exact SR.stuck
 rcases h.get 1 with ⟨e3,e4⟩ | ⟨x,x',e3,e4,rx⟩
 ·rw [e1,e3];cases ts[0]? <;> exact SR.stuck
 rw [e1,e2,e3,e4]
 cases ts[0]? with
 | none=>exact SR.stuck
 | some sT =>
 refine SR.under fun d _=>?_
 cases d with
 | slice elem =>
  have hrs:(∃ b b' l c,s=.slice b l c∧s'=.slice b' l c)∨∀ b l c,s≠.slice b l c:=by
   cases rs <;> first | exact .inl ⟨_,_,_,_,rfl,rfl⟩ | exact .inr fun _ _ _ z=>by cases z
  rcases hrs with ⟨b,b',l,c,rfl,rfl⟩ | hn
  ·refine SR.bind (SR.lenOf rx) fun L n n' hL e=>?_
   subst e
   refine SR.size fun size=>?_
   refine SR.bind (SR.firstCells ((hL.good _).1 hV) (rx.mono hL) _ _) fun M p q hM rn=>?_
   replace rs:=(rs.mono hL).mono hM
   replace hV:=(hM.good _).1 ((hL.good _).1 hV)
   cases rs with
   | bX=>exact SR.pure (.int _ _)
   | void a hv=>exact absurd hV hv
   | slice a a' _ _ r=>exact SR.bind (SR.storeCells 0 r rn.list) fun N _ _ hN _=>SR.pure (.int _ _)
  ·cases s <;> first | exact SR.stuck | exact absurd rfl (hn _ _ _)
 | _=>exact SR.stuck
theorem SR.len {ts:Array TypeId}{t:TypeId}{xs ys:Array Value}(h:AR K xs ys):SR P VR K (Builtin.len_ ts t xs) (Builtin.len_ ts t ys):=by
 unfold Builtin.len_
 rcases h.get 0 with ⟨e1,e2⟩ | ⟨s,s',e1,e2,rs⟩
 ·rw [e1];cases ts[0]? <;> exact SR.stuck
 rw [e1,e2]
 cases ts[0]? with
 | none=>exact SR.stuck
 | some sT =>
 refine SR.under fun d _=>?_
 split
 ·cases rs;exact SR.pure (.int _ _)
 ·exact SR.pure (.int _ _)
 ·exact SR.under fun d' _=>by split <;> first | exact SR.stuck | exact SR.pure (.int _ _)
 ·cases rs <;> exact SR.pure (.int _ _)
 ·cases rs;exact SR.pure (.int _ _)
 ·cases rs;exact SR.pure (.int _ _)
 ·cases rs with
  | map r r' b=>exact SR.getObj b (fun _ _ _ _ _=>SR.stuck) fun _ v=>⟨_,_,rfl,rfl⟩
 ·cases rs with
  | chan r r' b=>exact SR.getObj b (fun _ _ _ _ _=>SR.stuck) fun _ v=>⟨_,_,rfl,rfl⟩
 ·exact SR.stuck
theorem SR.cap {ts:Array TypeId}{t:TypeId}{xs ys:Array Value}(h:AR K xs ys):SR P VR K (Builtin.cap_ ts t xs) (Builtin.cap_ ts t ys):=by
 unfold Builtin.cap_
 rcases h.get 0 with ⟨e1,e2⟩ | ⟨s,s',e1,e2,rs⟩
 ·rw [e1];cases ts[0]? <;> exact SR.stuck
 rw [e1,e2]
 cases ts[0]? with
 | none=>exact SR.stuck
 | some sT =>
 refine SR.under fun d _=>?_
 split
 ·exact SR.pure (.int _ _)
 ·exact SR.under fun d' _=>by split <;> first | exact SR.stuck | exact SR.pure (.int _ _)
 ·cases rs <;> exact SR.pure (.int _ _)
 ·cases rs;exact SR.pure (.int _ _)
 ·cases rs with
  | chan r r' b=>exact SR.getObj b (fun _ _ _ _ _=>SR.stuck) fun _ v=>⟨_,_,rfl,rfl⟩
 ·exact SR.stuck
theorem SR.clear (F:Fit P){ts:Array TypeId}{t:TypeId}{xs ys:Array Value}(h:AR K xs ys):SR P VR K (Builtin.clear_ ts t xs) (Builtin.clear_ ts t ys):=by
 unfold Builtin.clear_
 rcases h.get 0 with ⟨e1,e2⟩ | ⟨s,s',e1,e2,rs⟩
 ·rw [e1];cases ts[0]? <;> exact SR.stuck
 rw [e1,e2]
 cases ts[0]? with
 | none=>exact SR.stuck
 | some sT =>
 refine SR.under fun d _=>?_
 cases rs with
 | kg=>cases d <;> exact SR.pure (.tuple _ _ rfl fun i x y hx=>by simp at hx)
 | map r r' b=>cases d <;> exact SR.getObj b (fun _ _ _ _ _=>SR.stuck) fun _ v=>⟨_,_,rfl,rfl⟩
 | bX l c=>cases d <;> exact SR.pure (.tuple _ _ rfl fun i x y hx=>by simp at hx)
 | void a hv=>cases d <;> exact SR.pure (.tuple _ _ rfl fun i x y hx=>by simp at hx)
 | slice a a' l c r =>
  cases l with
  | zero=>cases d <;> exact SR.pure (.tuple _ _ rfl fun i x y hx=>by simp at hx)
  | succ l =>
   cases d with
   | slice elem=>exact SR.zeroV F fun z hz=>SR.bind (SR.storeCells 0 r ((hz K).cells.zeros _).list) fun _ _ _ _ _=>SR.pure (.tuple _ _ rfl fun i x y hx=>by simp at hx)
   | _=>exact SR.stuck
 | _=>cases d <;> exact SR.stuck
theorem SR.min2 {x x' y y':Value}(h:VR K x x')(k:VR K y y'):SR P VR K (Builtin.min2 x y) (Builtin.min2 x' y'):=by
 unfold Builtin.min2
 split
 ·cases h;cases k;exact SR.pure (.int _ _)
 ·cases h;cases k
  dsimp only
  split <;> first | exact SR.pure (.float _ _) | exact SR.bind (SR.choose _) fun _ _ _ _ e=>by subst e;exact SR.pure (.float _ _)
 ·cases h;cases k
  exact SR.bind SR.stringOp fun _ _ _ _ e=>SR.bind (SR.asBool e) fun _ _ _ _ e=>by subst e;exact SR.pure (.string _)
 ·exact SR.unsupported
 ·exact SR.unsupported
 ·exact SR.stuck
theorem SR.min {ts:Array TypeId}{t:TypeId}{xs ys:Array Value}(h:AR K xs ys):SR P VR K (Builtin.min_ ts t xs) (Builtin.min_ ts t ys):=by
 unfold Builtin.min_
 have hl:=h.list
 have go:∀ (l:List Value) {l':List Value} {M:av} {x x':Value},LR M l l'→VR M x x'→SR P VR M (l.foldlM Builtin.min2 x) (l'.foldlM Builtin.min2 x'):=by
  intro l
  induction l with
  | nil=>intro l' M x x' r h;cases r;exact SR.pure h
  | cons y l ih =>
   intro l' M x x' r h
   cases r with
   | cons _ y' _ l' hv hr=>exact SR.bind (SR.min2 h hv) fun L _ _ hL e=>ih (hr.mono hL) e
 cases hx:xs.toList with
 | nil=>rw [hx] at hl;cases hy:ys.toList with
  | nil=>exact SR.stuck
  | cons y l=>exact SR.stuck
 | cons x l =>
  rw [hx] at hl
  cases hy:ys.toList with
  | nil=>rw [hy] at hl;cases hl
  | cons y l' =>
   rw [hy] at hl
   cases hl with
   | cons _ _ _ _ hv hr=>exact go l hr hv
theorem SR.max2 {x x' y y':Value}(h:VR K x x')(k:VR K y y'):SR P VR K (Builtin.max2 x y) (Builtin.max2 x' y'):=by
 unfold Builtin.max2
 split
 ·cases h;cases k;exact SR.pure (.int _ _)
 ·cases h;cases k
  dsimp only
  split <;> first | exact SR.pure (.float _ _) | exact SR.bind (SR.choose _) fun _ _ _ _ e=>by subst e;exact SR.pure (.float _ _)
 ·cases h;cases k
  exact SR.bind SR.stringOp fun _ _ _ _ e=>SR.bind (SR.asBool e) fun _ _ _ _ e=>by subst e;exact SR.pure (.string _)
 ·exact SR.unsupported
 ·exact SR.unsupported
 ·exact SR.stuck
theorem SR.max {ts:Array TypeId}{t:TypeId}{xs ys:Array Value}(h:AR K xs ys):SR P VR K (Builtin.max_ ts t xs) (Builtin.max_ ts t ys):=by
 unfold Builtin.max_
 have hl:=h.list
 have go:∀ (l:List Value) {l':List Value} {M:av} {x x':Value},LR M l l'→VR M x x'→SR P VR M (l.foldlM Builtin.max2 x) (l'.foldlM Builtin.max2 x'):=by
  intro l
  induction l with
  | nil=>intro l' M x x' r h;cases r;exact SR.pure h
  | cons y l ih =>
   intro l' M x x' r h
   cases r with
   | cons _ y' _ l' hv hr=>exact SR.bind (SR.max2 h hv) fun L _ _ hL e=>ih (hr.mono hL) e
 cases hx:xs.toList with
 | nil=>rw [hx] at hl;cases hy:ys.toList with
  | nil=>exact SR.stuck
  | cons y l=>exact SR.stuck
 | cons x l =>
  rw [hx] at hl
  cases hy:ys.toList with
  | nil=>rw [hy] at hl;cases hl
  | cons y l' =>
   rw [hy] at hl
   cases hl with
   | cons _ _ _ _ hv hr=>exact go l hr hv
end
section
variable {P:Program}{β γ:Type}{Q:av→β→γ→Prop}{K:av}
theorem SR.panicNil:SR P Q K (Go.runtimePanic .panicNil) (Go.runtimePanic .panicNil):=by
 refine SR.iF ?_
 unfold Go.elemOf
 refine SR.assoc (SR.under fun d _=>?_)
 split
 ·refine SR.uo ?_
  exact SR.bind (SR.newVar (VR.agg #[] #[] rfl fun i x y hx=>by simp at hx)) fun _ _ _ _ e=>SR.goPanic (.iface _ _ _ (.ptr _ _ e.1))
 ·exact SR.stuck
theorem SR.panic {x y:Value}(h:VR K x y):SR P VR K (Instr.panic x) (Instr.panic y):=by
 cases h with
 | iface t x y h=>exact SR.goPanic (.iface _ _ _ h)
 | nilIface =>
  unfold Instr.panic Instr.panicnil
  refine SR.assoc (SR.bind SR.env fun L a b _ e=>?_)
  obtain ⟨rfl,l,rfl⟩:=e
  refine SR.assoc (SR.iF ?_)
  refine SR.uo ?_
  split
  ·exact SR.goPanic .nilIface
  ·exact SR.panicNil
 | _=>exact SR.stuck
def wM:Builtin→Bool
 | .append | .cap | .clear | .close | .copy | .len | .min | .max | .panic | .recover=>true
 | _=>false
def wN:Builtin→Bool
 | .append | .copy=>false
 | _=>true
inductive TR (K:av):Target→Target→Prop
 | fn (f:FuncId) (xs ys:Array Value):K.good f→AR K xs ys→TR K (.fn (.func f) xs) (.fn (.func f) ys)
 | fE (n:String) (xs ys:Array Value):K.good (mc n)→AR K xs ys→TR K (.fn (.method n) xs) (.fn (.method n) ys)
 | nil:TR K .nil .nil
 | builtin (b:Builtin) (ts:Array TypeId) (t:TypeId) (cs:Array Bool):wM b=true∧(wN b=true∨K.good iE)→TR K (.builtin b ts t cs) (.builtin b ts t cs)
structure DR (K:av)(d d':Deferred):Prop where
 target:TR K d.target d'.target
 args:AR K d.args d'.args
theorem TR.mono {L:av}(h:K.le L){d d':Target}(r:TR K d d'):TR L d d':=by
 cases r with
 | fn f xs ys hf r=>exact .fn f xs ys ((h.good _).1 hf) (r.mono h)
 | fE n xs ys hf r=>exact .fE n xs ys ((h.good _).1 hf) (r.mono h)
 | nil=>exact .nil
 | builtin b ts t cs hb=>exact .builtin b ts t cs ⟨hb.1,hb.2.imp id (h.good _).1⟩
theorem DR.mono {L:av}(h:K.le L){d d':Deferred}(r:DR K d d'):DR L d d':=⟨r.target.mono h,r.args.mono h⟩
inductive NR (P:Program)(K:av):Next→Next→Prop
 | value (x y:Value):VR K x y→NR P K (.value x) (.value y)
 | skip:NR P K .skip .skip
 | enter (f:FuncId) (xs ys:Array Value):K.good f→(∃ fn,P.funcs[f]?=some fn)→AR K xs ys→NR P K (.enter f xs) (.enter f ys)
 | defer (d d':Deferred):DR K d d'→NR P K (.defer d) (.defer d')
 | recover:NR P K .recover .recover
 | comm (cs ds:Array CommCase) (s:CommShape):(∀ c∈cs,∃ y,VR K c.chan y)→NR P K (.comm cs true s) (.comm ds true s)
def wO (P:Program)(G:FuncId→Prop)(n:String):Prop:=∀ (t:TypeId)(i:TypeInfo)(m:Method),P.info? t=some i→i.methods.find? (·.name == n)=some m →
 m.path=#[]∧∃ f pr,m.func=some (f,pr)∧G f∧(pr=true∨∀ e,P.underlying t≠some (.pointer e))
structure FitX (P:Program)(G:FuncId→Prop):Prop extends Fit P where
 ext:∀ (f:FuncId) (fn:Func),G f→P.funcs[f]?=some fn→fn.body=none→∀ (K:av) (xs ys:Array Value),AR K xs ys→SR P (NR P) K (Go.callFunc f xs) (Go.callFunc f ys)
 Jp:∀ (f:FuncId) (fn:Func),G f→P.funcs[f]?=some fn→(fn.name == "runtime.NumGoroutine")=false
 fE:∀ n,G (mc n)→wO P G n
theorem SR.callFunc {G:FuncId→Prop}(F:FitX P G){f:FuncId}(hG:G f)(hf:K.good f){xs ys:Array Value}(h:AR K xs ys):SR P (NR P) K (Go.callFunc f xs) (Go.callFunc f ys):=by
 cases e:P.funcs[f]? with
 | none =>
  refine SR.dead fun v w _=>⟨.stuck "call: no such function",v,?_,rfl⟩
  simp only [Go.callFunc,Bind.bind,Go.program,Sem.bind,Sem.run,e,Go.stuck]
 | some fn =>
  cases hb:fn.body with
  | none=>exact F.ext f fn hG e hb K xs ys h
  | some c =>
   unfold Go.callFunc
   refine SR.iF ?_
   rw [e]
   simp only [F.Jp f fn hG e,Bool.false_eq_true,if_false,hb,Option.isNone_some]
   exact SR.pure (.enter _ _ _ hf ⟨fn,e⟩ h)
theorem SR.close {ts:Array TypeId}{t:TypeId}{xs ys:Array Value}(h:AR K xs ys):SR P VR K (Builtin.close_ ts t xs) (Builtin.close_ ts t ys):=by
 obtain ⟨xs⟩:=xs
 obtain ⟨ys⟩:=ys
 have hsz:=h.size
 simp only [List.size_toArray] at hsz
 rcases xs with _ | ⟨x,_ | ⟨x2,xs⟩⟩
 ·exact SR.stuck
 ·rcases ys with _ | ⟨y,_ | ⟨y2,ys⟩⟩
  ·cases hsz
  ·have r:=h.at_ 0 x y rfl rfl
   cases r with
   | ko=>exact SR.runtimePanic (e:=.plain "close of nil channel") rfl
   | chan p q b=>exact SR.getObj b (fun _ _ _ _ _=>SR.stuck) fun _ v=>⟨_,_,rfl,rfl⟩
   | _=>exact SR.stuck
  ·cases hsz
 ·exact SR.stuck
theorem SR.builtin (F:Fit P){b:Builtin}(hb':wM b=true∧(wN b=true∨K.good iE)){ts:Array TypeId}{t:TypeId}{cs:Array Bool}{xs ys:Array Value}(h:AR K xs ys):SR P (NR P) K (Go.builtin b ts t cs xs) (Go.builtin b ts t cs ys):=by
 have v:∀ {s s':Sem Value},SR P VR K s s'→SR P (NR P) K (do Pure.pure (.value (← s))) (do Pure.pure (.value (← s'))):=fun r=>SR.bind r fun _ _ _ _ e=>SR.pure (.value _ _ e)
 obtain ⟨hb,hvb⟩:=hb'
 cases b <;> first
  | (cases hb;done)
  | exact v (SR.append F (hvb.resolve_left ae) h)
  | exact v (SR.cap h)
  | exact v (SR.clear F h)
  | exact v (SR.close h)
  | exact v (SR.copy (hvb.resolve_left ae) h)
  | exact v (SR.len h)
  | exact v (SR.min h)
  | exact v (SR.max h)
  | exact v (SR.panic (h.getD 0 .nilIface))
  | exact SR.pure .recover
theorem SR.receiverAt {t:TypeId}{x y:Value}(h:VR K x y){pr:Bool}(hp:pr=true∨∀ e,P.underlying t≠some (.pointer e))(o:Option String):SR P VR K (Go.receiverAt t (.val x) pr o) (Go.receiverAt t (.val y) pr o):=by
 unfold Go.receiverAt
 refine SR.under fun d hd=>?_
 cases pr with
 | true=>cases d <;> first | exact SR.pure h | exact SR.stuck
 | false=>cases d <;> first | exact SR.pure h | exact absurd hd (hp.elim (fun q=>by cases q) fun q=>q _)
theorem SR.method {G:FuncId→Prop}{n:String}(hm:wO P G n)(k:Nat)(t:TypeId){x y:Value}(h:VR K x y):SR P (fun L a b=>a.1=b.1∧G a.1∧VR L a.2 b.2) K (Go.method k t x n) (Go.method k t y n):=by
 cases k with
 | zero=>exact SR.unsupported
 | succ k =>
  unfold Go.method
  refine SR.info fun i hi=>?_
  cases hf:i.methods.find? (·.name == n) with
  | none=>exact SR.stuck
  | some m =>
   obtain ⟨hp,f,pr,hfn,hG,hr⟩:=hm t i m hi hf
   simp only [hp,hfn,Go.follow]
   refine SR.uo ?_
   exact SR.bind (SR.receiverAt h hr _) fun L a b _ e=>SR.pure ⟨rfl,hG,e⟩
theorem SR.callMethod {G:FuncId→Prop}(F:FitX P G)(hK:∀ f,K.good f↔G f){n:String}(hm:wO P G n){x y:Value}(h:VR K x y){xs ys:Array Value}(k:AR K xs ys):SR P (NR P) K (Go.callMethod x n xs) (Go.callMethod y n ys):=by
 unfold Go.callMethod
 cases h with
 | iface t x y h =>
  refine SR.iF ?_
  refine SR.bind (SR.method hm _ t h) fun L a b hL e=>?_
  obtain ⟨a1,a2⟩:=a
  obtain ⟨b1,b2⟩:=b
  obtain ⟨rfl,hG,hv⟩:=e
  exact SR.callFunc F hG ((hL.good _).1 ((hK _).2 hG)) ((AR.one hv).append (k.mono hL))
 | nilIface=>exact SR.runtimePanic (e:=.nilDeref) rfl
 | _=>exact SR.stuck
theorem SR.invoke {G:FuncId→Prop}(F:FitX P G)(hK:∀ f,K.good f↔G f){d d':Target}{xs ys:Array Value}(h:TR K d d')(k:AR K xs ys):SR P (NR P) K (Go.invoke d xs) (Go.invoke d' ys):=by
 cases h with
 | nil=>exact SR.runtimePanic (e:=.nilDeref) rfl
 | builtin b ts t cs hb=>exact SR.builtin F.toFit hb k
 | fn f us vs hf r=>exact SR.callFunc F ((hK f).1 hf) hf (k.append r)
 | fE n us vs hf r =>
  unfold Go.invoke
  rcases k.get 0 with ⟨h1,h2⟩ | ⟨x,y,h1,h2,hv⟩
  ·simp only [h1,h2]
   exact SR.stuck
  ·simp only [h1,h2]
   rw [k.size]
   exact SR.callMethod F hK (F.fE n ((hK _).1 hf)) hv (k.extract 1 _)
inductive ER (K:av):Except (Option Bool) (TypeId×Option Value)→Except (Option Bool) (TypeId×Option Value)→Prop
 | error (r:Option Bool):ER K (.error r) (.error r)
 | ok (t:TypeId) (x y:Option Value):OR K x y→ER K (.ok (t,x)) (.ok (t,y))
theorem SR.followBlind:∀ {K:av}(l:List FieldStep)(t:TypeId){x y:Option Value},OR K x y→SR P ER K (Go.followBlind l t x) (Go.followBlind l t y)
 | _,[],t,x,y,h=>SR.pure (.ok t x y h)
 | K,s :: l,t,x,y,h=>by
  unfold Go.followBlind
  refine SR.under fun d _=>?_
  cases d <;> try exact SR.stuck
  rename_i fs _
  simp only []
  cases fs[s.index]? with
  | none=>exact SR.stuck
  | some f =>
   simp only []
   cases s.deref with
   | true =>
    cases h with
    | none=>exact SR.pure (.error _)
    | some a b r =>
     cases r <;> first | exact SR.pure (.error _) | exact SR.followBlind l _ .none | exact SR.stuck
   | false =>
    cases h with
    | none=>exact SR.followBlind l _ .none
    | some a b r =>
     cases r <;> first | exact SR.stuck | skip
     rename_i h1 h2
     exact SR.bind (SR.part ⟨h1,h2⟩ _) fun L p q _ e=>SR.followBlind l _ (.some _ _ e)
theorem SR.nilAhead:∀ {K:av}(k:Nat)(t:TypeId){x y:Value}(n:String),VR K x y→SR P (fun _ a b=>a=b) K (Go.nilAhead k t x n) (Go.nilAhead k t y n)
 | _,0,_,_,_,_,_=>SR.pure rfl
 | K,k+1,t,x,y,n,h=>by
  unfold Go.nilAhead
  refine SR.info fun i hi=>?_
  cases hf:i.methods.find? (·.name == n) with
  | none=>exact SR.stuck
  | some m =>
   simp only []
   refine SR.bind (SR.followBlind _ t (.some _ _ h)) fun L a b hL e=>?_
   cases e with
   | error r=>exact SR.pure rfl
   | ok u x y r =>
    simp only []
    cases m.func with
    | none =>
     cases r with
     | none=>exact SR.pure rfl
     | some a b r=>cases r <;> first | exact SR.pure rfl | exact SR.stuck | (rename_i q;exact SR.nilAhead k _ n q)
    | some p =>
     obtain ⟨f,pr⟩:=p
     cases pr with
     | true=>exact SR.pure rfl
     | false =>
      refine SR.under fun d _=>?_
      cases d <;> try exact SR.pure rfl
      cases r with
      | none=>exact SR.pure rfl
      | some a b r=>cases r <;> exact SR.pure rfl
theorem SR.field {t:TypeId}{f:Nat}{x y:Value}(h:VR K x y):SR P VR K (Instr.field t x f) (Instr.field t y f):=by
 unfold Instr.field
 refine SR.under fun d _=>?_
 cases d <;> try exact SR.stuck
 rename_i fs _
 simp only []
 cases fs[f]? with
 | none=>exact SR.stuck
 | some g=>exact SR.bind (SR.asAgg h) fun L a b _ e=>SR.part e _
end
section
variable {P:Program}{β γ:Type}{Q:av→β→γ→Prop}{K:av}
def plain0:Value→Bool
 | .bool _ | .int .. | .float .. | .string _ | .pointer none | .slice none _ _ | .map none | .chan none | .nilFunc | .nilIface=>true
 | _=>false
def uq:Value→Bool
 | .agg cs | .tuple cs=>cs.all plain0
 | v=>plain0 v
theorem VR.plain0 {x:Value}(h:Blind.plain0 x=true)(K:av):VR K x x:=by
 unfold Blind.plain0 at h
 split at h <;> first | constructor | cases h
theorem VR.uq {x:Value}(h:Blind.uq x=true)(K:av):VR K x x:=by
 have all:∀ {cs:Array Value},cs.all Blind.plain0=true→∀ (i:Nat) (x y:Value),cs[i]?=some x→cs[i]?=some y→VR K x y:=by
  intro cs hc i x y hx hy
  rw [hx] at hy
  cases hy
  obtain ⟨hi,e⟩:=Array.getElem?_eq_some_iff.1 hx
  exact VR.plain0 (e ▸ (Array.all_eq_true.1 hc) i hi) K
 unfold Blind.uq at h
 split at h
 ·exact .agg _ _ rfl (all h)
 ·exact .tuple _ _ rfl (all h)
 ·exact VR.plain0 h K
def y5 (P:Program)(G:FuncId→Bool):Operand→Bool
 | .const v=>uq v
 | .global g=>decide (g < P.globals.size)
 | .func f=>G f
 | .tmp _=>true
def y7 (P:Program)(G:FuncId→Bool):Op→Bool
 | .move _ | .assign _ | .pick .. | .alloc _ | .box .. | .build .. | .buildSlice .. | .load .. | .store .. | .nilCheck _ | .binOp .. | .unOp .. | .makeInterface .. | .makeSlice .. | .fieldAddr .. | .field .. | .indexAddr .. | .extract ..
 | .panic _ | .send .. | .recv ..=>true
 | .slice ..=>G iE
 | .select _ blocking=>blocking
 | .makeFunc fn ..=>match fn with | .func f=>G f | .method n=>G (mc n) | _=>false
 | .call c | .defer c=>match c.callee with | .builtin b=>wM b && (wN b || G iE) | .value _=>true | .invoke _ n=>G (mc n)
 | .convert src dst _=>(P.underlying src matches some (.int _)) && (P.underlying dst matches some (.int _))
 | _=>false
def pZ (P:Program)(G:FuncId→Bool)(o:Oper):Bool:=y7 P G o.op && o.op.operands.all (y5 P G)
theorem SR.floatToInt {s:FloatKind}{b:Nat}{k:IntKind}:SR P VR K (Conv.floatToInt s b k) (Conv.floatToInt s b k):=by
 unfold Conv.floatToInt
 dsimp only
 repeat' split
 all_goals first | exact SR.pure (.int _ _) | exact SR.bind (SR.choose _) fun _ _ _ _ e=>by subst e;exact SR.pure (.int _ _)
theorem SR.Jq {t u:TypeId}(ht:(P.underlying t matches some (.int _))=true)(hu:(P.underlying u matches some (.int _))=true){x y:Value}(h:VR K x y):SR P VR K (Go.convert t u x) (Go.convert t u y):=by
 unfold Go.convert
 refine SR.under fun d hd=>?_
 refine SR.under fun e he=>?_
 rw [hd] at ht
 rw [he] at hu
 cases d <;> first | (cases ht;done) | skip
 cases e <;> first | (cases hu;done) | skip
 cases h with
 | int k n=>exact SR.pure (.int _ _)
 | float k n=>exact SR.floatToInt
 | _=>exact SR.unsupported
theorem SR.eqGuard {op:BinOp}{t:TypeId}{a b:Operand}{x x' y y':Value}(hx:VR K x x')(hy:VR K y y'):SR P (fun _ _ _=>True) K (Go.eqGuard op t a b x y) (Go.eqGuard op t a b x' y'):=by
 unfold Go.eqGuard
 refine SR.ite (fun _=>SR.pure trivial) fun _=>?_
 split
 ·cases hx;cases hy
  refine SR.ite (fun _=>SR.pure trivial) fun _=>?_
  refine SR.bind (SR.eqGuardIn _ _ .nilIface .nilIface) fun L p q _ e=>?_
  subst e
  exact SR.ite (fun _=>SR.unsupported) fun _=>SR.pure trivial
 ·have hx0:=hx
  have hy0:=hy
  cases hx;cases hy
  refine SR.iF (SR.iF ?_)
  refine SR.ite (fun _=>SR.pure trivial) fun _=>?_
  refine SR.bind (SR.eqGuardIn _ _ hx0 hy0) fun L p q _ e=>?_
  subst e
  exact SR.ite (fun _=>SR.unsupported) fun _=>SR.pure trivial
 ·cases hx <;> cases hy <;> first | exact SR.pure trivial | (exfalso;simp_all)
theorem SR.resolve {G:FuncId→Bool}(hK:∀ f,K.good f↔G f=true){ρ ρ':Operand→Value}{c:Call}{t:TypeId}(hc:(match c.callee with | .builtin b=>wM b && (wN b || G iE) | .value _=>true | .invoke _ n=>G (mc n))=true)(hρ:∀ x∈c.operands,VR K (ρ x) (ρ' x)) :
  SR P DR K (Go.resolve ρ c t) (Go.resolve ρ' c t):=by
 have args:AR K (c.args.map ρ) (c.args.map ρ'):=by
  refine ⟨ah,fun i x y hx hy=>?_⟩
  simp only [Array.getElem?_map,Option.map_eq_some_iff] at hx hy
  obtain ⟨a,ha,rfl⟩:=hx
  obtain ⟨b,hb,rfl⟩:=hy
  rw [ha] at hb
  cases hb
  refine hρ a ?_
  unfold Call.operands
  exact Array.mem_append.2 (.inr (Array.mem_of_getElem? ha))
 unfold Go.resolve
 cases e:c.callee with
 | builtin b =>
  rw [e] at hc
  simp only [Bool.and_eq_true,Bool.or_eq_true] at hc
  exact SR.pure ⟨.builtin _ _ _ _ ⟨hc.1,hc.2.imp id (hK _).2⟩,args⟩
 | invoke r n =>
  rw [e] at hc
  exact SR.pure ⟨.fE n _ _ ((hK _).2 hc) (AR.nil K),(AR.one (hρ r (by unfold Call.operands;rw [e];simp))).append args⟩
 | value f =>
  have r:=hρ f (by unfold Call.operands;rw [e];simp)
  dsimp only
  cases hv:ρ f with
  | func fn xs us =>
   rw [hv] at r
   generalize ρ' f=z at r
   cases r with
   | func f _ ys _ vs hf h1 h2 h3 h4=>exact SR.pure ⟨.fn _ _ _ hf ⟨h3,h4⟩,(AR.mk h1 h2).append args⟩
   | fE n _ ys _ vs hf h1 h2 h3 h4=>exact SR.pure ⟨.fE _ _ _ hf ⟨h3,h4⟩,(AR.mk h1 h2).append args⟩
  | nilFunc =>
   rw [hv] at r
   generalize ρ' f=z at r
   cases r
   exact SR.pure ⟨.nil,args⟩
  | _=>exact SR.stuck
end
section
variable {P:Program}{β γ:Type}{Q:av→β→γ→Prop}{K:av}
theorem SR.execOp {G:FuncId→Bool}(F:FitX P (G ·=true))(hK:∀ f,K.good f↔G f=true){o:Oper}(ho:pZ P G o=true){ρ ρ':Operand→Value}(hρ:∀ x∈o.op.operands,VR K (ρ x) (ρ' x)) :
  SR P (NR P) K (Go.execOp ρ o) (Go.execOp ρ' o):=by
 have v:∀ {s s':Sem Value},SR P VR K s s'→SR P (NR P) K (do Pure.pure (.value (← s))) (do Pure.pure (.value (← s'))):=fun r=>SR.bind r fun _ _ _ _ e=>SR.pure (.value _ _ e)
 have u:∀ {s s':Sem Unit},SR P (fun _ _ _=>True) K s s'→SR P (NR P) K (do s;Pure.pure .skip) (do s';Pure.pure .skip):=fun r=>SR.bind r fun _ _ _ _ _=>SR.pure .skip
 have hf:y7 P G o.op=true:=(Bool.and_eq_true_iff.1 ho).1
 have F1:=F.toFit
 have opt:∀ (x:Option Operand),(∀ y∈x,VR K (ρ y) (ρ' y))→OR K (x.map ρ) (x.map ρ'):=fun x h=>by
  cases x with
  | none=>exact .none
  | some y=>exact .some _ _ (h y rfl)
 have arr:∀ (xs:Array Operand),(∀ y∈xs,VR K (ρ y) (ρ' y))→AR K (xs.map ρ) (xs.map ρ'):=fun xs h=>by
  refine ⟨ah,fun i x y hx hy=>?_⟩
  simp only [Array.getElem?_map,Option.map_eq_some_iff] at hx hy
  obtain ⟨a,ha,rfl⟩:=hx
  obtain ⟨b,hb,rfl⟩:=hy
  rw [ha] at hb
  cases hb
  exact h a (Array.mem_of_getElem? ha)
 have pts:∀ (ps:Array (Nat×Operand)),(∀ p∈ps,VR K (ρ p.2) (ρ' p.2))→PR K (ps.map fun (i,x)=>(i,ρ x)).toList (ps.map fun (i,x)=>(i,ρ' x)).toList:=fun ps h=>by
  rw [Array.toList_map,Array.toList_map]
  exact PR.of _ fun p hp=>h p (by simpa using hp)
 unfold Go.execOp
 cases e:o.op with
 | move x=>rw [e] at hρ;exact SR.pure (.value _ _ (hρ x (by simp [Op.operands])))
 | assign x=>rw [e] at hρ;exact SR.pure (.value _ _ (hρ x (by simp [Op.operands])))
 | pick c a b =>
  rw [e] at hρ
  refine SR.bind (SR.asBool (hρ c (by simp [Op.operands]))) fun L p q hL z=>?_
  subst z
  cases p with
  | true=>exact SR.pure (.value _ _ ((hρ a (by simp [Op.operands])).mono hL))
  | false=>exact SR.pure (.value _ _ ((hρ b (by simp [Op.operands])).mono hL))
 | alloc t=>exact v (SR.alloc F1)
 | box t x=>rw [e] at hρ;exact v (SR.box (hρ x (by simp [Op.operands])))
 | build t ps=>rw [e] at hρ;exact v (SR.build F1 (pts ps fun p hp=>hρ p.2 (by simp [Op.operands];exact ⟨_,hp⟩)))
 | buildSlice t n ps=>rw [e] at hρ;exact v (SR.buildSlice F1 (pts ps fun p hp=>hρ p.2 (by simp [Op.operands];exact ⟨_,hp⟩)))
 | load t x=>rw [e] at hρ;exact v (SR.loadAt (hρ x (by simp [Op.operands])))
 | store t x y=>rw [e] at hρ;exact u (SR.storeAt (hρ x (by simp [Op.operands])) (hρ y (by simp [Op.operands])))
 | nilCheck x =>
  rw [e] at hρ
  have r:=hρ x (by simp [Op.operands])
  dsimp only
  generalize ρ x=a at r
  generalize ρ' x=b at r
  cases r with
  | dU=>exact SR.runtimePanic (e:=.nilDeref) rfl
  | nilIface=>exact SR.runtimePanic (e:=.nilDeref) rfl
  | nilFunc=>exact SR.runtimePanic (e:=.nilDeref) rfl
  | bool b=>exact SR.pure (.value _ _ (.bool b))
  | int k n=>exact SR.pure (.value _ _ (.int k n))
  | float k n=>exact SR.pure (.value _ _ (.float k n))
  | string s=>exact SR.pure (.value _ _ (.string s))
  | ptr a a' r=>exact SR.pure (.value _ _ (.ptr a a' r))
  | bX l c=>exact SR.pure (.value _ _ (.bX l c))
  | void a hv=>exact SR.pure (.value _ _ (.void a hv))
  | slice a a' l c r=>exact SR.pure (.value _ _ (.slice a a' l c r))
  | kg=>exact SR.pure (.value _ _ .kg)
  | map r r' b=>exact SR.pure (.value _ _ (.map r r' b))
  | ko=>exact SR.pure (.value _ _ .ko)
  | chan r r' b=>exact SR.pure (.value _ _ (.chan r r' b))
  | func fn xs ys us vs hf h1 h2 h3 h4=>exact SR.pure (.value _ _ (.func fn xs ys us vs hf h1 h2 h3 h4))
  | fE n xs ys us vs hf h1 h2 h3 h4 =>
   have r0:VR K (.func (.method n) xs us) (.func (.method n) ys vs):=.fE n xs ys us vs hf h1 h2 h3 h4
   rcases (AR.mk h1 h2).get 0 with ⟨q1,q2⟩ | ⟨x,y,q1,q2,hv⟩
   ·simp only [q1,q2]
    exact SR.pure (.value _ _ r0)
   ·simp only [q1,q2]
    cases hv with
    | nilIface=>exact SR.runtimePanic (e:=.nilDeref) rfl
    | iface t x y hv =>
     refine SR.iF ?_
     refine SR.bind (SR.nilAhead _ t n hv) fun L p q hL z=>?_
     subst z
     exact SR.ite (fun _=>SR.unsupported) fun _=>SR.pure (.value _ _ (r0.mono hL))
    | _=>exact SR.pure (.value _ _ r0)
  | iface t x y h=>exact SR.pure (.value _ _ (.iface t x y h))
  | agg xs ys h1 h2=>exact SR.pure (.value _ _ (.agg xs ys h1 h2))
  | tuple xs ys h1 h2=>exact SR.pure (.value _ _ (.tuple xs ys h1 h2))
 | binOp op t x y yt =>
  rw [e] at hρ
  have rx:=hρ x (by simp [Op.operands])
  have ry:=hρ y (by simp [Op.operands])
  refine v (SR.bind (SR.eqGuard rx ry) fun L _ _ hL _=>SR.binOp F1 (rx.mono hL) (ry.mono hL))
 | unOp op t x=>rw [e] at hρ;exact v (SR.unary (hρ x (by simp [Op.operands])))
 | convert a b x =>
  rw [e] at hρ hf
  simp only [y7,Bool.and_eq_true] at hf
  exact v (SR.Jq hf.1 hf.2 (hρ x (by simp [Op.operands])))
 | makeInterface t x=>rw [e] at hρ;exact v (SR.makeInterface (hρ x (by simp [Op.operands])))
 | makeFunc fn xs us =>
  rw [e] at hρ hf
  cases fn with
  | func f =>
   have r1:=arr xs fun y hy=>hρ y (by simp [Op.operands,hy])
   have r2:=arr us fun y hy=>hρ y (by simp [Op.operands,hy])
   exact v (SR.pure (.func f _ _ _ _ ((hK f).2 hf) r1.size r1.at_ r2.size r2.at_))
  | method n =>
   have r1:=arr xs fun y hy=>hρ y (by simp [Op.operands,hy])
   have r2:=arr us fun y hy=>hρ y (by simp [Op.operands,hy])
   exact v (SR.pure (.fE n _ _ _ _ ((hK _).2 hf) r1.size r1.at_ r2.size r2.at_))
  | _=>cases hf
 | makeSlice t x y=>rw [e] at hρ;exact v (SR.makeSlice F1 (hρ x (by simp [Op.operands])) (hρ y (by simp [Op.operands])))
 | slice t x a b m =>
  rw [e] at hρ hf
  exact v (SR.sliceAt ((hK _).2 hf) (hρ x (by simp [Op.operands])) (opt a fun y hy=>hρ y (by simp [Op.operands,Option.mem_toArray.2 hy])) (opt b fun y hy=>hρ y (by simp [Op.operands,Option.mem_toArray.2 hy])) (opt m fun y hy=>hρ y (by simp [Op.operands,Option.mem_toArray.2 hy])))
 | fieldAddr t x f=>rw [e] at hρ;exact v (SR.fieldAt (hρ x (by simp [Op.operands])))
 | field t x f=>rw [e] at hρ;exact v (SR.field (hρ x (by simp [Op.operands])))
 | indexAddr t x i=>rw [e] at hρ;exact v (SR.indexAt (hρ x (by simp [Op.operands])) (hρ i (by simp [Op.operands])))
 | extract x i=>rw [e] at hρ;exact v (SR.extract (hρ x (by simp [Op.operands])) i)
 | call c =>
  rw [e] at hρ hf
  exact SR.bind (SR.resolve hK hf hρ) fun L d d' hL r=>SR.invoke F (fun f=>(hL.good f).symm.trans (hK f)) r.target r.args
 | defer c =>
  rw [e] at hρ hf
  exact SR.bind (SR.resolve hK hf hρ) fun L d d' hL r=>SR.pure (.defer _ _ r)
 | panic x=>rw [e] at hρ;exact v (SR.panic (hρ x (by simp [Op.operands])))
 | send c x =>
  rw [e] at hρ
  exact SR.pure (.comm _ _ _ fun d hd=>by simp only [List.mem_toArray,List.mem_cons,List.not_mem_nil,or_false] at hd;subst hd;exact ⟨_,hρ c (by simp [Op.operands])⟩)
 | recv t c ok =>
  refine SR.under fun d _=>?_
  split
  ·rw [e] at hρ
   exact SR.zeroV F1 fun _ _=>SR.pure (.comm _ _ _ fun d hd=>by simp only [List.mem_toArray,List.mem_cons,List.not_mem_nil,or_false] at hd;subst hd;exact ⟨_,hρ c (by simp [Op.operands])⟩)
  ·exact SR.stuck
 | select cs b =>
  rw [e] at hρ hf
  obtain rfl:b=true:=hf
  refine SR.bind (SR.mapM (R:=fun L (a:CommCase) (_:CommCase)=>∃ y,VR L a.chan y) (Rs:=fun L (xs:List CommCase) (_:List CommCase)=>∀ c∈xs,∃ y,VR L c.chan y) _ (fun L M xs ys x y hL hs hx c hc=>?_) (fun _ c hc=>by simp at hc) fun L x hL hx=>SR.zeroV F1 fun _ _=>SR.pure ⟨_,(hρ x.chan ?_).mono hL⟩) fun L as bs _ h=>SR.pure (.comm _ _ _ fun c hc=>h c (by simpa using hc))
  ·rcases List.mem_cons.1 hc with rfl | z
   ·obtain ⟨y,hy⟩:=hx;exact ⟨y,hy.mono hL⟩
   ·exact hs c z
  ·simp only [Op.operands,Array.mem_flatMap]
   exact ⟨x,hx,ah⟩
 | _=>rw [e] at hf;cases hf
end
def fI (P:Program)(G:FuncId→Bool):Code→Bool
 | .region _ ops _=>ops.all (pZ P G)
 | .seq a b=>fI P G a && fI P G b
 | .cond c a b=>y5 P G c && fI P G a && fI P G b
 | .block _ b | .loop b | .scope b=>fI P G b
 | .skip | .exit _ | .label _ | .ret | .refuse _=>true
 | .rangeFunc .. | .goto _=>false
def gT (P:Program)(G:FuncId→Bool):Item→Bool
 | .code c | .inLoop c | .inScope c=>fI P G c
 | .inBlock _=>true
 | .inRegion ops _=>ops.all (pZ P G)
 | _=>false
structure Jr (K:av)(p q:PanicEntry):Prop where
 v:VR K p.v q.v
 recovered:p.recovered=q.recovered
 goexit:p.goexit=q.goexit
inductive fJ (K:av):List PanicEntry→List PanicEntry→Prop
 | nil:fJ K [] []
 | cons (p q:PanicEntry) (ps qs:List PanicEntry):Jr K p q→fJ K ps qs→fJ K (p :: ps) (q :: qs)
inductive MR (K:av):FrameMode→FrameMode→Prop
 | run:MR K .run .run
 | returning:MR K .returning .returning
 | panicking (ps qs:List PanicEntry):fJ K ps qs→MR K (.panicking ps) (.panicking qs)
inductive jH (K:av):List Deferred→List Deferred→Prop
 | nil:jH K [] []
 | cons (d d':Deferred) (ds ds':List Deferred):DR K d d'→jH K ds ds'→jH K (d :: ds) (d' :: ds')
structure FR (P:Program)(G:FuncId→Bool)(K:av)(fr fr':Frame):Prop where
 fn:fr.fn=fr'.fn
 there:∃ fn,P.funcs[fr.fn]?=some fn
 tmps:AR K fr.tmps fr'.tmps
 todo:fr.todo=fr'.todo
 fits:fr.todo.all (gT P G)=true
 defers:jH K fr.defers fr'.defers
 mode:MR K fr.mode fr'.mode
 kind:fr.kind=fr'.kind
 kinds:fr.kind=.normal∨fr.kind=.deferred
 round:fr.roundOf=none
 round':fr'.roundOf=none
inductive SK (P:Program)(G:FuncId→Bool)(K:av)(lb below:List Frame):Frame→List Frame→Frame→List Frame→Prop
 | bottom (fr fr':Frame):FR P G K fr fr'→fr.kind=.normal→SK P G K lb below fr lb fr' below
 | push (fr fr' c c':Frame) (cs cs':List Frame):FR P G K fr fr'→SK P G K lb below c cs c' cs'→SK P G K lb below fr (c :: cs) fr' (c' :: cs')
section
variable {P:Program}{G:FuncId→Bool}{K:av}{lb below:List Frame}
theorem fJ.mono {L:av}(h:K.le L){ps qs:List PanicEntry}(r:fJ K ps qs):fJ L ps qs:=by
 induction r with
 | nil=>exact .nil
 | cons p q ps qs r _ ih=>exact .cons p q ps qs ⟨r.v.mono h,r.recovered,r.goexit⟩ ih
theorem fJ.append {ps qs rs ss:List PanicEntry}(r:fJ K ps qs)(s:fJ K rs ss):fJ K (ps ++ rs) (qs ++ ss):=by
 induction r with
 | nil=>exact s
 | cons p q ps qs r _ ih=>exact .cons p q _ _ r ih
theorem fJ.drop {ps qs:List PanicEntry}(r:fJ K ps qs):fJ K (ps.dropWhile (!·.goexit)) (qs.dropWhile (!·.goexit)):=by
 induction r with
 | nil=>exact .nil
 | cons p q ps qs r rs ih =>
  simp only [List.dropWhile_cons,r.goexit]
  split
  ·exact ih
  ·exact .cons p q ps qs r rs
theorem MR.mono {L:av}(h:K.le L){m m':FrameMode}(r:MR K m m'):MR L m m':=by
 cases r with
 | run=>exact .run
 | returning=>exact .returning
 | panicking ps qs r=>exact .panicking ps qs (r.mono h)
theorem jH.mono {L:av}(h:K.le L){m m':List Deferred}(r:jH K m m'):jH L m m':=by
 induction r with
 | nil=>exact .nil
 | cons d d' ds ds' r _ ih=>exact .cons d d' ds ds' (r.mono h) ih
theorem FR.mono {L:av}(h:K.le L){fr fr':Frame}(r:FR P G K fr fr'):FR P G L fr fr' :=
 ⟨r.fn,r.there,r.tmps.mono h,r.todo,r.fits,r.defers.mono h,r.mode.mono h,r.kind,r.kinds,r.round,r.round'⟩
theorem SK.mono {L:av}(h:K.le L){fr fr':Frame}{cs cs':List Frame}(r:SK P G K lb below fr cs fr' cs'):SK P G L lb below fr cs fr' cs':=by
 induction r with
 | bottom fr fr' r k=>exact .bottom fr fr' (r.mono h) k
 | push fr fr' c c' cs cs' r _ ih=>exact .push fr fr' c c' cs cs' (r.mono h) ih
theorem SK.top {fr fr':Frame}{cs cs':List Frame}(r:SK P G K lb below fr cs fr' cs'):FR P G K fr fr':=by
 cases r with
 | bottom _ _ r _=>exact r
 | push _ _ _ _ _ _ r _=>exact r
theorem SK.put {fr fr' gr Ch:Frame}{cs cs':List Frame}(r:SK P G K lb below fr cs fr' cs')(h:FR P G K gr Ch)(hk:gr.kind=fr.kind):SK P G K lb below gr cs Ch cs':=by
 cases r with
 | bottom _ _ r k=>exact .bottom _ _ h (hk.trans k)
 | push _ _ c c' cs cs' _ rest=>exact .push _ _ _ _ _ _ h rest
theorem jI (K:av):VR K undef undef:=.tuple _ _ rfl fun i x y hx=>by simp at hx
theorem FR.eval {fr fr':Frame}(r:FR P G K fr fr')(hK:∀ f,K.good f↔G f=true)(hb:∀ g,g < P.globals.size→K.b g g){x:Operand}(hx:y5 P G x=true):VR K (fr.eval x) (fr'.eval x):=by
 cases x with
 | tmp t=>exact r.tmps.getD t (jI K)
 | const v=>exact VR.uq hx K
 | global g=>exact .ptr _ _ ⟨hb g (of_decide_eq_true hx),rfl,rfl⟩
 | func f=>exact .func f _ _ _ _ ((hK f).2 hx) rfl (fun i x y hx=>by simp at hx) rfl (fun i x y hx=>by simp at hx)
theorem FR.walk {fr fr':Frame}(r:FR P G K fr fr'){k:List Item}(hk:k.all (gT P G)=true):FR P G K { fr with todo:=k } { fr' with todo:=k } :=
 ⟨r.fn,r.there,r.tmps,rfl,hk,r.defers,r.mode,r.kind,r.kinds,r.round,r.round'⟩
theorem FR.qW {fr fr':Frame}(r:FR P G K fr fr'){m m':FrameMode}(h:MR K m m'):FR P G K { fr with mode:=m } { fr' with mode:=m' } :=
 ⟨r.fn,r.there,r.tmps,r.todo,r.fits,r.defers,h,r.kind,r.kinds,r.round,r.round'⟩
theorem FR.defer {fr fr':Frame}(r:FR P G K fr fr'){d d':List Deferred}(h:jH K d d'):FR P G K { fr with defers:=d } { fr' with defers:=d' } :=
 ⟨r.fn,r.there,r.tmps,r.todo,r.fits,h,r.mode,r.kind,r.kinds,r.round,r.round'⟩
theorem FR.raise {fr fr':Frame}(r:FR P G K fr fr'){ps qs:List PanicEntry}(h:fJ K ps qs):FR P G K (fr.raise ps) (fr'.raise qs):=by
 have hm:=r.mode
 unfold Frame.raise
 generalize fr.mode=m at hm
 generalize fr'.mode=m' at hm
 cases hm with
 | run=>exact r.qW (.panicking _ _ h)
 | returning=>exact r.qW (.panicking _ _ h)
 | panicking as bs s=>exact r.qW (.panicking _ _ (h.append s))
theorem y8 (fr:Frame)(ps:List PanicEntry):(fr.raise ps).kind=fr.kind:=by
 unfold Frame.raise;split <;> rfl
theorem FR.finish {fr fr':Frame}(r:FR P G K fr fr'){x y:Value}(h:VR K x y):FR P G K (fr.finish x) (fr'.finish y):=by
 have ht:=r.todo
 have hf:=r.fits
 unfold Frame.finish
 rw [← ht]
 rcases e:fr.todo with _ | ⟨it,k⟩
 ·exact r
 rw [e] at hf
 simp only [List.all_cons,Bool.and_eq_true] at hf
 cases it with
 | inRegion ops l =>
  cases l with
  | nil=>exact r
  | cons i rest =>
   dsimp only
   refine ⟨r.fn,r.there,?_,rfl,by simp only [List.all_cons,Bool.and_eq_true];exact hf,r.defers,r.mode,r.kind,r.kinds,r.round,r.round'⟩
   cases (ops[i]?).bind (·.dst) with
   | none=>exact r.tmps
   | some d=>exact r.tmps.set d h
 | code c=>exact r
 | inBlock _=>exact r
 | inLoop _=>exact r
 | inScope _=>exact r
 | inRangeFunc _=>cases hf.1
 | endRangeFunc _=>cases hf.1
 | beginRound=>cases hf.1
 | call _ _ _ _=>cases hf.1
 | extern _ _=>cases hf.1
theorem p8 (fr:Frame)(x:Value):(fr.finish x).kind=fr.kind:=by
 unfold Frame.finish;split <;> rfl
theorem FR.enter {f:FuncId}{xs ys:Array Value}(hf:G f=true)(hb:∀ f fn c,G f=true→P.funcs[f]?=some fn→fn.body=some c→fI P G c=true)(ht:∃ fn,P.funcs[f]?=some fn)(h:AR K xs ys){k:CallKind}(hk:k=.normal∨k=.deferred):FR P G K (Frame.enter P f xs k) (Frame.enter P f ys k):=by
 obtain ⟨fn,e⟩:=ht
 refine ⟨rfl,⟨fn,e⟩,?_,?_,?_,.nil,.run,rfl,hk,rfl,rfl⟩
 ·simp only [Frame.enter,h.size]
  refine h.append ⟨rfl,fun i x y hx hy=>?_⟩
  rw [hx] at hy
  cases hy
  simp only [Array.getElem?_replicate] at hx
  split at hx
  ·cases hx;exact jI K
  ·cases hx
 ·rfl
 ·simp only [Frame.enter,List.all_cons,List.all_nil,Bool.and_true,gT,e,Option.bind_some]
  cases hc:fn.body with
  | none=>rfl
  | some c=>exact hb f fn c hf e hc
theorem Js {id:Nat}:∀ {k k':List Item},exitTo id k=some k'→k.all (gT P G)=true→k'.all (gT P G)=true:=by
 intro k
 induction k with
 | nil=>intro k' h;cases h
 | cons it k ih =>
  intro k' h hf
  simp only [List.all_cons,Bool.and_eq_true] at hf
  unfold exitTo at h
  split at h
  ·rename_i id' k2 e
   cases e
   split at h
   ·cases h;exact hf.2
   ·exact ih h hf.2
  ·rename_i e;cases e;exact ih h hf.2
  ·rename_i e;cases e
theorem Ci {fr fr':Frame}(r:FR P G K fr fr')(ops:Array Oper):yielded ops fr.tmps=yielded ops fr'.tmps:=by
 funext j
 unfold yielded
 cases (ops[j]?).bind (·.dst) with
 | none=>rfl
 | some d =>
  simp only [Option.bind_some]
  rcases r.tmps.get d with ⟨h1,h2⟩ | ⟨x,y,h1,h2,rv⟩
  ·rw [h1,h2]
  ·rw [h1,h2];cases rv <;> rfl
end
end Go.Blind

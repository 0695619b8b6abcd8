/- Of the proof. -/
import Derived.KernelRfl
import Derived.Control
import Derived.StepT
import GoSem.Step
namespace Go
theorem ae {p:Prop}(h:p:=by decide):p:=h
theorem af {p:Prop}(h:p:=by kernel_rfl):p:=h
theorem ag {p:Prop}(h:p:=by omega):p:=h
theorem ah {p:Prop}(h:p:=by simp):p:=h
theorem aO {α:Type}{a:α}{s t:List α}(h:a∈s):a∈s ++ t:=List.mem_append.2 (.inl h)
theorem bR {α:Type}{a:α}{s t:List α}(h:a∈t):a∈s ++ t:=List.mem_append.2 (.inr h)
end Go
namespace Go.Blind
structure av where
 b:Nat→Nat→Prop
 own:Nat→Prop
 good:FuncId→Prop
structure av.le (K L:av):Prop where
 b:∀ x y,K.b x y→L.b x y
 own:∀ x,K.own x→L.own x
 old:∀ x y,K.b x y→L.own x→K.own x
 good:∀ f,K.good f↔L.good f
theorem av.le.refl (K:av):K.le K:=⟨fun _ _ h=>h,fun _ h=>h,fun _ _ _ h=>h,fun _=>Iff.rfl⟩
theorem av.le.trans {K L M:av}(h:K.le L)(k:L.le M):K.le M :=
 ⟨fun x y z=>k.b x y (h.b x y z),fun x z=>k.own x (h.own x z),fun x y z o=>h.old x y z (k.old x y (h.b x y z) o),fun f=>(h.good f).trans (k.good f)⟩
structure bA (K:av)(a a':Addr):Prop where
 block:K.b a.block a'.block
 off:a.off=a'.off
 spot:a.spot=a'.spot
theorem bA.mono {K L:av}(h:K.le L){a a':Addr}(r:bA K a a'):bA L a a':=⟨h.b _ _ r.block,r.off,r.spot⟩
theorem bA.add {K:av}{a a':Addr}(r:bA K a a')(n:Nat):bA K (a.add n) (a'.add n):=by
 unfold Addr.add
 split
 ·exact r
 ·exact ⟨r.block,by simp [r.off],rfl⟩
def mc (s:String):FuncId:=s.toList.foldl (fun a c=>(a * 131+c.toNat) % 1000003) 1000000
def iE:FuncId:=1000003
inductive VR (K:av):Value→Value→Prop
 | bool (b:Bool):VR K (.bool b) (.bool b)
 | int (k:IntKind) (n:Int):VR K (.int k n) (.int k n)
 | float (k:FloatKind) (n:Nat):VR K (.float k n) (.float k n)
 | string (s:ByteArray):VR K (.string s) (.string s)
 | dU:VR K (.pointer none) (.pointer none)
 | ptr (a a':Addr):bA K a a'→VR K (.pointer (some a)) (.pointer (some a'))
 | bX (l c:Nat):VR K (.slice none l c) (.slice none l c)
 | slice (a a':Addr) (l c:Nat):bA K a a'→VR K (.slice (some a) l c) (.slice (some a') l c)
 | void (a:Addr):¬ K.good iE→VR K (.slice (some a) 0 0) (.slice (some a) 0 0)
 | kg:VR K (.map none) (.map none)
 | map (r r':Nat):K.b r r'→VR K (.map (some r)) (.map (some r'))
 | ko:VR K (.chan none) (.chan none)
 | chan (r r':Nat):K.b r r'→VR K (.chan (some r)) (.chan (some r'))
 | func (f:FuncId) (xs ys us vs:Array Value):K.good f→xs.size=ys.size→(∀ (i:Nat) (x y:Value),xs[i]?=some x→ys[i]?=some y→VR K x y) →
   us.size=vs.size→(∀ (i:Nat) (x y:Value),us[i]?=some x→vs[i]?=some y→VR K x y)→VR K (.func (.func f) xs us) (.func (.func f) ys vs)
 | fE (n:String) (xs ys us vs:Array Value):K.good (mc n)→xs.size=ys.size→(∀ (i:Nat) (x y:Value),xs[i]?=some x→ys[i]?=some y→VR K x y) →
   us.size=vs.size→(∀ (i:Nat) (x y:Value),us[i]?=some x→vs[i]?=some y→VR K x y)→VR K (.func (.method n) xs us) (.func (.method n) ys vs)
 | nilFunc:VR K .nilFunc .nilFunc
 | iface (t:TypeId) (x y:Value):VR K x y→VR K (.iface t x) (.iface t y)
 | nilIface:VR K .nilIface .nilIface
 | agg (xs ys:Array Value):xs.size=ys.size→(∀ (i:Nat) (x y:Value),xs[i]?=some x→ys[i]?=some y→VR K x y)→VR K (.agg xs) (.agg ys)
 | tuple (xs ys:Array Value):xs.size=ys.size→(∀ (i:Nat) (x y:Value),xs[i]?=some x→ys[i]?=some y→VR K x y)→VR K (.tuple xs) (.tuple ys)
structure AR (K:av)(xs ys:Array Value):Prop where
 size:xs.size=ys.size
 at_:∀ (i:Nat) (x y:Value),xs[i]?=some x→ys[i]?=some y→VR K x y
theorem VR.mono {K L:av}(h:K.le L){x y:Value}(r:VR K x y):VR L x y:=by
 induction r with
 | bool b=>exact .bool b
 | int k n=>exact .int k n
 | float k n=>exact .float k n
 | string s=>exact .string s
 | dU=>exact .dU
 | ptr a a' r=>exact .ptr a a' (r.mono h)
 | bX l c=>exact .bX l c
 | slice a a' l c r=>exact .slice a a' l c (r.mono h)
 | void a hv=>exact .void a fun q=>hv ((h.good _).2 q)
 | kg=>exact .kg
 | map r r' b=>exact .map r r' (h.b _ _ b)
 | ko=>exact .ko
 | chan r r' b=>exact .chan r r' (h.b _ _ b)
 | func fn xs ys us vs hf h1 _ h3 _ ih1 ih2=>exact .func fn xs ys us vs ((h.good _).1 hf) h1 ih1 h3 ih2
 | fE n xs ys us vs hf h1 _ h3 _ ih1 ih2=>exact .fE n xs ys us vs ((h.good _).1 hf) h1 ih1 h3 ih2
 | nilFunc=>exact .nilFunc
 | iface t x y _ ih=>exact .iface t x y ih
 | nilIface=>exact .nilIface
 | agg xs ys h1 _ ih=>exact .agg xs ys h1 ih
 | tuple xs ys h1 _ ih=>exact .tuple xs ys h1 ih
theorem AR.mono {K L:av}(h:K.le L){xs ys:Array Value}(r:AR K xs ys):AR L xs ys:=⟨r.size,fun i x y hx hy=>(r.at_ i x y hx hy).mono h⟩
theorem AR.get {K:av}{xs ys:Array Value}(r:AR K xs ys)(i:Nat):(xs[i]?=none∧ys[i]?=none)∨∃ x y,xs[i]?=some x∧ys[i]?=some y∧VR K x y:=by
 by_cases hi:i < xs.size
 ·have hj:i < ys.size:=r.size ▸ hi
  exact .inr ⟨xs[i],ys[i],Array.getElem?_eq_getElem hi,Array.getElem?_eq_getElem hj,r.at_ i _ _ (Array.getElem?_eq_getElem hi) (Array.getElem?_eq_getElem hj)⟩
 ·have hj:¬ i < ys.size:=r.size ▸ hi
  exact .inl ⟨Array.getElem?_eq_none ag,Array.getElem?_eq_none ag⟩
theorem AR.nil (K:av):AR K #[] #[]:=⟨rfl,fun i x y h=>by simp at h⟩
theorem AR.push {K:av}{xs ys:Array Value}(r:AR K xs ys){x y:Value}(h:VR K x y):AR K (xs.push x) (ys.push y):=by
 refine ⟨by simp [r.size],fun i a b ha hb=>?_⟩
 rw [Array.getElem?_push] at ha hb
 rw [r.size] at ha
 split at ha
 ·rename_i e
  rw [if_pos e] at hb
  cases ha;cases hb;exact h
 ·rename_i e
  rw [if_neg e] at hb
  exact r.at_ i a b ha hb
theorem AR.append {K:av}{xs ys us vs:Array Value}(r:AR K xs ys)(s:AR K us vs):AR K (xs ++ us) (ys ++ vs):=by
 refine ⟨by simp [r.size,s.size],fun i a b ha hb=>?_⟩
 rw [Array.getElem?_append] at ha hb
 rw [r.size] at ha
 split at ha
 ·rename_i e
  rw [if_pos e] at hb
  exact r.at_ i a b ha hb
 ·rename_i e
  rw [if_neg e] at hb
  exact s.at_ _ a b ha hb
theorem AR.extract {K:av}{xs ys:Array Value}(r:AR K xs ys)(i j:Nat):AR K (xs.extract i j) (ys.extract i j):=by
 refine ⟨by simp [r.size],fun k a b ha hb=>?_⟩
 rw [Array.getElem?_extract] at ha hb
 rw [r.size] at ha
 split at ha
 ·rename_i e
  rw [if_pos e] at hb
  exact r.at_ _ a b ha hb
 ·cases ha
theorem AR.set {K:av}{xs ys:Array Value}(r:AR K xs ys)(i:Nat){x y:Value}(h:VR K x y):AR K (xs.setIfInBounds i x) (ys.setIfInBounds i y):=by
 refine ⟨by simp [r.size],fun k a b ha hb=>?_⟩
 rw [Array.getElem?_setIfInBounds] at ha hb
 rw [r.size] at ha
 split at ha
 ·rename_i e
  rw [if_pos e] at hb
  split at ha
  ·rename_i e2
   rw [if_pos e2] at hb
   cases ha;cases hb;exact h
  ·cases ha
 ·rename_i e
  rw [if_neg e] at hb
  exact r.at_ _ a b ha hb
theorem AR.getD {K:av}{xs ys:Array Value}(r:AR K xs ys)(i:Nat){d d':Value}(h:VR K d d'):VR K (xs.getD i d) (ys.getD i d'):=by
 rcases r.get i with ⟨h1,h2⟩ | ⟨x,y,h1,h2,hr⟩
 ·simp only [Array.getD_eq_getD_getElem?,h1,h2,Option.getD_none];exact h
 ·simp only [Array.getD_eq_getD_getElem?,h1,h2,Option.getD_some];exact hr
theorem AR.one {K:av}{x y:Value}(h:VR K x y):AR K #[x] #[y]:=(AR.nil K).push h
theorem VR.cells {K:av}{x y:Value}(r:VR K x y):AR K x.cells y.cells:=by
 cases r with
 | agg xs ys h1 h2=>exact ⟨h1,h2⟩
 | bool b=>exact AR.one (.bool b)
 | int k n=>exact AR.one (.int k n)
 | float k n=>exact AR.one (.float k n)
 | string s=>exact AR.one (.string s)
 | dU=>exact AR.one .dU
 | ptr a a' r=>exact AR.one (.ptr a a' r)
 | bX l c=>exact AR.one (.bX l c)
 | void a hv=>exact AR.one (.void a hv)
 | slice a a' l c r=>exact AR.one (.slice a a' l c r)
 | kg=>exact AR.one .kg
 | map r r' b=>exact AR.one (.map r r' b)
 | ko=>exact AR.one .ko
 | chan r r' b=>exact AR.one (.chan r r' b)
 | func fn xs ys us vs hf h1 h2 h3 h4=>exact AR.one (.func fn xs ys us vs hf h1 h2 h3 h4)
 | fE n xs ys us vs hf h1 h2 h3 h4=>exact AR.one (.fE n xs ys us vs hf h1 h2 h3 h4)
 | nilFunc=>exact AR.one .nilFunc
 | iface t x y h=>exact AR.one (.iface t x y h)
 | nilIface=>exact AR.one .nilIface
 | tuple xs ys h1 h2=>exact AR.one (.tuple xs ys h1 h2)
inductive oH (K:av):Obj→Obj→Prop
 | cells (c c':Array Value) (e:TypeId) (fz:Nat×Nat):AR K c c'→oH K (.cells c e fz) (.cells c' e fz)
 | number (a a':Addr) (l:Bool):bA K a a'→oH K (.number a l) (.number a' l)
theorem oH.mono {K L:av}(h:K.le L){o o':Obj}(r:oH K o o'):oH L o o':=by
 cases r with
 | cells c c' e fz r=>exact .cells c c' e fz (r.mono h)
 | number a a' l r=>exact .number a a' l (r.mono h)
def fB:Obj:=.view ⟨0,0,some 0⟩ 0
structure aY (P:Program)(K:av)(v w:World):Prop where
 gQ:∀ x y x' y',K.b x y→K.b x' y'→(x=x'↔y=y')
 dom:∀ x y,K.b x y→x < v.heap.size∧y < w.heap.size
 mine:∀ x,K.own x→∃ y,K.b x y∧∃ o o',v.heap[x]?=some o∧w.heap[y]?=some o'∧oH K o o'
 off:∀ x y,K.b x y→¬ K.own x→v.heap[x]?=some fB
 base:∀ g,g < P.globals.size+5→K.b g g
 aX:∀ g,g < P.globals.size→∃ c e fz,w.heap[g]?=some (.cells c e fz)
 env:v.os.env=w.os.env
def Agree (v w:World):Prop:=∀ i q,v.tape (v.drawn+i) q=w.tape (w.drawn+i) q
structure pY (K L:av)(v v' w w':World):Prop where
 size:w.heap.size≤w'.heap.size
 still:∀ y,y < w.heap.size→(∀ x,K.own x→¬ K.b x y)→w'.heap[y]?=w.heap[y]?
 fresh:∀ x y,L.b x y→K.b x y∨(L.own x∧w.heap.size≤y)
 all:∀ y,w.heap.size≤y→y < w'.heap.size→∃ x,L.own x∧L.b x y
 tape:w'.tape=w.tape
 os:w'.os=w.os
 output:w'.output=w.output
 drawn:w.drawn≤w'.drawn
 qT:v'.tape=v.tape
 qU:v'.drawn+w.drawn=v.drawn+w'.drawn
 B5:v'.os=v.os
theorem pY.refl (K:av)(v w:World):pY K K v v w w:=⟨Nat.le_refl _,fun _ _ _=>rfl,fun _ _ h=>.inl h,fun _ h1 h2=>absurd h2 (Nat.not_lt.2 h1),rfl,rfl,rfl,Nat.le_refl _,rfl,rfl,rfl⟩
theorem pY.trans {K L M:av}{v v' v'' w w' w'':World}(hle:K.le L)(hle2:L.le M)(h:pY K L v v' w w')(k:pY L M v' v'' w' w''):pY K M v v'' w w'':=by
 refine ⟨Nat.le_trans h.size k.size,fun y hy hn=>?_,fun x y hb=>?_,fun y h1 h2=>?_,k.tape.trans h.tape,k.os.trans h.os,k.output.trans h.output,Nat.le_trans h.drawn k.drawn,k.qT.trans h.qT,?_,k.B5.trans h.B5⟩
 ·rw [k.still y (Nat.lt_of_lt_of_le hy h.size) fun x ho hb=>?_,h.still y hy hn]
  rcases h.fresh x y hb with z | ⟨_,z⟩
  ·exact hn x (hle.old x y z ho) z
  ·omega
 ·rcases k.fresh x y hb with z | ⟨z,z2⟩
  ·rcases h.fresh x y z with q | ⟨q,q2⟩
   ·exact .inl q
   ·exact .inr ⟨hle2.own x q,q2⟩
  ·exact .inr ⟨z,Nat.le_trans h.size z2⟩
 ·rcases Nat.lt_or_ge y w'.heap.size with z | z
  ·obtain ⟨x,ho,hb⟩:=h.all y h1 z
   exact ⟨x,hle2.own x ho,hle2.b x y hb⟩
  ·exact k.all y z h2
 ·have:=h.qU
  have:=k.qU
  omega
def qV (L:av)(e:Event):Prop :=
 match e.loc with
 | .cell a=>∃ x,L.own x∧L.b x a.block
 | .obj r=>∃ x,L.own x∧L.b x r
 | .mark (.extern _)=>True
 | .mark .noRoom=>True
 | .output=>True
 | _=>False
theorem qV.mono {K L:av}(h:K.le L){e:Event}(r:qV K e):qV L e:=by
 unfold qV at r ⊢
 split at r
 ·obtain ⟨x,h1,h2⟩:=r;exact ⟨x,h.own x h1,h.b _ _ h2⟩
 ·obtain ⟨x,h1,h2⟩:=r;exact ⟨x,h.own x h1,h.b _ _ h2⟩
 ·trivial
 ·trivial
 ·trivial
 ·exact r.elim
structure Then (P:Program)(K L:av)(v v' w w':World)(new:Array Event):Prop where
 le:K.le L
 fH:aY P L v' w'
 agree:Agree v' w'
 eX:pY K L v v' w w'
 evs:∀ e∈new,qV L e
def iP:Halt→Bool
 | .stuck _ | .blocked | .waiting | .exit _=>true
 | .unsupported u=>match u with | .initOrder _=>false | _=>true
 | _=>false
def dG (P:Program){α β:Type}(Q:av→α→β→Prop)(K:av)(v w:World)(es:Array Event)(r:Result α)(r':Result β×Array Event):Prop :=
 match r with
 | .ok a v'=>∃ L b w' new,r'=(.ok b w',es ++ new)∧Q L a b∧Then P K L v v' w w' new
 | .halt (.panic a) v'=>∃ L b w' new,r'=(.halt (.panic b) w',es ++ new)∧VR L a b∧Then P K L v v' w w' new
 | .halt h _=>iP h=true
def tp (τ:Nat→Question→Nat)(w:World):World:={ w with tape:=τ }
def Loc (P:Program){α:Type}(s:Sem α)(v:World):Prop :=
 match s.run P v with
 | .ok a v'=>∀ τ,(∀ i,i < v'.drawn→τ i=v.tape i)→s.run P (tp τ v)=.ok a (tp τ v')
 | .halt (.panic a) v'=>∀ τ,(∀ i,i < v'.drawn→τ i=v.tape i)→s.run P (tp τ v)=.halt (.panic a) (tp τ v')
 | .halt _ _=>True
def SR (P:Program){α β:Type}(Q:av→α→β→Prop)(K:av)(s:Sem α)(t:Sem β):Prop :=
 ∀ v w es,aY P K v w→Agree v w→dG P Q K v w es (s.run P v) (t.runT P w es)∧Loc P s v
theorem Loc.halt {P:Program}{α:Type}{s:Sem α}{v v':World}{h:Halt}(e:s.run P v=.halt h v')(hn:iP h=true):Loc P s v:=by
 unfold Loc
 rw [e]
 cases h <;> first | (cases hn;done) | trivial
theorem Loc.congr {P:Program}{α:Type}{s s':Sem α}(h:∀ u,s.run P u=s'.run P u){v:World}(k:Loc P s' v):Loc P s v:=by
 unfold Loc at k ⊢
 rw [h]
 split at k
 ·intro τ hτ;rw [h];exact k τ hτ
 ·intro τ hτ;rw [h];exact k τ hτ
 ·trivial
theorem Loc.free {P:Program}{α:Type}{s:Sem α}{v:World}(h1:∀ τ a v',s.run P v=.ok a v'→s.run P (tp τ v)=.ok a (tp τ v'))(h2:∀ τ a v',s.run P v=.halt (.panic a) v'→s.run P (tp τ v)=.halt (.panic a) (tp τ v')):Loc P s v:=by
 unfold Loc
 split
 ·rename_i e;exact fun τ _=>h1 τ _ _ e
 ·rename_i e;exact fun τ _=>h2 τ _ _ e
 ·trivial
theorem runT_bind {α β:Type}(p:Program)(s:Sem α)(f:α→Sem β)(w:World)(es:Array Event) :
  (s.bind f).runT p w es=match s.runT p w es with
   | (.ok a w',es')=>(f a).runT p w' es'
   | (.halt h w',es')=>(.halt h w',es'):=by
 induction s generalizing w es with
 | pure a=>simp only [Sem.bind,Sem.runT]
 | load m a k ih=>simp only [Sem.bind,Sem.runT];(repeat' split) <;> simp_all [-Sem.runT_eq]
 | store m a v k ih=>cases v <;> simp only [Sem.bind,Sem.runT] <;> (try ((repeat' split) <;> simp_all [-Sem.runT_eq]))
 | new o k ih=>simp only [Sem.bind,Sem.runT,ih]
 | shape r k ih=>simp only [Sem.bind,Sem.runT,ih]
 | freeze a n k ih=>simp only [Sem.bind,Sem.runT,ih]
 | frozen a k ih=>simp only [Sem.bind,Sem.runT,ih]
 | getObj r k ih=>simp only [Sem.bind,Sem.runT];(repeat' split) <;> simp_all [-Sem.runT_eq]
 | setObj r o k ih=>simp only [Sem.bind,Sem.runT];(repeat' split) <;> simp_all [-Sem.runT_eq]
 | choose q k ih=>simp only [Sem.bind,Sem.runT];(repeat' split) <;> simp_all [-Sem.runT_eq]
 | sys c k ih=>simp only [Sem.bind,Sem.runT,ih]
 | program k ih=>simp only [Sem.bind,Sem.runT,ih]
 | mark m k ih=>simp only [Sem.bind,Sem.runT,ih]
 | halt h=>simp only [Sem.bind,Sem.runT]
theorem run_bind' {α β:Type}(p:Program)(s:Sem α)(f:α→Sem β)(w:World) :
  (s.bind f).run p w=match s.run p w with
   | .ok a w'=>(f a).run p w'
   | .halt h w'=>.halt h w':=by
 have h:=runT_bind p s f w #[]
 have h1:=Sem.runT_fst p (s.bind f) w #[]
 rw [h] at h1
 rw [← h1]
 have h2:=Sem.runT_fst p s w #[]
 cases hs:s.runT p w #[] with
 | mk r es =>
  rw [hs] at h2
  simp only at h2
  rw [← h2]
  cases r with
  | ok a w'=>exact Sem.runT_fst p (f a) w' es
  | halt q w'=>rfl
theorem Then.trans {P:Program}{K L M:av}{v v' v'' w w' w'':World}{new new':Array Event}(h:Then P K L v v' w w' new)(k:Then P L M v' v'' w' w'' new'):Then P K M v v'' w w'' (new ++ new') :=
 ⟨h.le.trans k.le,k.fH,k.agree,h.eX.trans h.le k.le k.eX,fun e he=>(Array.mem_append.1 he).elim (fun z=>(h.evs e z).mono k.le) (k.evs e)⟩
theorem Then.refl {P:Program}{K:av}{v w:World}(h:aY P K v w)(a:Agree v w):Then P K K v v w w #[] :=
 ⟨.refl K,h,a,.refl K v w,fun e he=>by simp at he⟩
theorem SR.bind' {P:Program}{α β γ δ:Type}{Q:av→α→β→Prop}{R:av→γ→δ→Prop}{K:av}{s:Sem α}{t:Sem β}{f:α→Sem γ}{g:β→Sem δ}
  (h:SR P Q K s t)(hf:∀ L a b,K.le L→Q L a b→SR P R L (f a) (g b)):SR P R K (s.bind f) (t.bind g):=by
 intro v w es hs ha
 obtain ⟨h1,hl⟩:=h v w es hs ha
 unfold Loc at hl ⊢
 rw [run_bind',runT_bind]
 unfold dG at h1
 split at h1
 ·rename_i a v' e
  obtain ⟨L,b,w',new,e',hq,ht⟩:=h1
  simp only [e] at hl
  simp only [e,e']
  obtain ⟨h2,hl2⟩:=hf L a b ht.le hq v' w' (es ++ new) ht.fH ht.agree
  unfold Loc at hl2
  unfold dG at h2 ⊢
  split at h2
  ·rename_i c v'' e2
   obtain ⟨M,d,w'',new',e2',hr,ht'⟩:=h2
   simp only [e2] at hl2
   simp only [e2,e2']
   refine ⟨⟨M,d,w'',new ++ new',by rw [Array.append_assoc],hr,ht.trans ht'⟩,fun τ hτ=>?_⟩
   have hd:v'.drawn≤v''.drawn:=by have:=ht'.eX.qU;have:=ht'.eX.drawn;omega
   rw [run_bind',hl τ fun i hi=>hτ i (Nat.lt_of_lt_of_le hi hd)]
   exact hl2 τ fun i hi=>by rw [ht.eX.qT];exact hτ i hi
  ·rename_i c v'' e2
   obtain ⟨M,d,w'',new',e2',hr,ht'⟩:=h2
   simp only [e2] at hl2
   simp only [e2,e2']
   refine ⟨⟨M,d,w'',new ++ new',by rw [Array.append_assoc],hr,ht.trans ht'⟩,fun τ hτ=>?_⟩
   have hd:v'.drawn≤v''.drawn:=by have:=ht'.eX.qU;have:=ht'.eX.drawn;omega
   rw [run_bind',hl τ fun i hi=>hτ i (Nat.lt_of_lt_of_le hi hd)]
   exact hl2 τ fun i hi=>by rw [ht.eX.qT];exact hτ i hi
  ·rename_i hq v'' hn e2
   simp only [e2]
   exact ⟨h2,trivial⟩
 ·rename_i a v' e
  obtain ⟨L,b,w',new,e',hq,ht⟩:=h1
  simp only [e] at hl
  simp only [e,e']
  refine ⟨⟨L,b,w',new,rfl,hq,ht⟩,fun τ hτ=>?_⟩
  rw [run_bind',hl τ hτ]
 ·rename_i hq v' hn e
  simp only [e]
  refine ⟨?_,?_⟩
  ·unfold dG
   split
   ·rename_i h3;cases h3
   ·rename_i h3;cases h3;exact absurd rfl (hn _)
   ·rename_i h3;cases h3;exact h1
  ·trivial
theorem SR.bind {P:Program}{α β γ δ:Type}{Q:av→α→β→Prop}{R:av→γ→δ→Prop}{K:av}{s:Sem α}{t:Sem β}{f:α→Sem γ}{g:β→Sem δ}
  (h:SR P Q K s t)(hf:∀ L a b,K.le L→Q L a b→SR P R L (f a) (g b)):SR P R K (s >>= f) (t >>= g):=SR.bind' h hf
theorem SR.pure' {P:Program}{α β:Type}{Q:av→α→β→Prop}{K:av}{a:α}{b:β}(h:Q K a b):SR P Q K (.pure a) (.pure b):=by
 intro v w es hs ha
 exact ⟨⟨K,b,w,#[],by simp only [Sem.runT,Array.append_empty],h,.refl hs ha⟩,fun _ _=>rfl⟩
theorem SR.pure {P:Program}{α β:Type}{Q:av→α→β→Prop}{K:av}{a:α}{b:β}(h:Q K a b):SR P Q K (Pure.pure a) (Pure.pure b):=SR.pure' h
theorem SR.mono {P:Program}{α β:Type}{Q R:av→α→β→Prop}{K:av}{s:Sem α}{t:Sem β}(h:SR P Q K s t)(hq:∀ L a b,K.le L→Q L a b→R L a b):SR P R K s t:=by
 intro v w es hs ha
 obtain ⟨h1,hl⟩:=h v w es hs ha
 refine ⟨?_,hl⟩
 unfold dG at h1 ⊢
 split at h1
 ·obtain ⟨L,b,w',new,e',hr,ht⟩:=h1
  exact ⟨L,b,w',new,e',hq L _ _ ht.le hr,ht⟩
 ·obtain ⟨L,b,w',new,e',hr,ht⟩:=h1
  exact ⟨L,b,w',new,e',hr,ht⟩
 ·exact h1
theorem dG.stop {P:Program}{α β:Type}{Q:av→α→β→Prop}{K:av}{v w v':World}{es:Array Event}{h:Halt}{r':Result β×Array Event}(hn:iP h=true) :
  dG P (α:=α) Q K v w es (.halt h v') r':=by
 unfold dG
 split
 ·rename_i h3;cases h3
 ·rename_i h3;cases h3;cases hn
 ·rename_i h3;cases h3;exact hn
theorem SR.stop {P:Program}{α β:Type}{Q:av→α→β→Prop}{K:av}{h:Halt}{t:Sem β}(hn:iP h=true):SR P Q K (α:=α) (.halt h) t:=fun _ _ _ _ _=>⟨dG.stop hn,Loc.halt rfl hn⟩
theorem SR.stuck {P:Program}{α β:Type}{Q:av→α→β→Prop}{K:av}{s:String}{t:Sem β}:SR P Q K (α:=α) (Go.stuck s) t:=SR.stop rfl
theorem SR.unsupported {P:Program}{α β:Type}{Q:av→α→β→Prop}{K:av}{u:Unsupported}{t:Sem β}(hu:iP (.unsupported u)=true:=by rfl):SR P Q K (α:=α) (Go.unsupported u) t:=SR.stop hu
theorem SR.goPanic {P:Program}{α β:Type}{Q:av→α→β→Prop}{K:av}{x y:Value}(h:VR K x y):SR P Q K (α:=α) (β:=β) (Go.goPanic x) (Go.goPanic y):=by
 intro v w es hs ha
 exact ⟨⟨K,y,w,#[],by simp only [Go.goPanic,Sem.runT,Array.append_empty],h,.refl hs ha⟩,fun _ _=>rfl⟩
theorem SR.choose {P:Program}{K:av}(q:Question):SR P (fun _ a b=>a=b) K (Go.choose q) (Go.choose q):=by
 intro v w es hs ha
 have h0:=ha 0 q
 simp only [Nat.add_zero] at h0
 unfold Loc
 simp only [Go.choose,Sem.run,Sem.runT]
 by_cases hq:q.forced=true
 ·simp only [hq,if_true]
  exact ⟨⟨K,0,w,#[],ah,rfl,.refl hs ha⟩,fun _ _=>by simp⟩
 ·simp only [hq,Bool.false_eq_true,if_false]
  refine ⟨⟨K,q.cut (w.tape w.drawn q),{ w with drawn:=w.drawn+1 },#[],ah,by simp [h0],.refl K,⟨hs.gQ,hs.dom,hs.mine,hs.off,hs.base,hs.aX,hs.env⟩,fun i r=>?_,⟨Nat.le_refl _,fun _ _ _=>rfl,fun _ _ h=>.inl h,fun _ h1 h2=>absurd h2 (Nat.not_lt.2 h1),rfl,rfl,rfl,Nat.le_succ _,rfl,?_,rfl⟩,fun e he=>by simp at he⟩,fun τ hτ=>?_⟩
  ·have:=ha (1+i) r
   simpa [Nat.add_assoc] using this
  ·simp only;omega
  ·have:τ v.drawn=v.tape v.drawn:=hτ v.drawn (Nat.lt_succ_self _)
   simp only [tp,this]
theorem SR.env {P:Program}{K:av}:SR P (fun _ a b=>a=b∧∃ l,a=.strings l) K (Go.sys .env) (Go.sys .env):=by
 intro v w es hs ha
 refine ⟨⟨K,.strings w.os.env,w,#[⟨.output,true,false⟩],?_,⟨congrArg SysRet.strings hs.env,_,rfl⟩,.refl K,hs,ha,.refl K v w,fun e he=>?_⟩,fun _ _=>rfl⟩
 ·show (Go.sys .env).runT P w es=_
  simp only [Go.sys,Sem.runT,Array.push_eq_append]
  rfl
 ·simp only [List.mem_toArray,List.mem_cons,List.not_mem_nil,or_false] at he
  subst he
  trivial
theorem SR.Jc {P:Program}{K:av}(f:FuncId):SR P (fun _ _ _=>True) K (Go.mark (.extern f)) (Go.mark (.extern f)):=by
 intro v w es hs ha
 refine ⟨⟨K,(),w,#[⟨.mark (.extern f),false,true⟩],by simp only [Go.mark,Sem.runT,Array.push_eq_append],trivial,.refl K,hs,ha,.refl K v w,fun e he=>?_⟩,fun _ _=>rfl⟩
 simp only [List.mem_toArray,List.mem_cons,List.not_mem_nil,or_false] at he
 subst he
 trivial
theorem SR.Jd {P:Program}{K:av}:SR P (fun _ _ _=>True) K (Go.mark .noRoom) (Go.mark .noRoom):=by
 intro v w es hs ha
 refine ⟨⟨K,(),w,#[⟨.mark .noRoom,false,true⟩],by simp only [Go.mark,Sem.runT,Array.push_eq_append],trivial,.refl K,hs,ha,.refl K v w,fun e he=>?_⟩,fun _ _=>rfl⟩
 simp only [List.mem_toArray,List.mem_cons,List.not_mem_nil,or_false] at he
 subst he
 trivial
theorem uk {P:Program}{v:World}{a:Addr}{m:Bool}(hn:∀ x t,v.heap[a.block]?=some (.view x t)→x.spot.isSome=true)(hp:∀ c e,v.heap[a.block]?≠some (.pending c e)):∃ h,v.farLoad P a m=.error h∧iP h=true:=by
 unfold World.farLoad
 split
 ·rename_i x t e
  have h:=hn x t e
  have:v.viewLoad P x t a m=.error "memory seen as another type: a place without cells":=by
   simp only [World.viewLoad,World.seen,h,Bool.or_true,if_true]
   rfl
  rw [this]
  exact ⟨_,rfl,rfl⟩
 ·refine ⟨_,rfl,?_⟩
  unfold World.noCell
  split
  ·rename_i z;exact absurd z (hp _ _)
  ·rfl
  ·rfl
theorem wI {P:Program}{v:World}{a:Addr}{y:Value}{m:Bool}(hn:∀ x t,v.heap[a.block]?=some (.view x t)→x.spot.isSome=true)(hp:∀ c e,v.heap[a.block]?≠some (.pending c e)):∃ h,v.farStore P a y m=.error h∧iP h=true:=by
 unfold World.farStore
 split
 ·rename_i x t e
  have h:=hn x t e
  have:∃ q,v.viewStore P x t a y m=.error q:=by
   simp only [World.viewStore,World.seen,h,Bool.or_true,if_true]
   split
   ·exact ⟨_,rfl⟩
   ·exact ⟨_,rfl⟩
  obtain ⟨q,hq⟩:=this
  rw [hq]
  exact ⟨_,rfl,rfl⟩
 ·refine ⟨_,rfl,?_⟩
  unfold World.noCell
  split
  ·rename_i z;exact absurd z (hp _ _)
  ·rfl
  ·rfl
theorem wJ {v:World}{a:Addr}{c:Array Value}{e:TypeId}{fz:Nat×Nat}(h:v.heap[a.block]?=some (.cells c e fz)):v.cell? a=if a.spot.isSome then none else c[a.off]?:=by
 simp [World.cell?,h]
theorem aY.at_ {P:Program}{K:av}{v w:World}(hs:aY P K v w){x y:Nat}(ho:K.own x)(hb:K.b x y):∃ o o',v.heap[x]?=some o∧w.heap[y]?=some o'∧oH K o o':=by
 obtain ⟨z,hz,o,o',h1,h2,h3⟩:=hs.mine x ho
 obtain rfl:z=y:=(hs.gQ x z x y hz hb).1 rfl
 exact ⟨o,o',h1,h2,h3⟩
theorem aY.put {P:Program}{K:av}{v w v' w':World}(hs:aY P K v w){x0 y0:Nat}(ho:K.own x0)(hb:K.b x0 y0){c0 c0':Array Value}{e0:TypeId}{B6:Nat×Nat}(hr:AR K c0 c0')
  (hv:v'.heap.size=v.heap.size)(hv0:v'.heap[x0]?=some (.cells c0 e0 B6))(hv1:∀ x:Nat,x≠x0→v'.heap[x]?=v.heap[x]?)
  (hw:w'.heap.size=w.heap.size)(hw0:w'.heap[y0]?=some (.cells c0' e0 B6))(hw1:∀ y:Nat,y≠y0→w'.heap[y]?=w.heap[y]?)(Je:v'.os=v.os)(hwo:w'.os=w.os):aY P K v' w':=by
 refine ⟨hs.gQ,fun x y h=>by rw [hv,hw];exact hs.dom x y h,fun x hx=>?_,fun x y h hx=>?_,hs.base,fun g hg=>?_,by rw [Je,hwo];exact hs.env⟩
 ·by_cases e:x=x0
  ·subst e;exact ⟨y0,hb,_,_,hv0,hw0,.cells _ _ _ _ hr⟩
  ·obtain ⟨y,hy,p,p',h1,h2,h3⟩:=hs.mine x hx
   have hne:y≠y0:=fun z=>e ((hs.gQ x y x0 y0 hy hb).2 z)
   exact ⟨y,hy,p,p',by rw [hv1 x e];exact h1,by rw [hw1 y hne];exact h2,h3⟩
 ·have e:x≠x0:=fun z=>hx (z ▸ ho)
  rw [hv1 x e]
  exact hs.off x y h hx
 ·by_cases e:g=y0
  ·subst e;exact ⟨_,_,_,hw0⟩
  ·rw [hw1 g e];exact hs.aX g hg
theorem Ca {P:Program}{a:Addr}{m:Mode}(v:World)(τ:Nat→Question→Nat):(∀ x u,(Go.load a m).run P v=.ok x u→(Go.load a m).run P (tp τ v)=.ok x (tp τ u))∧∀ x u,(Go.load a m).run P v=.halt (.panic x) u→(Go.load a m).run P (tp τ v)=.halt (.panic x) (tp τ u):=by
 have h1:(tp τ v).cell? a=v.cell? a:=rfl
 have h2:(tp τ v).farLoad P a (m == .atomic)=v.farLoad P a (m == .atomic):=rfl
 simp only [Go.load,Sem.run,h1,h2]
 cases v.cell? a with
 | some y=>exact ⟨fun x u e=>by cases e;rfl,fun x u e=>by cases e⟩
 | none =>
  cases v.farLoad P a (m == .atomic) with
  | ok p=>exact ⟨fun x u e=>by cases e;rfl,fun x u e=>by cases e⟩
  | error q=>exact ⟨fun x u e=>(by cases e),fun x u e=>by cases e;rfl⟩
theorem SR.load {P:Program}{K:av}{a a':Addr}(m:Mode)(h:bA K a a'):SR P VR K (Go.load a m) (Go.load a' m):=by
 intro v w es hs ha
 refine ⟨?_,Loc.free (fun τ=>(Ca v τ).1) fun τ=>(Ca v τ).2⟩
 simp only [Go.load,Sem.run,Sem.runT]
 by_cases ho:K.own a.block
 ·obtain ⟨o,o',h1,h2,hr⟩:=hs.at_ ho h.block
  cases hr with
  | cells c c' e fz r =>
   rw [wJ h1,wJ h2,← h.spot,← h.off]
   by_cases hsp:a.spot.isSome
   ·simp only [hsp,if_true]
    obtain ⟨q,e1,e2⟩:=uk (P:=P) (v:=v) (a:=a) (m:=(m == .atomic)) (fun x t z=>by rw [h1] at z;cases z <;> rfl) (fun x t z=>by rw [h1] at z;cases z)
    rw [e1]
    exact dG.stop e2
   ·simp only [hsp]
    rcases r.get a.off with ⟨g1,_⟩ | ⟨x,y,g1,g2,gr⟩
    ·obtain ⟨q,e1,e2⟩:=uk (P:=P) (v:=v) (a:=a) (m:=(m == .atomic)) (fun x t z=>by rw [h1] at z;cases z <;> rfl) (fun x t z=>by rw [h1] at z;cases z)
     simp only [g1,e1]
     exact dG.stop e2
    ·simp only [g1,g2]
     refine ⟨K,y,w,#[⟨.cell a',false,m == .atomic⟩],?_,gr,.refl K,hs,ha,.refl K v w,fun e he=>?_⟩
     ·simp only [Bool.false_eq_true,if_false,Array.push_eq_append]
     ·simp only [List.mem_toArray,List.mem_cons,List.not_mem_nil,or_false] at he
      subst he
      exact ⟨a.block,ho,h.block⟩
  | number p p' l r =>
   have hc:v.cell? a=none:=by simp [World.cell?,h1]
   obtain ⟨q,e1,e2⟩:=uk (P:=P) (v:=v) (a:=a) (m:=(m == .atomic)) (fun x t z=>by rw [h1] at z;cases z <;> rfl) (fun x t z=>by rw [h1] at z;cases z)
   simp only [hc,e1]
   exact dG.stop e2
 ·have h1:=hs.off _ _ h.block ho
  have hc:v.cell? a=none:=by simp [World.cell?,h1,fB]
  obtain ⟨q,e1,e2⟩:=uk (P:=P) (v:=v) (a:=a) (m:=(m == .atomic)) (fun x t z=>by rw [h1] at z;cases z <;> rfl) (fun x t z=>by rw [h1] at z;cases z)
  simp only [hc,e1]
  exact dG.stop e2
def Value.one:Value→Bool
 | .agg _ | .tuple _=>false
 | _=>true
theorem VR.one {K:av}{x y:Value}(r:VR K x y):Value.one x=Value.one y:=by cases r <;> rfl
theorem yS {P:Program}{m:Mode}{a:Addr}{x:Value}(hx:Value.one x=true)(v:World) :
  (Go.store a x m).run P v=match v.cell? a with
   | some _=>if v.frozen? a then .halt (.unsupported (.unsafePointer "a write to bytes that a string shares")) v else .ok () (v.setCell a x)
   | none=>match v.farStore P a x (m == .atomic) with
    | .ok (w,_)=>.ok () w
    | .error h=>.halt h v:=by
 cases x <;> first | rfl | (cases hx)
theorem Jf {P:Program}{m:Mode}{a:Addr}{x:Value}(hx:Value.one x=true)(w:World)(es:Array Event) :
  (Go.store a x m).runT P w es=match w.cell? a with
   | some _=>if w.frozen? a then (.halt (.unsupported (.unsafePointer "a write to bytes that a string shares")) w,es) else (.ok () (w.setCell a x),es.push ⟨.cell a,true,m == .atomic⟩)
   | none=>match w.farStore P a x (m == .atomic) with
    | .ok (w,touched)=>(.ok () w,es ++ touched.toArray.map (⟨.cell ·,true,m == .atomic⟩))
    | .error h=>(.halt h w,es):=by
 cases x <;> first | rfl | (cases hx)
theorem yT {P:Program}{m:Mode}{a:Addr}{x:Value}(hx:Value.one x=false)(v:World):(Go.store a x m).run P v=.halt (.stuck "store: not the value of one cell") v:=by
 cases x <;> first | rfl | (cases hx)
theorem Cb {P:Program}{a:Addr}{y:Value}{m:Mode}(v:World)(τ:Nat→Question→Nat):(∀ x u,(Go.store a y m).run P v=.ok x u→(Go.store a y m).run P (tp τ v)=.ok x (tp τ u))∧∀ x u,(Go.store a y m).run P v=.halt (.panic x) u→(Go.store a y m).run P (tp τ v)=.halt (.panic x) (tp τ u):=by
 by_cases h0:Value.one y=true
 ·have h1:(tp τ v).cell? a=v.cell? a:=rfl
  have h3:(tp τ v).frozen? a=v.frozen? a:=rfl
  rw [yS h0,yS h0,h1,h3]
  cases v.cell? a with
  | some z =>
   dsimp only
   split
   ·exact ⟨fun x u e=>(by cases e),fun x u e=>(by cases e)⟩
   ·exact ⟨fun x u e=>by cases e;rfl,fun x u e=>by cases e⟩
  | none =>
   have h2:(tp τ v).farStore P a y (m == .atomic)=match v.farStore P a y (m == .atomic) with
    | .ok (u,l)=>.ok (tp τ u,l)
    | .error q=>.error q:=by
    unfold World.farStore
    have e0:(tp τ v).heap=v.heap:=rfl
    rw [e0]
    split
    ·rename_i at_ t _
     have e1:(tp τ v).viewStore P at_ t a y (m == .atomic)=match v.viewStore P at_ t a y (m == .atomic) with
      | .ok (u,l)=>.ok (tp τ u,l)
      | .error q=>.error q:=by
      unfold World.viewStore
      have e2:(tp τ v).seen P at_ t a (m == .atomic)=v.seen P at_ t a (m == .atomic):=rfl
      rw [e2]
      cases (tight P P.depth t) with
      | false=>rfl
      | true =>
       cases v.seen P at_ t a (m == .atomic) with
       | error q=>rfl
       | ok p =>
        obtain ⟨c,e,fz,first,like,cells⟩:=p
        simp only [Bool.not_true,Bool.false_eq_true,if_false,Bind.bind,Except.bind,Pure.pure,Except.pure]
        cases y.bytes? with
        | none=>rfl
        | some bs =>
         dsimp only
         split
         ·rfl
         ·split <;> rfl
     rw [e1]
     cases v.viewStore P at_ t a y (m == .atomic) with
     | error q=>rfl
     | ok p=>rfl
    ·rfl
   rw [h2]
   cases v.farStore P a y (m == .atomic) with
   | ok p=>exact ⟨fun x u e=>by cases e;rfl,fun x u e=>by cases e⟩
   | error q=>exact ⟨fun x u e=>(by cases e),fun x u e=>by cases e;rfl⟩
 ·rw [yT (by simpa using h0),yT (by simpa using h0)]
  exact ⟨fun x u e=>(by cases e),fun x u e=>(by cases e)⟩
theorem setCell_at {w:World}{a:Addr}{c:Array Value}{e:TypeId}{fz:Nat×Nat}{x:Value}(h:w.heap[a.block]?=some (.cells c e fz))(hsp:a.spot.isSome=false) :
  (w.setCell a x).heap.size=w.heap.size∧(w.setCell a x).heap[a.block]?=some (.cells (c.setIfInBounds a.off x) e fz)∧∀ y:Nat,y≠a.block→(w.setCell a x).heap[y]?=w.heap[y]?:=by
 refine ⟨by simp [World.setCell],?_,fun y hy=>?_⟩
 ·simp [World.setCell,Array.getElem?_modify,h,hsp]
 ·simp only [World.setCell,Array.getElem?_modify]
  rw [if_neg (fun z=>hy z.symm)]
theorem SR.store {P:Program}{K:av}{a a':Addr}{x x':Value}(m:Mode)(h:bA K a a')(hx:VR K x x'):SR P (fun _ _ _=>True) K (Go.store a x m) (Go.store a' x' m):=by
 intro v w es hs ha
 refine ⟨?_,Loc.free (fun τ=>(Cb v τ).1) fun τ=>(Cb v τ).2⟩
 by_cases h1:Value.one x=true
 ·have h1':Value.one x'=true:=hx.one ▸ h1
  rw [yS h1,Jf h1']
  by_cases ho:K.own a.block
  ·obtain ⟨o,o',e1,e2,hr⟩:=hs.at_ ho h.block
   cases hr with
   | cells c c' e fz r =>
    have hfz:v.frozen? a=w.frozen? a':=by simp [World.frozen?,e1,e2,h.off]
    rw [wJ e1,wJ e2,← h.spot,← h.off,hfz]
    by_cases hsp:a.spot.isSome
    ·simp only [hsp,if_true]
     obtain ⟨q,z1,z2⟩:=wI (P:=P) (v:=v) (a:=a) (y:=x) (m:=(m == .atomic)) (fun x t z=>by rw [e1] at z;cases z <;> rfl) (fun x t z=>by rw [e1] at z;cases z)
     rw [z1]
     exact dG.stop z2
    ·rcases r.get a.off with ⟨g1,_⟩ | ⟨p,p',g1,g2,gr⟩
     ·obtain ⟨q,z1,z2⟩:=wI (P:=P) (v:=v) (a:=a) (y:=x) (m:=(m == .atomic)) (fun x t z=>by rw [e1] at z;cases z <;> rfl) (fun x t z=>by rw [e1] at z;cases z)
      simp only [hsp,Bool.false_eq_true,if_false,g1,z1]
      exact dG.stop z2
     ·simp only [hsp,Bool.false_eq_true,if_false,g1,g2]
      by_cases hf:w.frozen? a'=true
      ·simp only [hf,if_true]
       exact dG.stop rfl
      ·simp only [hf,Bool.false_eq_true,if_false]
       have wK:a.spot.isSome=false:=by simpa using hsp
       have hsp1:a'.spot.isSome=false:=by rw [← h.spot];exact wK
       obtain ⟨v1,v2,v3⟩:=setCell_at (x:=x) e1 wK
       obtain ⟨w1,w2,w3⟩:=setCell_at (x:=x') e2 hsp1
       refine ⟨K,(),w.setCell a' x',#[⟨.cell a',true,m == .atomic⟩],by simp only [Array.push_eq_append],trivial,.refl K,
        hs.put ho h.block (by rw [← h.off];exact r.set a.off hx) v1 v2 v3 w1 w2 w3 rfl rfl,ha,
        ⟨by rw [w1];exact Nat.le_refl _,fun y _ hn=>w3 y fun z=>hn a.block ho (z ▸ h.block),fun _ _ z=>.inl z,fun y z1 z2=>absurd z2 (by rw [w1];omega),rfl,rfl,rfl,Nat.le_refl _,rfl,rfl,rfl⟩,fun e he=>?_⟩
       simp only [List.mem_toArray,List.mem_cons,List.not_mem_nil,or_false] at he
       subst he
       exact ⟨a.block,ho,h.block⟩
   | number p p' l r =>
    have hc:v.cell? a=none:=by simp [World.cell?,e1]
    obtain ⟨q,z1,z2⟩:=wI (P:=P) (v:=v) (a:=a) (y:=x) (m:=(m == .atomic)) (fun x t z=>by rw [e1] at z;cases z <;> rfl) (fun x t z=>by rw [e1] at z;cases z)
    simp only [hc,z1]
    exact dG.stop z2
  ·have e1:=hs.off _ _ h.block ho
   have hc:v.cell? a=none:=by simp [World.cell?,e1,fB]
   obtain ⟨q,z1,z2⟩:=wI (P:=P) (v:=v) (a:=a) (y:=x) (m:=(m == .atomic)) (fun x t z=>by rw [e1] at z;cases z <;> rfl) (fun x t z=>by rw [e1] at z;cases z)
   simp only [hc,z1]
   exact dG.stop z2
 ·rw [yT (by simpa using h1)]
  exact dG.stop rfl
theorem SR.newObj {P:Program}{K:av}{o o':Obj}(h:oH K o o'):SR P (fun L r r'=>L.own r∧L.b r r') K (Go.newObj o) (Go.newObj o'):=by
 intro v w es hs ha
 let L:av:=⟨fun x y=>K.b x y∨(x=v.heap.size∧y=w.heap.size),fun x=>K.own x∨x=v.heap.size,K.good⟩
 refine ⟨?_,fun _ _=>rfl⟩
 have hle:K.le L:=⟨fun _ _ z=>.inl z,fun _ z=>.inl z,fun x y hb z=>z.elim id fun e=>absurd (hs.dom x y hb).1 ag,fun _=>Iff.rfl⟩
 simp only [Go.newObj,Sem.run,Sem.runT]
 have hv:∀ x:Nat,x < v.heap.size→(v.heap.push o)[x]?=v.heap[x]?:=fun x hx=>by rw [Array.getElem?_push,if_neg ag]
 have hw:∀ x:Nat,x < w.heap.size→(w.heap.push o')[x]?=w.heap[x]?:=fun x hx=>by rw [Array.getElem?_push,if_neg ag]
 refine ⟨L,w.heap.size,{ w with heap:=w.heap.push o' },#[],by simp only [Array.append_empty],⟨.inr rfl,.inr ⟨rfl,rfl⟩⟩,hle,⟨?_,?_,?_,?_,fun g hg=>.inl (hs.base g hg),fun g hg=>by obtain ⟨c,e,fz,h1⟩:=hs.aX g hg;exact ⟨c,e,fz,by simp only [hw g (hs.dom g g (hs.base g ag)).2];exact h1⟩,hs.env⟩,ha,⟨ah,fun y hy _=>hw y hy,?_,fun y z1 z2=>⟨v.heap.size,.inr rfl,.inr ⟨rfl,by simp only [Array.size_push] at z2;omega⟩⟩,rfl,rfl,rfl,Nat.le_refl _,rfl,rfl,rfl⟩,fun e he=>by simp at he⟩
 ·rintro x y x' y' (h1 | ⟨rfl,rfl⟩) (h2 | ⟨rfl,rfl⟩)
  ·exact hs.gQ x y x' y' h1 h2
  ·have:=hs.dom _ _ h1;exact ⟨fun e=>by omega,fun e=>by omega⟩
  ·have:=hs.dom _ _ h2;exact ⟨fun e=>by omega,fun e=>by omega⟩
  ·exact ⟨fun _=>rfl,fun _=>rfl⟩
 ·rintro x y (h1 | ⟨rfl,rfl⟩)
  ·have:=hs.dom _ _ h1;simp only [Array.size_push];omega
  ·simp only [Array.size_push];omega
 ·intro x hx
  by_cases e:x=v.heap.size
  ·subst e
   exact ⟨w.heap.size,.inr ⟨rfl,rfl⟩,o,o',ah,by simp,h.mono hle⟩
  ·have hk:K.own x:=hx.elim id fun z=>absurd z e
   obtain ⟨y,hb,p,p',h1,h2,h3⟩:=hs.mine x hk
   have hd:=hs.dom x y hb
   exact ⟨y,.inl hb,p,p',by simp only [hv x hd.1];exact h1,by simp only [hw y hd.2];exact h2,h3.mono hle⟩
 ·rintro x y (h1 | ⟨rfl,rfl⟩) hn
  ·have hd:=hs.dom x y h1
   simp only [hv x hd.1]
   exact hs.off x y h1 fun z=>hn (.inl z)
  ·exact absurd (.inr rfl) hn
 ·rintro x y (h1 | ⟨rfl,rfl⟩)
  ·exact .inl h1
  ·exact .inr ⟨.inr rfl,Nat.le_refl _⟩
theorem SR.getObj {P:Program}{β γ:Type}{Q:av→β→γ→Prop}{K:av}{r r':Nat}(h:K.b r r'){f:Obj→Sem β}{g:Obj→Sem γ}
  (hown:K.own r→∀ a a' l,bA K a a'→SR P Q K (f (.number a l)) (g (.number a' l)))(hoff:¬ K.own r→∀ v,∃ h v',(f fB).run P v=.halt h v'∧iP h=true):SR P Q K (Go.getObj r >>= f) (Go.getObj r' >>= g):=by
 intro v w es hs ha
 show dG P Q K v w es (((Go.getObj r).bind f).run P v) (((Go.getObj r').bind g).runT P w es)∧Loc P ((Go.getObj r).bind f) v
 by_cases ho:K.own r
 ·obtain ⟨o,o',e1,e2,hr⟩:=hs.at_ ho h
  cases hr with
  | cells c c' e fz rr =>
   have e3:((Go.getObj r).bind f).run P v=.halt (.stuck "getObj: a row of cells") v:=by simp only [Go.getObj,Sem.bind,Sem.run,e1]
   exact ⟨by rw [e3];exact dG.stop rfl,Loc.halt e3 rfl⟩
  | number a a' l ra =>
   have e3:∀ u:World,u.heap=v.heap→((Go.getObj r).bind f).run P u=(f (.number a l)).run P u:=fun u hu=>by simp only [Go.getObj,Sem.bind,Sem.run,hu,e1]
   obtain ⟨h1,hl⟩:=hown ho a a' l ra v w (es.push ⟨.obj r',false,(Obj.number a' l).isChan⟩) hs ha
   refine ⟨?_,by
    unfold Loc at hl ⊢
    rw [e3 v rfl]
    split at hl
    ·intro τ hτ;rw [e3 (tp τ v) rfl];exact hl τ hτ
    ·intro τ hτ;rw [e3 (tp τ v) rfl];exact hl τ hτ
    ·trivial⟩
   simp only [Go.getObj,Sem.bind,Sem.run,Sem.runT,e1,e2]
   unfold dG at h1 ⊢
   have key:∀ {L:av} {v' w':World} {new:Array Event},Then P K L v v' w w' new→Then P K L v v' w w' (#[⟨.obj r',false,(Obj.number a' l).isChan⟩] ++ new):=fun ht =>
    ⟨ht.le,ht.fH,ht.agree,ht.eX,fun e he=>by
     rcases Array.mem_append.1 he with z | z
     ·simp only [List.mem_toArray,List.mem_cons,List.not_mem_nil,or_false] at z
      subst z
      exact ⟨r,ht.le.own _ ho,ht.le.b _ _ h⟩
     ·exact ht.evs e z⟩
   split at h1
   ·obtain ⟨L,b,w',new,e',hq,ht⟩:=h1
    simp only [e']
    exact ⟨L,b,w',_,by rw [Array.push_eq_append,Array.append_assoc],hq,key ht⟩
   ·obtain ⟨L,b,w',new,e',hq,ht⟩:=h1
    simp only [e']
    exact ⟨L,b,w',_,by rw [Array.push_eq_append,Array.append_assoc],hq,key ht⟩
   ·exact h1
 ·have e1:=hs.off _ _ h ho
  obtain ⟨q,v',e2,e3⟩:=hoff ho v
  have e4:((Go.getObj r).bind f).run P v=.halt q v':=by
   simp only [Go.getObj,Sem.bind,Sem.run,e1]
   simp only [fB] at e2
   simp only [fB,e2]
  exact ⟨by rw [e4];exact dG.stop e3,Loc.halt e4 e3⟩
theorem SR.shape {P:Program}{β γ:Type}{Q:av→β→γ→Prop}{K:av}{r r':Nat}(h:K.b r r'){f:Option (TypeId×Nat)→Sem β}{g:Option (TypeId×Nat)→Sem γ}
  (hown:K.own r→∀ s,SR P Q K (f s) (g s))(hoff:¬ K.own r→∀ s,SR P Q K (f none) (g s)):SR P Q K (Go.shape r >>= f) (Go.shape r' >>= g):=by
 intro v w es hs ha
 show dG P Q K v w es ((f (v.shape? r)).run P v) ((g (w.shape? r')).runT P w es)∧Loc P ((Go.shape r).bind f) v
 by_cases ho:K.own r
 ·obtain ⟨o,o',e1,e2,hr⟩:=hs.at_ ho h
  have:v.shape? r=w.shape? r':=by
   cases hr with
   | cells c c' e fz rr=>simp [World.shape?,e1,e2,rr.size]
   | number a a' l ra=>simp [World.shape?,e1,e2]
  have h1:=hown ho (v.shape? r) v w es hs ha
  exact ⟨this ▸ h1.1,h1.2⟩
 ·have e1:=hs.off _ _ h ho
  have:v.shape? r=none:=by simp [World.shape?,e1,fB]
  have h1:=hoff ho (w.shape? r') v w es hs ha
  rw [← this] at h1
  exact ⟨h1.1,h1.2⟩
theorem SR.frozen {P:Program}{β γ:Type}{Q:av→β→γ→Prop}{K:av}{a a':Addr}(h:bA K a a'){f:Bool→Sem β}{g:Bool→Sem γ}
  (hown:K.own a.block→∀ s,SR P Q K (f s) (g s))(hoff:¬ K.own a.block→∀ s,SR P Q K (f false) (g s)):SR P Q K (Go.frozen a >>= f) (Go.frozen a' >>= g):=by
 intro v w es hs ha
 show dG P Q K v w es ((f (v.frozen? a)).run P v) ((g (w.frozen? a')).runT P w es)∧Loc P ((Go.frozen a).bind f) v
 by_cases ho:K.own a.block
 ·obtain ⟨o,o',e1,e2,hr⟩:=hs.at_ ho h.block
  have:v.frozen? a=w.frozen? a':=by
   cases hr with
   | cells c c' e fz rr=>simp [World.frozen?,e1,e2,h.off]
   | number a a' l ra=>simp [World.frozen?,e1,e2]
  have h1:=hown ho (v.frozen? a) v w es hs ha
  exact ⟨this ▸ h1.1,h1.2⟩
 ·have e1:=hs.off _ _ h.block ho
  have:v.frozen? a=false:=by simp [World.frozen?,e1,fB]
  have h1:=hoff ho (w.frozen? a') v w es hs ha
  rw [← this] at h1
  exact ⟨h1.1,h1.2⟩
structure Fit (P:Program):Prop where
 zero:∀ t i v,P.info? t=some i→i.zero=some v→∀ K,VR K v v
 plain:∀ t i u,P.info? t=some i→i.desc≠.named "sync.copyChecker" u
section
variable {P:Program}{β γ:Type}{Q:av→β→γ→Prop}{K:av}
theorem SR.iF {f:Program→Sem β}{g:Program→Sem γ}(h:SR P Q K (f P) (g P)):SR P Q K (Go.program >>= f) (Go.program >>= g):=fun v w es hs ha=>h v w es hs ha
theorem SR.yU {s:Sem β}{t:Sem γ}(h:(∀ x y x' y',K.b x y→K.b x' y'→(x=x'↔y=y'))→SR P Q K s t):SR P Q K s t:=fun v w es hs ha=>h hs.gQ v w es hs ha
theorem SR.dead {s:Sem β}{t:Sem γ}(h:∀ v w,aY P K v w→∃ q v',s.run P v=.halt q v'∧iP q=true):SR P Q K s t:=by
 intro v w es hs ha
 obtain ⟨q,v',e,hn⟩:=h v w hs
 exact ⟨by rw [e];exact dG.stop hn,Loc.halt e hn⟩
theorem SR.info {t:TypeId}{f:TypeInfo→Sem β}{g:TypeInfo→Sem γ}(h:∀ i,P.info? t=some i→SR P Q K (f i) (g i)):SR P Q K (Go.typeInfo t >>= f) (Go.typeInfo t >>= g):=by
 intro v w es hs ha
 show dG P Q K v w es (((Go.typeInfo t).bind f).run P v) (((Go.typeInfo t).bind g).runT P w es)∧Loc P ((Go.typeInfo t).bind f) v
 cases e:P.info? t with
 | none =>
  have:((Go.typeInfo t).bind f).run P v=.halt (.stuck "no such type") v:=by
   simp only [Go.typeInfo,Go.program,Bind.bind,Sem.bind,Sem.run,e,Go.stuck]
  exact ⟨by rw [this];exact dG.stop rfl,Loc.halt this rfl⟩
 | some i =>
  have h1:=h i e v w es hs ha
  have e1:∀ v,((Go.typeInfo t).bind f).run P v=(f i).run P v:=fun v=>by
   simp only [Go.typeInfo,Go.program,Bind.bind,Sem.bind,Sem.run,e,Pure.pure]
  have e2:((Go.typeInfo t).bind g).runT P w es=(g i).runT P w es:=by
   simp only [Go.typeInfo,Go.program,Bind.bind,Sem.bind,Sem.runT,e,Pure.pure]
  exact ⟨by rw [e1,e2];exact h1.1,Loc.congr e1 h1.2⟩
theorem SR.under {t:TypeId}{f:TypeDesc→Sem β}{g:TypeDesc→Sem γ}(h:∀ i,P.underlying t=some i→SR P Q K (f i) (g i)):SR P Q K (Go.underlying t >>= f) (Go.underlying t >>= g):=by
 intro v w es hs ha
 show dG P Q K v w es (((Go.underlying t).bind f).run P v) (((Go.underlying t).bind g).runT P w es)∧Loc P ((Go.underlying t).bind f) v
 cases e:P.underlying t with
 | none =>
  have:((Go.underlying t).bind f).run P v=.halt (.stuck "no such type") v:=by
   simp only [Go.underlying,Go.program,Bind.bind,Sem.bind,Sem.run,e,Go.stuck]
  exact ⟨by rw [this];exact dG.stop rfl,Loc.halt this rfl⟩
 | some i =>
  have h1:=h i e v w es hs ha
  have e1:∀ v,((Go.underlying t).bind f).run P v=(f i).run P v:=fun v=>by
   simp only [Go.underlying,Go.program,Bind.bind,Sem.bind,Sem.run,e,Pure.pure]
  have e2:((Go.underlying t).bind g).runT P w es=(g i).runT P w es:=by
   simp only [Go.underlying,Go.program,Bind.bind,Sem.bind,Sem.runT,e,Pure.pure]
  exact ⟨by rw [e1,e2];exact h1.1,Loc.congr e1 h1.2⟩
theorem SR.assoc {α δ:Type}{s:Sem α}{t:Sem δ}{α' δ':Type}{f:α→Sem α'}{g:δ→Sem δ'}{f':α'→Sem β}{g':δ'→Sem γ}(h:SR P Q K (s >>= fun a=>f a >>= f') (t >>= fun a=>g a >>= g')):SR P Q K ((s >>= f) >>= f') ((t >>= g) >>= g'):=by
 intro v w es hs ha
 have h1:=h v w es hs ha
 have e1:∀ v,((s >>= f) >>= f').run P v=(s >>= fun a=>f a >>= f').run P v:=fun v=>by
  show ((s.bind f).bind f').run P v=(s.bind fun a=>(f a).bind f').run P v
  simp only [run_bind']
  cases s.run P v <;> rfl
 have e2:((t >>= g) >>= g').runT P w es=(t >>= fun a=>g a >>= g').runT P w es:=by
  show ((t.bind g).bind g').runT P w es=(t.bind fun a=>(g a).bind g').runT P w es
  simp only [runT_bind]
  cases t.runT P w es with
  | mk r es'=>cases r <;> rfl
 exact ⟨by rw [e1,e2];exact h1.1,Loc.congr e1 h1.2⟩
theorem SR.size {t:TypeId}{f:Nat→Sem β}{g:Nat→Sem γ}(h:∀ n,SR P Q K (f n) (g n)):SR P Q K (Go.sizeOf t >>= f) (Go.sizeOf t >>= g) :=
 SR.assoc (SR.info fun i _=>h i.size)
theorem SR.zeroV (F:Fit P){t:TypeId}{f:Value→Sem β}{g:Value→Sem γ}(h:∀ v,(∀ L,VR L v v)→SR P Q K (f v) (g v)):SR P Q K (Go.zeroValue t >>= f) (Go.zeroValue t >>= g):=by
 refine SR.assoc (SR.info fun i e=>?_)
 cases e2:i.zero with
 | none=>exact SR.unsupported
 | some v=>exact h v (F.zero t i v e e2)
theorem SR.agg {t:TypeId}{f:Bool→Sem β}{g:Bool→Sem γ}(h:∀ b,SR P Q K (f b) (g b)):SR P Q K (Go.isAgg t >>= f) (Go.isAgg t >>= g):=by
 refine SR.assoc (SR.under fun i e=>?_)
 cases i <;> exact h _
end
section
variable {P:Program}{β γ:Type}{Q:av→β→γ→Prop}{K:av}
theorem SR.asIntOf {x y:Value}(h:VR K x y):SR P (fun _ a b=>a=b) K (Go.asIntOf x) (Go.asIntOf y):=by
 cases h <;> first | exact SR.pure rfl | exact SR.stuck | exact SR.unsupported
theorem SR.asInt {x y:Value}(h:VR K x y):SR P (fun _ a b=>a=b) K (Go.asInt x) (Go.asInt y) :=
 SR.bind (SR.asIntOf h) fun _ _ _ _ e=>SR.pure (e ▸ rfl)
theorem SR.asBool {x y:Value}(h:VR K x y):SR P (fun _ a b=>a=b) K (Go.asBool x) (Go.asBool y):=by
 cases h <;> first | exact SR.pure rfl | exact SR.stuck | exact SR.unsupported
theorem SR.asAgg {x y:Value}(h:VR K x y):SR P AR K (Go.asAgg x) (Go.asAgg y):=by
 cases h <;> first | exact SR.stuck | (rename_i h1 h2;exact SR.pure ⟨h1,h2⟩)
def calm:RuntimeError→Bool
 | .bounds .. | .error _ | .plain _ | .nilDeref=>true
 | _=>false
theorem SR.runtimePanic {e:RuntimeError}(h:calm e=true):SR P Q K (Go.runtimePanic e) (Go.runtimePanic e):=by
 refine SR.iF ?_
 cases e with
 | bounds x y s c =>
  refine SR.goPanic (.iface _ _ _ (.agg _ _ rfl fun i x y hx hy=>?_))
  rcases i with _ | _ | _ | _ | i <;> simp at hx hy <;> subst hx <;> subst hy <;> constructor
 | error m=>exact SR.goPanic (.iface _ _ _ (.string _))
 | plain m=>exact SR.goPanic (.iface _ _ _ (.string _))
 | nilDeref=>exact SR.goPanic (.iface _ _ _ (.string _))
 | typeAssertion i c a m=>cases h
 | panicNil=>cases h
 | unhashable t=>cases h
theorem SR.boundsPanic {k:IntKind}{x y:Int}{c:BoundsCode}:SR P Q K (Go.boundsPanic k x y c) (Go.boundsPanic k x y c):=by
 unfold Go.boundsPanic
 dsimp only
 split
 ·refine SR.bind (Q:=fun _ a b=>a=b) (SR.bind' (SR.choose _) fun _ _ _ _ e=>SR.pure' (e ▸ rfl)) fun _ _ _ _ e=>?_
  subst e;exact SR.runtimePanic rfl
 ·exact SR.bind (Q:=fun _ a b=>a=b) (SR.pure rfl) fun _ _ _ _ e=>by subst e;exact SR.runtimePanic rfl
theorem SR.asAddr {x y:Value}(h:VR K x y):SR P bA K (Go.asAddr x) (Go.asAddr y):=by
 cases h with
 | dU=>exact SR.runtimePanic (e:=.nilDeref) rfl
 | ptr a a' r=>exact SR.pure r
 | _=>exact SR.stuck
theorem SR.sureAddr {x y:Value}(h:VR K x y):SR P bA K (Instr.sureAddr x) (Instr.sureAddr y):=by
 cases h with
 | ptr a a' r=>exact SR.pure r
 | _=>exact SR.stuck
theorem SR.loadCellsFrom {a a':Addr}(n:Nat):∀ {K:av}(i:Nat){xs ys:Array Value},bA K a a'→AR K xs ys→SR P AR K (Go.loadCellsFrom a i n xs) (Go.loadCellsFrom a' i n ys):=by
 induction n with
 | zero=>intro K i xs ys h r;exact SR.pure r
 | succ n ih=>intro K i xs ys h r;exact SR.bind (SR.load _ (h.add i)) fun L x y hL hv=>ih (i+1) (h.mono hL) ((r.mono hL).push hv)
theorem SR.loadCells {a a':Addr}(n:Nat)(h:bA K a a'):SR P AR K (Go.loadCells a n) (Go.loadCells a' n):=SR.loadCellsFrom n 0 h (.nil K)
inductive LR (K:av):List Value→List Value→Prop
 | nil:LR K [] []
 | cons (x y:Value) (xs ys:List Value):VR K x y→LR K xs ys→LR K (x :: xs) (y :: ys)
theorem LR.mono {L:av}(h:K.le L){xs ys:List Value}(r:LR K xs ys):LR L xs ys:=by
 induction r with
 | nil=>exact .nil
 | cons x y xs ys hv _ ih=>exact .cons x y xs ys (hv.mono h) ih
theorem LR.of {xs:List Value}:∀ {ys:List Value},xs.length=ys.length→(∀ (i:Nat)(x y:Value),xs[i]?=some x→ys[i]?=some y→VR K x y)→LR K xs ys:=by
 induction xs with
 | nil=>intro ys h _;cases ys with
  | nil=>exact .nil
  | cons y ys=>cases h
 | cons x xs ih=>intro ys h k;cases ys with
  | nil=>cases h
  | cons y ys=>exact .cons x y xs ys (k 0 x y rfl rfl) (ih (by simpa using h) fun i a b ha hb=>k (i+1) a b (by simpa using ha) (by simpa using hb))
theorem AR.list {xs ys:Array Value}(r:AR K xs ys):LR K xs.toList ys.toList:=LR.of (by simpa using r.size) fun i x y hx hy=>r.at_ i x y (by simpa using hx) (by simpa using hy)
theorem SR.storeCells {a a':Addr}{xs:List Value}:∀ {K:av}{ys:List Value}(i:Nat),bA K a a'→LR K xs ys→SR P (fun _ _ _=>True) K (Go.storeCells a xs i) (Go.storeCells a' ys i):=by
 induction xs with
 | nil=>intro K ys i h r;cases r;exact SR.pure trivial
 | cons x xs ih=>intro K ys i h r;cases r with
  | cons _ y _ ys hv hr=>exact SR.bind (SR.store _ (h.add i) hv) fun L _ _ hL _=>ih (i+1) (h.mono hL) (hr.mono hL)
theorem SR.loadVar {t:TypeId}{a a':Addr}(h:bA K a a'):SR P VR K (Go.loadVar t a) (Go.loadVar t a'):=by
 refine SR.agg fun b=>?_
 cases b with
 | false=>exact SR.load _ h
 | true=>exact SR.size fun n=>SR.bind (SR.loadCells n h) fun L xs ys _ r=>SR.pure (.agg _ _ r.size r.at_)
theorem SR.storeVar {t:TypeId}{a a':Addr}{x y:Value}(h:bA K a a')(hv:VR K x y):SR P (fun _ _ _=>True) K (Go.storeVar t a x) (Go.storeVar t a' y):=by
 refine SR.size fun n=>?_
 have hc:=hv.cells
 rw [hc.size]
 by_cases e:y.cells.size≠n
 ·rw [if_pos e,if_pos e];exact SR.stuck
 ·rw [if_neg e,if_neg e];exact SR.storeCells 0 h hc.list
theorem SR.newRow {t:TypeId}{xs ys:Array Value}(h:AR K xs ys):SR P (fun L a a'=>bA L a a'∧L.own a.block) K (Go.newRow t xs) (Go.newRow t ys) :=
 SR.bind (SR.newObj (.cells _ _ _ _ h)) fun _ _ _ _ hr=>SR.pure ⟨⟨hr.2,rfl,rfl⟩,hr.1⟩
theorem SR.newVar {t:TypeId}{x y:Value}(h:VR K x y):SR P (fun L a a'=>bA L a a'∧L.own a.block) K (Go.newVar t x) (Go.newVar t y):=SR.newRow h.cells
theorem SR.part {t:TypeId}{xs ys:Array Value}(h:AR K xs ys)(off:Nat):SR P VR K (Go.part t xs off) (Go.part t ys off):=by
 refine SR.agg fun b=>?_
 cases b with
 | true=>exact SR.size fun n=>SR.pure (.agg _ _ (h.extract off (off+n)).size (h.extract off (off+n)).at_)
 | false =>
  rcases h.get off with ⟨h1,h2⟩ | ⟨x,y,h1,h2,r⟩
  ·simp only [h1,h2];exact SR.stuck
  ·simp only [h1,h2];exact SR.pure r
end
section
variable {P:Program}{β γ:Type}{Q:av→β→γ→Prop}{K:av}
theorem SR.noView {a a':Addr}(h:bA K a a'):SR P (fun _ _ _=>K.own a.block) K (Go.noView a) (Go.noView a'):=by
 by_cases ho:K.own a.block
 ·unfold Go.noView Go.viewAt
  refine SR.assoc (SR.shape h.block (fun _ s=>?_) fun hn=>absurd ho hn)
  cases s with
  | some s=>simp only [Option.isSome_some,if_true];exact SR.pure ho
  | none =>
   simp only [Option.isSome_none,Bool.false_eq_true,if_false]
   exact SR.assoc (SR.getObj h.block (fun _ _ _ _ _=>SR.pure ho) fun hn=>absurd ho hn)
 ·refine SR.dead fun v w hs=>?_
  have e1:=hs.off _ _ h.block ho
  refine ⟨.unsupported (.unsafePointer "memory seen as another type"),v,?_,rfl⟩
  simp [Go.noView,Go.viewAt,Go.shape,Go.getObj,Bind.bind,Pure.pure,Sem.bind,Sem.run,World.shape?,e1,fB,Go.unsupported]
theorem SR.byteOf {a a':Addr}(h:bA K a a'):SR P (fun _ x y=>x=y) K (Go.byteOf a) (Go.byteOf a'):=by
 unfold Go.byteOf
 rw [← h.spot,← h.off]
 cases a.spot with
 | some s=>exact SR.pure rfl
 | none =>
  refine SR.iF ?_
  refine SR.bind (SR.noView h) fun L _ _ hL ho=>?_
  refine SR.shape (hL.b _ _ h.block) (fun _ s=>?_) fun hn=>absurd (hL.own _ ho) hn
  cases s with
  | none=>exact SR.stuck
  | some s =>
  obtain ⟨e,n⟩:=s
  dsimp only
  split
  ·exact SR.pure rfl
  ·split
   ·exact SR.pure rfl
   ·exact SR.stuck
theorem SR.partAt {a a':Addr}(h:bA K a a')(c b:Nat):SR P bA K (Go.partAt a c b) (Go.partAt a' c b):=by
 unfold Go.partAt
 refine SR.bind (SR.byteOf h) fun L x y hL e=>?_
 subst e
 have hp:bA L { block:=a.block,off:=a.off+c } { block:=a'.block,off:=a'.off+c }:=⟨hL.b _ _ h.block,by simp [h.off],rfl⟩
 refine SR.bind (SR.byteOf hp) fun M p q hM e=>?_
 subst e
 refine SR.pure ?_
 split
 ·exact hp.mono hM
 ·exact ⟨hM.b _ _ hp.block,hp.off,rfl⟩
theorem SR.fieldPlace {a a':Addr}(h:bA K a a')(f:Field):SR P bA K (Go.fieldPlace a f) (Go.fieldPlace a' f):=by
 refine SR.size fun n=>?_
 split
 ·exact SR.partAt h _ _
 ·exact SR.pure (h.add _)
theorem addr_eq (hb:∀ x y x' y',K.b x y→K.b x' y'→(x=x'↔y=y')){a a' b b':Addr}(h:bA K a a')(k:bA K b b'):(a == b)=(a' == b'):=by
 obtain ⟨ab,ao,as⟩:=a
 obtain ⟨Xu,gZ,as'⟩:=a'
 obtain ⟨bb,bo,bs⟩:=b
 obtain ⟨bb',Xv,bs'⟩:=b'
 have h1:=h.off;have h2:=h.spot;have k1:=k.off;have k2:=k.spot
 have hx:=hb _ _ _ _ h.block k.block
 simp only at h1 h2 k1 k2 hx
 subst h1;subst h2;subst k1;subst k2
 rw [Bool.eq_iff_iff]
 simp only [beq_iff_eq,Addr.mk.injEq,hx]
theorem SR.stringish {a a':Addr}(h:bA K a a')(ho:K.own a.block):SR P (fun _ x y=>x=y) K (Go.stringish a) (Go.stringish a'):=by
 unfold Go.stringish
 refine SR.frozen h (fun _ s=>?_) fun hn=>absurd ho hn
 cases s with
 | true=>exact SR.pure rfl
 | false =>
  simp only [Bool.false_eq_true,if_false]
  refine SR.shape h.block (fun _ s=>?_) fun hn=>absurd ho hn
  cases s with
  | none=>exact SR.pure rfl
  | some s =>
  obtain ⟨e,n⟩:=s
  exact SR.bind (Q:=fun _ x y=>x=y) (SR.frozen (f:=Sem.pure) (g:=Sem.pure) (a:={ block:=a.block,off:=n }) (a':={ block:=a'.block,off:=n }) ⟨h.block,rfl,rfl⟩ (fun _ s=>SR.pure' rfl) fun hn=>absurd ho hn) fun _ _ _ _ e=>SR.pure e
end
section
variable {P:Program}{β γ:Type}{Q:av→β→γ→Prop}{K:av}
theorem SR.mayBeOne {a a' b b':Addr}(h:bA K a a')(k:bA K b b')(ho:K.own a.block)(hp:K.own b.block):SR P (fun _ x y=>x=y) K (Go.mayBeOne a b) (Go.mayBeOne a' b'):=by
 have none_:∀ {L:av} {x x':Addr},bA L x x'→L.own x.block→SR P (fun _ x y=>x=y) L (do Pure.pure ((← Go.shape x.block) matches some (_,0)):Sem Bool) (do Pure.pure ((← Go.shape x'.block) matches some (_,0)):Sem Bool) :=
  fun r o=>SR.shape r.block (fun _ _=>SR.pure rfl) fun hn=>absurd o hn
 unfold Go.mayBeOne
 dsimp only
 refine SR.bind (SR.stringish h ho) fun L sa sa' hL e=>?_
 subst e
 refine SR.bind (SR.stringish (k.mono hL) (hL.own _ hp)) fun M sb sb' hM e=>?_
 subst e
 refine SR.bind (none_ ((h.mono hL).mono hM) (hM.own _ (hL.own _ ho))) fun N x x' hN e=>?_
 subst e
 refine SR.bind (none_ (((k.mono hL).mono hM).mono hN) (hN.own _ (hM.own _ (hL.own _ hp)))) fun O y y' hO e=>?_
 subst e
 exact SR.pure rfl
theorem SR.sameAddr {a a' b b':Addr}(h:bA K a a')(k:bA K b b'):SR P (fun _ x y=>x=y) K (Go.sameAddr a b) (Go.sameAddr a' b'):=by
 refine SR.yU fun hb=>?_
 have he:=addr_eq hb h k
 have hbl:=hb _ _ _ _ h.block k.block
 unfold Go.sameAddr
 by_cases e:a.block=b.block
 ·have e':=hbl.1 e
  simp only [e,e',beq_self_eq_true,if_true]
  exact SR.pure he
 ·have e':¬ a'.block=b'.block:=fun z=>e (hbl.2 z)
  simp only [beq_eq_false_iff_ne.2 e,beq_eq_false_iff_ne.2 e',Bool.false_eq_true,if_false]
  by_cases ho:K.own a.block
  ·by_cases hp:K.own b.block
   ·refine SR.frozen h (fun _ s=>?_) fun hn=>absurd ho hn
    refine SR.frozen k (fun _ s'=>?_) fun hn=>absurd hp hn
    split
    ·exact SR.unsupported
    ·refine SR.bind (SR.noView h) fun L _ _ hL _=>?_
     refine SR.bind (SR.noView (k.mono hL)) fun M _ _ hM _=>?_
     refine SR.bind (SR.mayBeOne ((h.mono hL).mono hM) ((k.mono hL).mono hM) (hM.own _ (hL.own _ ho)) (hM.own _ (hL.own _ hp))) fun N x y hN e=>?_
     subst e
     cases x with
     | true=>exact SR.bind (SR.choose _) fun _ _ _ _ e=>SR.pure (e ▸ rfl)
     | false=>exact SR.pure rfl
   ·refine SR.dead fun v w hs=>?_
    obtain ⟨o,o',e1,e2,hr⟩:=hs.at_ ho h.block
    have e3:=hs.off _ _ k.block hp
    cases hr with
    | cells c c' e fz rr =>
     refine ⟨.unsupported (.unsafePointer "memory seen as another type"),v,?_,rfl⟩
     simp [Go.noView,Go.viewAt,Go.shape,Go.getObj,Go.frozen,Bind.bind,Pure.pure,Sem.bind,Sem.run,World.shape?,World.frozen?,e1,e3,fB,Go.unsupported]
    | number p p' l rr =>
     refine ⟨.unsupported (.unsafePointer "memory seen as another type"),v,?_,rfl⟩
     simp [Go.noView,Go.viewAt,Go.shape,Go.getObj,Go.frozen,Bind.bind,Pure.pure,Sem.bind,Sem.run,World.shape?,World.frozen?,e1,e3,fB,Go.unsupported]
  ·refine SR.dead fun v w hs=>?_
   have e1:=hs.off _ _ h.block ho
   refine ⟨.unsupported (.unsafePointer "memory seen as another type"),v,?_,rfl⟩
   have hf:v.frozen? a=false:=by simp [World.frozen?,e1,fB]
   simp [Go.noView,Go.viewAt,Go.shape,Go.getObj,Go.frozen,Bind.bind,Pure.pure,Sem.bind,Sem.run,World.shape?,hf,e1,fB,Go.unsupported]
theorem SR.samePointer {a a':Option Addr}{b b':Option Addr}(h:VR K (.pointer a) (.pointer a'))(k:VR K (.pointer b) (.pointer b')):SR P (fun _ x y=>x=y) K (Go.samePointer a b) (Go.samePointer a' b'):=by
 cases h with
 | dU=>cases k <;> exact SR.pure rfl
 | ptr a a' r=>cases k with
  | dU=>exact SR.pure rfl
  | ptr b b' s=>exact SR.sameAddr r s
theorem SR.forIn {α:Type}{σ:Type}{f g:α→σ→Sem (ForInStep σ)}:∀ (l:List α){K:av}(s:σ),(∀ L x s,K.le L→SR P (fun _ a b=>a=b) L (f x s) (g x s))→SR P (fun _ a b=>a=b) K (ForIn.forIn l s f) (ForIn.forIn l s g):=by
 intro l
 induction l with
 | nil=>intro K s _;exact SR.pure rfl
 | cons x l ih =>
  intro K s h
  rw [List.forIn_cons,List.forIn_cons]
  refine SR.bind (h K x s (.refl K)) fun L a b hL e=>?_
  subst e
  cases a with
  | done s=>exact SR.pure rfl
  | yield s=>exact ih s fun M x s hM=>h M x s (hL.trans hM)
end
theorem aY.tp {P:Program}{K:av}{v w:World}(hs:aY P K v w){τ:Nat→Question→Nat}:aY P K (Blind.tp τ v) w:=⟨hs.gQ,hs.dom,hs.mine,hs.off,hs.base,hs.aX,hs.env⟩
theorem lg {P:Program}{K:av}{v w:World}(hs:aY P K v w){a a':Addr}(h:bA K a a')(ho:¬ K.own a.block):(behindNumber a).run P v=.ok (a,false) v:=by
 have e1:=hs.off _ _ h.block ho
 simp [behindNumber,numberAt,Go.shape,Go.getObj,Bind.bind,Pure.pure,Sem.bind,Sem.run,World.shape?,e1,fB]
theorem wL {P:Program}{K:av}{v w:World}(hs:aY P K v w){a a':Addr}(h:bA K a a'):∃ p,(behindNumber a).run P v=.ok p v:=by
 by_cases ho:K.own a.block
 ·obtain ⟨o,o',e1,e2,hr⟩:=hs.at_ ho h.block
  cases hr with
  | cells c c' e fz rr =>
   exact ⟨(a,false),by simp [behindNumber,numberAt,Go.shape,Bind.bind,Pure.pure,Sem.bind,Sem.run,World.shape?,e1]⟩
  | number p p' l rr =>
   exact ⟨(p,l),by simp [behindNumber,numberAt,Go.shape,Go.getObj,Bind.bind,Pure.pure,Sem.bind,Sem.run,World.shape?,e1]⟩
 ·exact ⟨_,lg hs h ho⟩
theorem SR.behind {P:Program}{K:av}{a a':Addr}(h:bA K a a')(ho:K.own a.block∨a.block < P.globals.size):SR P (fun L x y=>bA L x.1 y.1∧x.2=y.2) K (behindNumber a) (behindNumber a'):=by
 by_cases hq:K.own a.block
 ·unfold behindNumber numberAt
  refine SR.assoc (SR.shape h.block (fun _ s=>?_) fun hn=>absurd hq hn)
  cases s with
  | some s=>exact SR.pure ⟨h,rfl⟩
  | none=>exact SR.assoc (SR.getObj h.block (fun _ _ _ _ r=>SR.pure ⟨r,rfl⟩) fun hn=>absurd hq hn)
 ·have hg:=ho.resolve_left hq
  intro v w es hs ha
  refine ⟨?_,Loc.free (fun τ a u z=>?_) fun τ a u z=>by rw [lg hs h hq] at z;cases z⟩
  rotate_left
  ·rw [lg hs h hq] at z
   cases z
   exact lg hs.tp h hq
  rw [lg hs h hq]
  have e1:a'.block=a.block:=((hs.gQ _ _ _ _ (hs.base a.block ag) h.block).1 rfl).symm
  obtain ⟨c,e,fz,h1⟩:=hs.aX a.block hg
  refine ⟨K,(a',false),w,#[],?_,⟨h,rfl⟩,.refl hs ha⟩
  simp [-Sem.runT_eq,behindNumber,numberAt,Go.shape,Bind.bind,Pure.pure,Sem.bind,Sem.runT,World.shape?,e1,h1]
section
variable {P:Program}{β γ:Type}{Q:av→β→γ→Prop}{K:av}
theorem SR.typeStr {t:TypeId}{f:String→Sem β}{g:String→Sem γ}(h:∀ s,SR P Q K (f s) (g s)):SR P Q K (Go.typeStr t >>= f) (Go.typeStr t >>= g):=by
 refine SR.assoc (SR.info fun i _=>?_)
 dsimp only
 split
 ·exact SR.unsupported
 ·exact h _
theorem SR.Jg (F:Fit P){t:TypeId}{a a' b b':Addr}(ra:bA K a a')(rb:bA K b b'):SR P (fun _ x y=>x=y) K
  (do let p ← behindNumber a
      let q ← behindNumber b
      match (p.fst,q.fst) with
       | (a,b)=>do
        let pr ← Go.program
        if (a.block == b.block && decide (a.block < pr.globals.size))=true then do
            let x ← Go.byteOf a
            let y ← Go.byteOf b
            Pure.pure (x == y)
         else do
          let i ← typeInfo t
          match i.desc with
           | TypeDesc.named "sync.copyChecker" _=>if (a == b)=true then Pure.pure true else Go.unsupported Unsupported.addressObserved
           | _=>Go.unsupported Unsupported.addressObserved)
  (do let p ← behindNumber a'
      let q ← behindNumber b'
      match (p.fst,q.fst) with
       | (a,b)=>do
        let pr ← Go.program
        if (a.block == b.block && decide (a.block < pr.globals.size))=true then do
            let x ← Go.byteOf a
            let y ← Go.byteOf b
            Pure.pure (x == y)
         else do
          let i ← typeInfo t
          match i.desc with
           | TypeDesc.named "sync.copyChecker" _=>if (a == b)=true then Pure.pure true else Go.unsupported Unsupported.addressObserved
           | _=>Go.unsupported Unsupported.addressObserved):=by
 have dead:∀ {s:Sem Bool} {v:World},∃ q v',(do let i ← typeInfo t
                                               match i.desc with
                                                | TypeDesc.named "sync.copyChecker" _=>s
                                                | _=>Go.unsupported Unsupported.addressObserved:Sem Bool).run P v=.halt q v'∧iP q=true:=by
  intro s v
  simp only [Bind.bind,run_bind',Go.typeInfo,Go.program,Sem.run]
  cases e:P.info? t with
  | none=>exact ⟨_,_,rfl,rfl⟩
  | some i =>
   simp only [Pure.pure,Sem.run]
   split
   ·rename_i u hd;exact absurd hd (F.plain t i u e)
   ·exact ⟨_,_,rfl,rfl⟩
 by_cases ho:(K.own a.block∨a.block < P.globals.size)∧(K.own b.block∨b.block < P.globals.size)
 ·refine SR.bind (SR.behind ra ho.1) fun L p p' hL e=>?_
  refine SR.bind (SR.behind (rb.mono hL) (ho.2.imp (hL.own _) id)) fun M q q' hM e'=>?_
  have r1:=e.1.mono hM
  have r2:=e'.1
  dsimp only
  refine SR.iF ?_
  intro v w es hs ha
  have hb:=hs.gQ _ _ _ _ r1.block r2.block
  by_cases hc:p.1.block=q.1.block∧p.1.block < P.globals.size
  ·have e1:p'.1.block=p.1.block:=((hs.gQ _ _ _ _ (hs.base p.1.block ag) r1.block).1 rfl).symm
   have t1:(p.1.block == q.1.block && decide (p.1.block < P.globals.size))=true:=by simp [hc.1,hc.1 ▸ hc.2]
   have t2:(p'.1.block == q'.1.block && decide (p'.1.block < P.globals.size))=true:=by simp [← hb.1 hc.1,e1,hc.2]
   rw [if_pos t1,if_pos t2]
   exact SR.bind (SR.byteOf r1) (fun N x y hN e=>SR.bind (SR.byteOf (r2.mono hN)) fun O x' y' hO e'=>SR.pure (by rw [e,e'])) v w es hs ha
  ·have t1:¬ (p.1.block == q.1.block && decide (p.1.block < P.globals.size))=true:=by simpa using hc
   rw [if_neg t1]
   obtain ⟨z,v',e1,e2⟩:=dead (s:=if (p.1 == q.1)=true then Pure.pure true else Go.unsupported Unsupported.addressObserved) (v:=v)
   exact ⟨by rw [e1];exact dG.stop e2,Loc.halt e1 e2⟩
 ·refine SR.dead fun v w hs=>?_
  obtain ⟨p,hp⟩:=wL hs ra
  obtain ⟨q,hq⟩:=wL hs rb
  have t1:¬ (p.1.block == q.1.block && decide (p.1.block < P.globals.size))=true:=by
   simp only [Bool.and_eq_true,beq_iff_eq,decide_eq_true_eq]
   rintro ⟨z1,z2⟩
   apply ho
   constructor
   ·by_cases h1:K.own a.block
    ·exact .inl h1
    ·rw [lg hs ra h1] at hp;cases hp;exact .inr z2
   ·by_cases h1:K.own b.block
    ·exact .inl h1
    ·rw [lg hs rb h1] at hq;cases hq;exact .inr (z1 ▸ z2)
  simp only [Bind.bind,run_bind',hp,hq]
  simp only [Go.program,Sem.run,t1]
  exact dead
theorem SR.equalIn (F:Fit P)(d:Nat):∀ {K:av}(t:TypeId){x x' y y':Value},VR K x x'→VR K y y'→SR P (fun _ a b=>a=b) K (Op.equalIn d t x y) (Op.equalIn d t x' y'):=by
 induction d with
 | zero=>intro K t x x' y y' _ _;exact SR.unsupported
 | succ d ih =>
  intro K t x x' y y' hx hy
  unfold Op.equalIn
  refine SR.under fun i hi=>?_
  split
  ·cases hx;cases hy;exact SR.pure rfl
  ·cases hx;cases hy;dsimp only;split
   ·exact SR.pure rfl
   ·exact SR.stuck
  ·cases hx;cases hy;exact SR.pure rfl
  ·cases hx;cases hy;exact SR.pure rfl
  ·cases hx with
   | ptr a a' ra =>
   cases hy with
   | ptr b b' rb=>exact SR.Jg F ra rb
  ·exact SR.unsupported
  ·exact SR.unsupported
  ·cases hx;cases hy;dsimp only;split
   ·exact SR.pure rfl
   ·exact SR.stuck
  ·cases hx
  ·cases hx;cases hy;exact SR.pure rfl
  ·cases hx;cases hy <;> exact SR.pure rfl
  ·cases hx <;> cases hy <;> first | exact SR.pure rfl | (exfalso;simp_all;done)
  ·cases hx;cases hy
   rename_i ra _ rb
   refine SR.size fun n=>?_
   split
   ·exact SR.sameAddr ra rb
   ·refine SR.yU fun hb=>?_
    rw [addr_eq hb ra rb]
    split
    ·exact SR.pure rfl
    ·exact SR.bind (SR.choose _) fun _ _ _ _ e=>SR.pure (e ▸ rfl)
  ·cases hx <;> cases hy <;> first | exact SR.pure rfl | (rename_i ra _ _ rb;exact SR.sameAddr ra rb)
  ·refine SR.yU fun hb=>?_
   cases hx <;> cases hy <;> first | exact SR.pure rfl | (rename_i ra _ _ rb;refine SR.pure ?_;have:=hb _ _ _ _ ra rb;rw [Bool.eq_iff_iff];simp [this])
  ·cases hx;cases hy;exact SR.pure rfl
  ·cases hx;cases hy;exact SR.pure rfl
  ·cases hx;cases hy;exact SR.pure rfl
  ·cases hx;cases hy
   rename_i rx _ ry
   dsimp only
   split
   ·exact SR.pure rfl
   ·refine SR.info fun info _=>?_
    split
    ·refine SR.iF (SR.iF ?_)
     split
     ·exact SR.unsupported
     ·exact SR.typeStr fun s=>SR.runtimePanic rfl
    ·exact ih _ rx ry
  ·cases hx;cases hy
   rename_i h1 h2 _ h3 h4
   dsimp only
   refine SR.iF ?_
   split
   ·exact SR.unsupported
   ·refine SR.bind (Q:=fun _ a b=>a=b) ?_ fun L a b _ e=>?_
    ·rw [← Array.forIn_toList,← Array.forIn_toList]
     refine SR.forIn _ _ fun L f s hL=>?_
     split
     ·refine SR.bind (SR.part (AR.mk h1 h2 |>.mono hL) _) fun M p p' hM rp=>?_
      refine SR.bind (SR.part ((AR.mk h3 h4 |>.mono hL).mono hM) _) fun N q q' hN rq=>?_
      refine SR.bind (ih _ (rp.mono hN) rq) fun O e e' _ ee=>?_
      subst ee
      split <;> exact SR.pure rfl
     ·exact SR.pure rfl
    ·subst e
     split <;> exact SR.pure rfl
  ·cases hx;cases hy
   rename_i h1 h2 _ h3 h4
   dsimp only
   refine SR.size fun n=>?_
   refine SR.bind (Q:=fun _ a b=>a=b) ?_ fun L a b _ e=>?_
   ·rw [Std.Legacy.Range.forIn_eq_forIn_range',Std.Legacy.Range.forIn_eq_forIn_range']
    refine SR.forIn _ _ fun L f s hL=>?_
    refine SR.bind (SR.part (AR.mk h1 h2 |>.mono hL) _) fun M p p' hM rp=>?_
    refine SR.bind (SR.part ((AR.mk h3 h4 |>.mono hL).mono hM) _) fun N q q' hN rq=>?_
    refine SR.bind (ih _ (rp.mono hN) rq) fun O e e' _ ee=>?_
    subst ee
    split <;> exact SR.pure rfl
   ·subst e
    split <;> exact SR.pure rfl
  ·cases hx;cases hy <;> exact SR.pure rfl
  ·cases hx <;> cases hy <;> first | exact SR.pure rfl | (exfalso;simp_all;done)
  ·cases hx;cases hy <;> exact SR.pure rfl
  ·cases hx <;> cases hy <;> first | exact SR.pure rfl | (exfalso;simp_all;done)
  ·cases hx <;> cases hy <;> exact SR.pure rfl
  ·cases hx <;> cases hy <;> exact SR.pure rfl
  ·cases hx <;> cases hy <;> exact SR.pure rfl
  ·exact SR.stuck
theorem SR.equal (F:Fit P){K:av}(t:TypeId){x x' y y':Value}(hx:VR K x x')(hy:VR K y y'):SR P (fun _ a b=>a=b) K (Op.equal t x y) (Op.equal t x' y'):=SR.equalIn F _ t hx hy
end
section
variable {P:Program}{β γ:Type}{Q:av→β→γ→Prop}{K:av}
theorem SR.eqGuardIn (d:Nat):∀ {K:av}(t:TypeId){x x' y y':Value},VR K x x'→VR K y y'→SR P (fun _ a b=>a=b) K (Op.eqGuardIn d t x y) (Op.eqGuardIn d t x' y'):=by
 induction d with
 | zero=>intro K t x x' y y' _ _;exact SR.unsupported
 | succ d ih =>
  intro K t x x' y y' hx hy
  unfold Op.eqGuardIn
  refine SR.under fun i hi=>?_
  split
  ·cases hx;cases hy;exact SR.pure rfl
  ·cases hx;cases hy
   rename_i h1 h2 _ h3 h4
   dsimp only
   refine SR.bind (Q:=fun _ a b=>a=b) ?_ fun L a b _ e=>?_
   ·rw [← Array.forIn_toList,← Array.forIn_toList]
    refine SR.forIn _ _ fun L f s hL=>?_
    split
    ·refine SR.bind (SR.part (AR.mk h1 h2 |>.mono hL) _) fun M p p' hM rp=>?_
     refine SR.bind (SR.part ((AR.mk h3 h4 |>.mono hL).mono hM) _) fun N q q' hN rq=>?_
     refine SR.bind (ih _ (rp.mono hN) rq) fun O e e' _ ee=>?_
     subst ee
     split <;> exact SR.pure rfl
    ·exact SR.pure rfl
   ·subst e
    split <;> exact SR.pure rfl
  ·cases hx;cases hy
   rename_i h1 h2 _ h3 h4
   dsimp only
   refine SR.size fun n=>?_
   refine SR.bind (Q:=fun _ a b=>a=b) ?_ fun L a b _ e=>?_
   ·rw [Std.Legacy.Range.forIn_eq_forIn_range',Std.Legacy.Range.forIn_eq_forIn_range']
    refine SR.forIn _ _ fun L f s hL=>?_
    refine SR.bind (SR.part (AR.mk h1 h2 |>.mono hL) _) fun M p p' hM rp=>?_
    refine SR.bind (SR.part ((AR.mk h3 h4 |>.mono hL).mono hM) _) fun N q q' hN rq=>?_
    refine SR.bind (ih _ (rp.mono hN) rq) fun O e e' _ ee=>?_
    subst ee
    split <;> exact SR.pure rfl
   ·subst e
    split <;> exact SR.pure rfl
  ·rename_i h1 h2 h3
   refine SR.mono (Q:=fun _ a b=>a=false∧b=false) ?_ fun _ _ _ _ e=>e.1.trans e.2.symm
   split
   ·cases hx;cases hy;exact absurd rfl (h1 _ rfl rfl)
   ·cases hx;cases hy;exact absurd rfl (h2 _ _ _ rfl rfl)
   ·cases hx;cases hy;exact absurd rfl (h3 _ _ _ _ rfl rfl)
   ·exact SR.pure ⟨rfl,rfl⟩
theorem SR.intArith {op:BinOp}{k:IntKind}{x y:Int}:SR P VR K (Op.intArith op k x y) (Op.intArith op k x y):=by
 unfold Op.intArith;split <;> first | exact SR.pure (.int _ _) | exact SR.stuck
theorem SR.intDiv {op:BinOp}{k:IntKind}{x y:Int}:SR P VR K (Op.intDiv op k x y) (Op.intDiv op k x y):=by
 unfold Op.intDiv
 split
 ·exact SR.runtimePanic rfl
 ·split <;> first | exact SR.pure (.int _ _) | exact SR.stuck
theorem SR.intBits {op:BinOp}{k:IntKind}{x y:Int}:SR P VR K (Op.intBits op k x y) (Op.intBits op k x y):=by
 unfold Op.intBits;dsimp only;split <;> first | exact SR.pure (.int _ _) | exact SR.stuck
theorem SR.intCmp {op:BinOp}{x y:Int}:SR P VR K (Op.intCmp op x y) (Op.intCmp op x y):=by
 unfold Op.intCmp;split <;> first | exact SR.pure (.bool _) | exact SR.stuck
theorem SR.shift {op:BinOp}{k j:IntKind}{x y:Int}:SR P VR K (Op.shift op k x j y) (Op.shift op k x j y):=by
 unfold Op.shift
 split
 ·exact SR.runtimePanic rfl
 ·dsimp only;split <;> first | exact SR.pure (.int _ _) | exact SR.stuck
theorem SR.floatCmp {op:BinOp}{k:FloatKind}{x y:Nat}:SR P VR K (Op.floatCmp op k x y) (Op.floatCmp op k x y):=by
 unfold Op.floatCmp;dsimp only;split <;> first | exact SR.pure (.bool _) | exact SR.stuck
theorem SR.floatArith {op:BinOp}{k:FloatKind}{x y:Nat}:SR P VR K (Op.floatArith op k x y) (Op.floatArith op k x y):=by
 unfold Op.floatArith
 dsimp only
 split <;> first | exact SR.stuck | (refine SR.bind (Q:=fun _ a b=>a=b) (SR.pure rfl) fun L a b _ e=>?_;subst e;split <;> first | exact SR.pure (.float _ _) | exact SR.bind (SR.choose _) fun _ _ _ _ e=>SR.pure (e ▸ .float _ _))
theorem SR.stringOp {op:BinOp}{x y:ByteArray}:SR P VR K (Op.stringOp op x y) (Op.stringOp op x y):=by
 unfold Op.stringOp;dsimp only
 split <;> first | exact SR.pure (.bool _) | exact SR.stuck | (split <;> first | exact SR.unsupported | exact SR.pure (.string _))
end
end Go.Blind

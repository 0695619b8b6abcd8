/- Of the proof. -/
import Derived.Test.YtanploaffndpjaaJ07
import Derived.Conc.WgGenWait
import Derived.Conc.CompanyDraw
namespace Go.Blind
open Go.Conc Go.ConcR Go.RowKit Go.Conc.Lib Go.ConcR.Gen
section
variable {P:Program}{St:ai}{M:Nat→Prop}{w:World}{b:Frame}{a:Act}{k:List Item}{cs:List Frame}{ops:Array Oper}{i:Nat}{rest:List Nat}{o:Oper}{g:Goroutine}
theorem MR.value (v:Value)(ho:ops[i]?=some o)(hw:Region.wanted o (yielded ops a.tmps)=true)(hk:b.kind≠.early)(hr:∀ w,(execOp a.eval o).run P w=.ok (.value v) w)(he:∀ w,(execOp a.eval o).events P w #[]=#[])
  (hq:aj P true St M (G (b.at (a.put o.dst v) (.inRegion ops rest :: k)) cs) w):aj P true St M (G (b.at a (.inRegion ops (i :: rest) :: k)) cs) w :=
 .idle rfl (fun w=>by rw [stepG_value ho hw hk (hr w)];unfold listed;rw [he w,seen_none]) hq
theorem Mv {a':Act}(v:Value)(hq:aj P true St M (G (b.at a' (.inRegion ops rest :: k)) cs) w)(ho:ops[i]?=some o:=by rfl)(hw:Region.wanted o (yielded ops a.tmps)=true:=by rfl)(hk:b.kind≠.early:=by k_ne)(hr:∀ w,(execOp a.eval o).run P w=.ok (.value v) w:=by intro _;go_simp;try (first | w_num | decide | simp [*]))(he:∀ w,(execOp a.eval o).events P w #[]=#[]:=by intro _;simp [go_sem, *])(ha:a.put o.dst v=a':=by walk_nrm;rfl):aj P true St M (G (b.at a (.inRegion ops (i :: rest) :: k)) cs) w:=MR.value v ho hw hk hr he (ha ▸ hq)
theorem Mu {a':Act}(hq:aj P true St M (G (b.at a' (.inRegion ops rest :: k)) cs) w)(ho:ops[i]?=some o:=by rfl)(hw:Region.wanted o (yielded ops a.tmps)=false:=by rfl)(ha:a.put o.dst undef=a':=by walk_nrm;rfl):aj P true St M (G (b.at a (.inRegion ops (i :: rest) :: k)) cs) w:=.idle rfl (fun _=>stepG_unwanted ho hw) (ha ▸ hq)
theorem Mq {x y:Code}(h:aj P true St M (G (b.at a (.code x :: .code y :: k)) cs) w):aj P true St M (G (b.at a (.code (.seq x y) :: k)) cs) w:=.idle rfl (fun _=>stepG_seq) h
theorem Me (h:aj P true St M (G (b.at a k) cs) w):aj P true St M (G (b.at a (.inRegion ops [] :: k)) cs) w:=.idle rfl (fun _=>stepG_region_end) h
theorem Mg {id:Nat}{l:List Nat}(h:aj P true St M (G (b.at a (.inRegion ops l :: k)) cs) w)(hl:List.range ops.size=l:=by simp only [List.size_toArray,List.length_cons,List.length_nil,Nat.reduceAdd,Nat.zero_add,List.range,List.range.loop];rfl):aj P true St M (G (b.at a (.code (.region id ops false) :: k)) cs) w:=.idle rfl (fun _=>stepG_region) (hl ▸ h)
theorem Mk (h:aj P true St M (G (b.at a k) cs) w):aj P true St M (G (b.at a (.code .skip :: k)) cs) w:=.idle rfl (fun _=>stepG_skip) h
theorem Mf {c:Operand}{x y:Code}(hc:a.eval c=.bool false)(h:aj P true St M (G (b.at a (.code y :: k)) cs) w):aj P true St M (G (b.at a (.code (.cond c x y) :: k)) cs) w:=.idle rfl (fun _=>stepG_cond (t:=false) hc) h
theorem Mt {c:Operand}{x y:Code}(hc:a.eval c=.bool true)(h:aj P true St M (G (b.at a (.code x :: k)) cs) w):aj P true St M (G (b.at a (.code (.cond c x y) :: k)) cs) w:=.idle rfl (fun _=>stepG_cond (t:=true) hc) h
theorem MR.call {f:FuncId}{fn:Func}{xs:Array Operand}{ats:Array TypeId}{c:Code}(ho:ops[i]?=some o)(hw:Region.wanted o (yielded ops a.tmps)=true)(hk:b.kind≠.early)(hop:o.op=.call { callee:=.value (.func f),args:=xs,argTypes:=ats })
  (hf:P.funcs[f]?=some fn)(hname:(fn.name == "runtime.NumGoroutine")=false)(hb:fn.body=some c)
  (hq:aj P true St M (G ((base f).at { tmps:=xs.map a.eval ++ Array.replicate (fn.ntmps - (xs.map a.eval).size) undef,defers:=[] } [.code c]) (b.at a (.inRegion ops (i :: rest) :: k) :: cs)) w):aj P true St M (G (b.at a (.inRegion ops (i :: rest) :: k)) cs) w:=by
 have h1:¬ fn.name = "runtime.NumGoroutine":=by simpa using hname
 refine .idle rfl (fun w=>?_) hq
 have hr:(execOp a.eval o).run P w=.ok (.enter f (xs.map a.eval)) w:=by rw [execOp_call_func hop];simp [callFunc,hf,h1,hb]
 have he:(execOp a.eval o).events P w #[]=#[]:=by rw [execOp_call_func hop];simp [callFunc,hf,h1,hb]
 rw [stepG_enter ho hw hk hr,enter_at _ hf hb]
 unfold listed
 rw [he,seen_none]
section
variable {fn:Func}{todo:List Item}{b₀:Frame}{a₀:Act}
theorem MR.xH {c:Frame}(hn:b.kind=.normal)(hd:a.defers=[])(hf:P.funcs[b.fn]?=some fn)(hr:fn.results=#[])
  (hq:aj P true St M (G (c.finish (.tuple #[])) cs) w):aj P true St M (G { b.at a todo with mode:=.returning } (c :: cs)) w :=
 .idle rfl (fun w=>by rw [stepG_leave hn hd hf (results_none hr _ P w) (events_results_none hr _ _)]) hq
theorem MR.leave1 {t:Tmp}(hn:b.kind=.normal)(hd:a.defers=[])(hf:P.funcs[b.fn]?=some fn)(hr:fn.results=#[.tmp t])
  (hq:aj P true St M (G (b₀.at (a₀.put ((ops[i]?).bind (·.dst)) (a.tmps.getD t undef)) (.inRegion ops rest :: k)) cs) w) :
  aj P true St M (G { b.at a todo with mode:=.returning } (b₀.at a₀ (.inRegion ops (i :: rest) :: k) :: cs)) w :=
 .idle rfl (fun w=>by rw [stepG_leave hn hd hf (results_tmp hr _ P w) (events_results_tmp hr _ _),Frame.finish_at]) hq
end
def gz (P:Program)(m:Mark)(Nx:ai):ai:=fun M g w=>g.status=.running∧∃ g',(∀ w1,stepG P true g w1=.go g' w1 #[⟨.mark m,false,true⟩])∧aj P true Nx M g' w
def vw (P:Program)(ad:Addr)(Nx:ai):ai:=fun M g w=>g.status=.running∧∃ g',(∀ w1 v,w1.cell? ad=some v→stepG P true g w1=.go g' w1 #[])∧aj P true Nx M g' w
def xI (P:Program)(ad:Addr)(A:Nat→Prop)(Nx:Nat→ai):ai:=fun M g w=>g.status=.running∧∀ p,A p→∃ g',(∀ w1,w1.cell? ad=some (.int .u64 (p * 4294967296:Nat))→stepG P true g w1=.go g' w1 #[⟨.cell ad,false,true⟩])∧aj P true (Nx p) M g' w
def EL (P:Program)(ad:Addr)(Y:Int)(MW MX:ai):ai:=fun M g w=>g.status=.running ∧
 (∃ g',(∀ w1,w1.cell? ad=some (.int .u64 Y)→w1.frozen? ad=false→stepG P true g w1=.go g' (w1.setCell ad (.int .u64 (Y+1))) #[⟨.cell ad,false,true⟩,⟨.cell ad,true,true⟩])∧aj P true MW M g' w) ∧
 ∃ g',(∀ w1 x,w1.cell? ad=some (.int .u64 x)→w1.frozen? ad=false→x≠Y→stepG P true g w1=.go g' w1 #[⟨.cell ad,false,true⟩])∧aj P true MX M g' w
def MY (P:Program)(ad:Addr)(Nx:ai):ai:=fun M g w=>(g.status=.running∧g.offers=none)∧(∀ w1,w1.cell? ad=some (.int .u32 0)→stepG P true g w1=.go (asleep g) w1 #[]) ∧
 ∃ g',(∀ w1,w1.cell? ad=some (.int .u32 1)→w1.frozen? ad=false→stepG P true g w1=.go g' (w1.setCell ad (.int .u32 0)) (semEvents ad))∧aj P true Nx M g' w
theorem MR.conv {src dst t:TypeId}{x:Operand}{ad:Addr}{Nx:ai}(ho:ops[i]?=some o)(hw:Region.wanted o (yielded ops a.tmps)=true)(hk:b.kind≠.early)(hop:o.op=.convert src dst x)(hx:a.eval x=.pointer (some ad))
  (hs:P.underlying src=some (.pointer t))(hd:P.underlying dst=some .unsafePointer)(hsz:(P.info? t).map (fun i=>decide (i.size=0))=some false)
  (hq:aj P true Nx M (G (b.at (a.put o.dst (.pointer (some ad))) (.inRegion ops rest :: k)) cs) w):aj P true (vw P ad Nx) M (G (b.at a (.inRegion ops (i :: rest) :: k)) cs) w:=by
 refine .stop fun w1 hr=>⟨rfl,_,fun w2 v hc=>?_,hq.rely hr⟩
 have e1:(execOp a.eval o).run P w2=.ok (.value (.pointer (some ad))) w2:=by
  unfold execOp
  simp only [hop,hx]
  have:=(xw (P:=P) hs hd hsz hc).1
  simp [this]
 have e2:(execOp a.eval o).events P w2 #[]=#[]:=by
  unfold execOp
  simp only [hop,hx]
  have:=(xw (P:=P) hs hd hsz hc).2
  simp [this]
 rw [stepG_value ho hw hk e1]
 unfold listed
 rw [e2,seen_none]
theorem MR.mark {m:Mark}{Nx:ai}{g':Goroutine}(hg:g.status=.running)(h:∀ w1,stepG P true g w1=.go g' w1 #[⟨.mark m,false,true⟩])(hq:aj P true Nx M g' w):aj P true (gz P m Nx) M g w :=
 .stop fun _ hr=>⟨hg,g',h,hq.rely hr⟩
def lI (P:Program)(R q:Nat)(St:ai):ai:=gz P .enable (vw P ⟨R,q,none⟩ (gz P (.acquire ⟨R,q,none⟩) St))
def vz (P:Program)(R q:Nat)(St:ai):ai:=vw P ⟨R,q+1,none⟩ (gz P (.write ⟨R,q+1,none⟩) (MY P ⟨R,q+1,none⟩ (xI P ⟨R,q,none⟩ (·=0) fun _=>lI P R q St)))
def lJ (P:Program)(R q:Nat)(St:ai):Nat→ai
 | 0=>fun _ g _=>g.status=.running
 | k+1=>xI P ⟨R,q,none⟩ (·≤100) fun p=>if p=0 then lI P R q St else EL P ⟨R,q,none⟩ ((p * 4294967296:Nat):Int) (vz P R q St) (lJ P R q St k)
end
def G0 (b:aJ)(d:Nat):aJ:={ b with d0:=d,Inv:=oQ b.n,wd:=iV b.n,sm:=fun _=>0,fx:=False }
noncomputable def G1 (b:aJ):aJ:={ b with d0:=1,Inv:=Inv1 b.n,wd:=gK b.n,sm:=fO b.n,fx:=False }
def G2 (b:aJ)(d:Nat)(f:Prop):aJ:={ b with d0:=d,Inv:=iW b.n,wd:=fun _=>0,sm:=fun _=>0,fx:=f }
section
variable {P:Program}
theorem kQ {G:aJ}(M:rM G.n G.Inv G.wd G.sm)(hq:G.q+1 < G.c.size)(hsh:¬ G.shut G.R):dB P (G.env P) :=
 MH M hq hsh fun C τ T w own H hc=>by
  obtain ⟨⟨k,e⟩,_⟩:=H.chans _ hc
  have:=(H.gy G.R _ ⟨rfl,rfl⟩).1
  rw [e] at this
  cases this
section
variable {G G':aJ}{τ:Nat→Nat}{T:Trace}{w:World}{fn:FuncId}{pos:String}
theorem zY {e:Event}(hR:∃ o,w.heap[G.R]?=some o)(h:(∃ m,e=⟨.mark m,false,true⟩∧(m=.disable∨m=.enable∨m=.acquire ⟨G.R,G.q,none⟩∨m=.write ⟨G.R,G.q+1,none⟩∨m=.read ⟨G.R,G.q+1,none⟩))∨(∃ wr,e=⟨.cell ⟨G.R,G.q,none⟩,wr,true⟩)∨∃ wr,e=⟨.cell ⟨G.R,G.q+1,none⟩,wr,true⟩) :
  (MemAct.ofEvent e).low w.heap.size∧(∀ a,(MemAct.ofEvent e).touch?=some a→a.loc.isMemory=true→dI G.R a.loc∧rJ G.R G.q 0 a)∧∀ a,MemAct.ofEvent e≠.mark (.release a):=by
 obtain ⟨o,hR⟩:=hR
 have hlt:G.R < w.heap.size:=(Array.getElem?_eq_some_iff.1 hR).1
 rcases h with ⟨m,rfl,rfl | rfl | rfl | rfl | rfl⟩ | ⟨wr,rfl⟩ | ⟨wr,rfl⟩
 ·exact ⟨trivial,(fun a ha=>by cases ha),fun a z=>by cases z⟩
 ·exact ⟨trivial,(fun a ha=>by cases ha),fun a z=>by cases z⟩
 ·exact ⟨hlt,(fun a ha=>by cases ha),fun a z=>by cases z⟩
 ·exact ⟨hlt,(fun a ha _=>by cases ha;exact ⟨rfl,.inl ⟨.inr rfl,.inr ⟨rfl,rfl⟩⟩⟩),fun a z=>by cases z⟩
 ·exact ⟨hlt,(fun a ha _=>by cases ha;exact ⟨rfl,.inl ⟨.inr rfl,.inr ⟨rfl,rfl⟩⟩⟩),fun a z=>by cases z⟩
 ·exact ⟨hlt,(fun a ha _=>by cases ha;exact ⟨rfl,.inl ⟨.inl rfl,.inl rfl⟩⟩),fun a z=>by cases z⟩
 ·exact ⟨hlt,(fun a ha _=>by cases ha;exact ⟨rfl,.inl ⟨.inr rfl,.inl rfl⟩⟩),fun a z=>by cases z⟩
theorem nN {w':World}{l:List Event}(hR:w.heap[G.R]?=some (.cells (lay G.c G.q (G.wd τ) (G.sm τ)) G.e (0,0)))(ho:bf (·=G.R) w w')(hc:w'.heap[G.R]?=some (.cells (lay G'.c G.q (G'.wd τ) (G'.sm τ)) G.e (0,0)))
  (hl:∀ e∈l,(∃ m,e=⟨.mark m,false,true⟩∧(m=.disable∨m=.enable∨m=.acquire ⟨G.R,G.q,none⟩∨m=.write ⟨G.R,G.q+1,none⟩∨m=.read ⟨G.R,G.q+1,none⟩))∨(∃ wr,e=⟨.cell ⟨G.R,G.q,none⟩,wr,true⟩)∨∃ wr,e=⟨.cell ⟨G.R,G.q+1,none⟩,wr,true⟩)
  (hi:G'.Inv τ)(hd:deafBehind (Deaf T 0) l.toArray=G'.d0)(hfx:G'.fx→(∀ i,1≤i→i≤G'.n→τ i < 7)∧Over G'.n (T ++ MemOp.ofEvents 0 fn pos l.toArray))(hn:G'.n=G.n):zX G G' τ T w w' fn pos l.toArray :=
 ⟨ho,hc,fun e he=>(zY (G:=G) ⟨_,hR⟩ (hl e (by simpa using he))).1,fun e he=>(zY (G:=G) ⟨_,hR⟩ (hl e (by simpa using he))).2.1,fun e he=>(zY (G:=G) ⟨_,hR⟩ (hl e (by simpa using he))).2.2,hi,(Deaf_own _ _ _ _ _).trans hd,hfx,fun i _ h2 _=>hn ▸ h2⟩
end
theorem MZ {a:Addr}{n:Nat}{T:Trace}(hS:∀ i,1≤i→i≤n→Said a T i)(hd:Deaf T 0=0)(hr:rO a T)(fn:FuncId)(pos:String):Over n (T ++ MemOp.ofEvents 0 fn pos #[⟨.mark (.acquire a),false,true⟩]):=by
 have ho:(T ++ MemOp.ofEvents 0 fn pos #[⟨.mark (.acquire a),false,true⟩])[T.size]?=some { g:=0,fn:=fn,pos:=pos,act:=.mark (.acquire a) }:=by
  rw [ofEvents_eq]
  simp [MemAct.ofEvent]
 have hr2:rO a (T ++ MemOp.ofEvents 0 fn pos #[⟨.mark (.acquire a),false,true⟩]):=hr.app fun op hop z=>by
  obtain ⟨e,he,rfl⟩:=Go.Conc.mem_ofEvents hop
  simp only [List.mem_toArray,List.mem_cons,List.not_mem_nil,or_false] at he
  subst he
  cases z
 intro i k h1 h2 hg hc
 have hk:k < T.size:=by
  rcases Nat.lt_or_ge k T.size with z | z
  ·exact z
  ·obtain ⟨op,hop,e⟩:=zQ z hg
   obtain ⟨_,_,rfl⟩:=Go.Conc.mem_ofEvents hop
   simp only at e
   omega
 obtain ⟨m,m1,m2,m3,m4⟩:=hS i h1 h2
 have hm:=xz m1
 rw [g?_old hk] at hg
 have hkm:=m4 k hg ((counts_old hk).1 hc)
 refine ⟨T.size,by simp [Trace.g?,ho],?_⟩
 have e1:HappensBefore (T ++ MemOp.ofEvents 0 fn pos #[⟨.mark (.acquire a),false,true⟩]) k m:=.single (.inl ⟨hkm,i,by rw [g?_old hk];exact hg,by rw [g?_old hm];exact m1⟩)
 have ea:(T ++ MemOp.ofEvents 0 fn pos #[⟨.mark (.acquire a),false,true⟩]).act? m=T.act? m:=by simp only [Trace.act?,getElem?_append_old hm]
 have e2:HappensBefore (T ++ MemOp.ofEvents 0 fn pos #[⟨.mark (.acquire a),false,true⟩]) m T.size :=
  .single (.inr ⟨.marked (a:=a) hm (.inr (ea.trans m2)) (by simp [Trace.act?,ho]) (fun k _ _=>hr2 k),(heard_old hm).2 m3,⟨0,by simp [Trace.g?,ho],by rw [deaf_old (Nat.le_refl _)];exact hd⟩⟩)
 exact .trans e1 e2
def mG (τ:Nat→Nat):Nat→Nat
 | 0=>0
 | n+1=>mG τ n+τ (n+1)
theorem xJ {τ τ':Nat→Nat}(h:∀ i,τ i≤τ' i):∀ n,mG τ n≤mG τ' n
 | 0=>Nat.le_refl 0
 | n+1=>Nat.add_le_add (xJ h n) (h (n+1))
theorem EM {τ τ':Nat→Nat}(h:∀ i,τ i≤τ' i):∀ n,cnt τ n≠cnt τ' n→mG τ n < mG τ' n
 | 0,e=>absurd rfl e
 | n+1,e=>by
  unfold cnt at e
  unfold mG
  have h1:=h (n+1)
  by_cases q:cnt τ n=cnt τ' n
  ·have h2:=xJ h n
   have:τ (n+1)≠τ' (n+1):=fun z=>e (by rw [q,z])
   omega
  ·have:=EM h n q
   omega
theorem M6 {n:Nat}{τ:Nat→Nat}(h:oQ n τ)(hc:cnt τ n=0):iW n τ:=fun i h1 h2=>by
 have:=EJ τ n hc i h1 h2
 rcases h.2 i h1 h2 with z | z
 ·exact z
 ·omega
theorem M7 {n:Nat}{τ:Nat→Nat}(h:oQ n τ):Inv1 n τ:=⟨h.1,fun _=>h.2,fun i _ h1 h2 _ _ h3 h4 _ _=>by have:=h.2 i h1 h2;omega⟩
theorem M8 {n:Nat}{τ:Nat→Nat}(h:oQ n τ)(hc:0 < cnt τ n):gK n τ=cnt τ n * 4294967296+1∧fO n τ=0:=by
 constructor
 ·unfold gK
  rw [if_neg fun ⟨i,h1,h2,h3⟩=>by have:=h.2 i h1 h2;omega,if_neg ag]
 ·unfold fO
  rw [if_neg fun z=>by have:=rT τ n fun i h1 h2=>by have:=z i h1 h2;omega
                       omega]
theorem Na {n:Nat}{τ:Nat→Nat}(h:iW n τ):gK n τ=0∧fO n τ=1:=by
 constructor
 ·unfold gK
  rw [if_neg fun ⟨i,h1,h2,h3⟩=>by have:=h i h1 h2;omega,if_pos (rT τ n fun i h1 h2=>by have:=h i h1 h2;omega)]
 ·unfold fO
  rw [if_pos h]
theorem Nb {n:Nat}{τ:Nat→Nat}(h:¬ iW n τ):fO n τ=0:=by unfold fO;rw [if_neg h]
end
section
variable {P:Program}{C:Nat→Prop}{O:Nat→Option (Array CommCase×CommShape)}{Home:Nat→(Nat→Prop)→Goroutine→World→Prop}{St:ai}{b:aJ}
def Came (P:Program)(C:Nat→Prop)(O:Nat→Option (Array CommCase×CommShape))(Home:Nat→(Nat→Prop)→Goroutine→World→Prop)(G:aJ)(St:ai)(gs0:Array Goroutine)(w0:World)(sl0:Option (Nat×Nat))(T0:Trace)(τ0:Nat→Nat):Prop :=
 ∃ N gs w sl T own τ L',runNT P N (crowd gs0 w0 sl0) T0=(.next (crowd gs w sl),T)∧gs.size=gs0.size∧dZ O 0 τ0 τ∧aP P C (G.env P) τ O Home St 0 gs w T own L'∧0∉L'
theorem Came.then {G G':aJ}{St bU:ai}{gs0:Array Goroutine}{w0:World}{sl0:Option (Nat×Nat)}{T0:Trace}{τ0:Nat→Nat}(h:Came P C O Home G St gs0 w0 sl0 T0 τ0)
  (k:∀ (gs:Array Goroutine)(w:World)(sl:Option (Nat×Nat))(T:Trace)(own:Nat→Nat→Prop)(τ:Nat→Nat)(L:List Nat),gs.size=gs0.size→dZ O 0 τ0 τ→aP P C (G.env P) τ O Home St 0 gs w T own L→0∉L→Came P C O Home G' bU gs w sl T τ):Came P C O Home G' bU gs0 w0 sl0 T0 τ0:=by
 obtain ⟨N,gs,w,sl,T,own,τ,L,h1,h2,h3,h4,h5⟩:=h
 obtain ⟨N2,gs2,w2,sl2,T2,gJ,τ2,L2,k1,k2,k3,k4,k5⟩:=k gs w sl T own τ L h2 h3 h4 h5
 exact ⟨N+N2,gs2,w2,sl2,T2,gJ,τ2,L2,by rw [runNT_then N N2 _ _ _ _ h1];exact k1,k2.trans h2,h3.trans k3,k4,k5⟩
variable {gs0:Array Goroutine}{w0:World}{sl0:Option (Nat×Nat)}{T0:Trace}{aU:Nat→Nat→Prop}{τ0:Nat→Nat}{L:List Nat}
theorem aP.mark {G G':aJ}(K:dB P (G.env P))(U:dN C O)(S:G.Same G')(hn:G'.n=G.n)(hC:¬ C G.R)(hsh:¬ G.shut G.R){m:Mark}(hm:m=.disable∨m=.enable∨m=.acquire ⟨G.R,G.q,none⟩∨m=.write ⟨G.R,G.q+1,none⟩∨m=.read ⟨G.R,G.q+1,none⟩){Nx:ai}
  (hc:∀ τ,G.Inv τ→lay G'.c G.q (G'.wd τ) (G'.sm τ)=lay G.c G.q (G.wd τ) (G.sm τ))(hi:∀ τ,G.Inv τ→G'.Inv τ)(hd:deafBehind G.d0 #[⟨.mark m,false,true⟩]=G'.d0)(hfx:∀ τ T fn pos,G.told τ T→G'.fx→(∀ i,1≤i→i≤G'.n→τ i < 7)∧Over G'.n (T ++ MemOp.ofEvents 0 fn pos #[⟨.mark m,false,true⟩]))
  (H:aP P C (G.env P) τ0 O Home (gz P m Nx) 0 gs0 w0 T0 aU L)(hh:0∉L):Came P C O Home G' Nx gs0 w0 sl0 T0 τ0:=by
 obtain ⟨_,N,gs,w,sl,T,own,τ,L',_,h1,h2,h3,h4,h5⟩:=H.oU (sl0:=sl0) K U (Z:=Unit) (bU:=fun _=>Nx) (G':=fun _=>G') (fun _ _=>True) (fun _=>S) (fun _=>Nat.le_of_eq hn.symm) (fun M g w h=>h.1) hC hsh hh fun τ T w M g hk hs ht hR=>by
  obtain ⟨_,g',hst,hr⟩:=hs
  exact ⟨(),g',w,_,trivial,hst w,nN (l:=[⟨.mark m,false,true⟩]) hR (bf.refl _ w) (by rw [hc τ ht.1.1];exact hR) (fun e he=>by simp only [List.mem_cons,List.not_mem_nil,or_false] at he;exact .inl ⟨m,he,hm⟩) (hi τ ht.1.1) (by rw [ht.1.2.1];exact hd) (hfx τ T _ _ ht) hn,hr⟩
 exact ⟨N,gs,w,sl,T,own,τ,L',h1,h2,h3,h4,h5⟩
theorem aP.pure {G:aJ}(K:dB P (G.env P))(U:dN C O)(hC:¬ C G.R)(hsh:¬ G.shut G.R)(hfx:¬ G.fx)(hq:G.q+1 < G.c.size){ad:Addr}(had:ad=⟨G.R,G.q,none⟩∨ad=⟨G.R,G.q+1,none⟩){Nx:ai}
  (H:aP P C (G.env P) τ0 O Home (vw P ad Nx) 0 gs0 w0 T0 aU L)(hh:0∉L):Came P C O Home G Nx gs0 w0 sl0 T0 τ0:=by
 obtain ⟨_,N,gs,w,sl,T,own,τ,L',_,h1,h2,h3,h4,h5⟩:=H.oU (sl0:=sl0) K U (Z:=Unit) (bU:=fun _=>Nx) (G':=fun _=>G) (fun _ _=>True) (fun _=>⟨rfl,rfl,rfl,rfl,rfl⟩) (fun _=>Nat.le_refl _) (fun M g w h=>h.1) hC hsh hh fun τ T w M g hk hs ht hR=>by
  obtain ⟨_,g',hst,hr⟩:=hs
  have hcell:∃ v,w.cell? ad=some v:=by
   rcases had with rfl | rfl
   ·exact ⟨_,jP hR (qx hq _ _)⟩
   ·exact ⟨_,jP hR (xB hq _ _)⟩
  obtain ⟨v,hv⟩:=hcell
  exact ⟨(),g',w,_,trivial,hst w v hv,nN (l:=[]) hR (bf.refl _ w) hR (fun e he=>absurd he ah) ht.1.1 ht.1.2.1 (fun f=>absurd f hfx) rfl,hr⟩
 exact ⟨N,gs,w,sl,T,own,τ,L',h1,h2,h3,h4,h5⟩
theorem aP.Nc (U:dN C O)(hq:b.q+1 < b.c.size)(hC:¬ C b.R)(hsh:¬ b.shut b.R)(H:aP P C ((G2 b 1 False).env P) τ0 O Home (lI P b.R b.q St) 0 gs0 w0 T0 aU L)(hh:0∉L):Came P C O Home (G2 b 0 True) St gs0 w0 sl0 T0 τ0:=by
 have K:∀ d f,dB P ((G2 b d f).env P):=fun d f=>kQ (G:=G2 b d f) (zW b.n) hq hsh
 refine (aP.mark (G:=G2 b 1 False) (G':=G2 b 0 False) (K 1 False) U ⟨rfl,rfl,rfl,rfl,rfl⟩ rfl hC hsh (.inr (.inl rfl)) (fun _ _=>rfl) (fun _ h=>h) rfl (fun _ _ _ _ _ f=>f.elim) H hh).then fun gs w sl T own τ L hs hk H1 h1=>?_
 refine (aP.pure (G:=G2 b 0 False) (K 0 False) U hC hsh id hq (.inl rfl) H1 h1).then fun gs w sl T own τ L hs hk H2 h2=>?_
 exact aP.mark (G:=G2 b 0 False) (G':=G2 b 0 True) (K 0 False) U ⟨rfl,rfl,rfl,rfl,rfl⟩ rfl hC hsh (.inr (.inr (.inl rfl))) (fun _ _=>rfl) (fun _ h=>h) rfl (fun τ T fn pos ht _=>by
  have hlt:∀ i,1≤i→i≤b.n→τ i < 7:=fun i k1 k2=>by have:=ht.1.1 i k1 k2;omega
  exact ⟨hlt,MZ (fun i k1 k2=>(ht.2 i k1 k2 (hlt i k1 k2)).2) ht.1.2.1 ht.1.2.2.1 fn pos⟩) H2 h2
theorem aP.Nf (U:dN C O)(hO:∀ i,i≠0→O i=none)(hq:b.q+1 < b.c.size)(hC:¬ C b.R)(hsh:¬ b.shut b.R)(hsz:b.n < gs0.size)(H:aP P C ((G1 b).env P) τ0 O Home (vz P b.R b.q St) 0 gs0 w0 T0 aU L)(hh:0∉L):Came P C O Home (G2 b 1 False) (lI P b.R b.q St) gs0 w0 sl0 T0 τ0:=by
 have K:dB P ((G1 b).env P):=kQ (G:=G1 b) (MS b.n) hq hsh
 have K2:dB P ((G2 b 1 False).env P):=kQ (G:=G2 b 1 False) (zW b.n) hq hsh
 refine (aP.pure (G:=G1 b) K U hC hsh id hq (.inr rfl) H hh).then fun gs w sl T own τ L hs1 hk H1 h1=>?_
 refine (aP.mark (G:=G1 b) (G':=G1 b) K U ⟨rfl,rfl,rfl,rfl,rfl⟩ rfl hC hsh (.inr (.inr (.inr (.inl rfl)))) (fun _ _=>rfl) (fun _ h=>h) rfl (fun _ _ _ _ _ f=>f.elim) H1 h1).then fun gs w sl T own τ L hs2 hk H2 h2=>?_
 have hsz2:b.n < gs.size:=by omega
 have served:Came P C O Home (G2 b 1 False) (xI P ⟨b.R,b.q,none⟩ (·=0) fun _=>lI P b.R b.q St) gs w sl T τ:=by
  obtain ⟨_,N,gs,w,sl,T,own,τ,L',_,k1,k2,k3,k4,k5⟩:=H2.MU (sl0:=sl) (Wk:=iW b.n) K U hO (Z:=Unit) (bU:=fun _=>xI P ⟨b.R,b.q,none⟩ (·=0) fun _=>lI P b.R b.q St) (G':=fun _=>G2 b 1 False) (fun _ _=>True) (fun _=>⟨rfl,rfl,rfl,rfl,rfl⟩) (fun _=>Nat.le_refl _) (fun M g w h=>h.1) hC hsh h2 (MV (G:=G1 b) hq rfl rfl hsz2)
   (fun M g w1 hs τ w hn hR=>hs.2.1 w ((jP hR (xB hq _ _)).trans (by show some (Value.int .u32 ((fO b.n τ:Nat):Int))=_;rw [Nb hn];rfl)))
   fun τ T w M g hk hW hs ht hR=>by
    obtain ⟨_,_,g',hst,hr⟩:=hs
    obtain ⟨e1,e2⟩:=Na hW
    have hcell:w.cell? ⟨b.R,b.q+1,none⟩=some (.int .u32 1):=(jP hR (xB hq _ _)).trans (by show some (Value.int .u32 ((fO b.n τ:Nat):Int))=_;rw [e2];rfl)
    refine ⟨(),g',_,_,trivial,hst w hcell (qy hR),nN (G:=G1 b) (G':=G2 b 1 False) (l:=[⟨.mark .disable,false,true⟩,⟨.cell ⟨b.R,b.q+1,none⟩,false,true⟩,⟨.cell ⟨b.R,b.q+1,none⟩,true,true⟩,⟨.mark .enable,false,true⟩]) hR (bf.setCell w ⟨b.R,b.q+1,none⟩ _) ?_ (fun e he=>?_) hW (by rw [ht.1.2.1];rfl) (fun f=>f.elim) rfl,hr⟩
    ·refine (qz hR).trans ?_
     show some (Obj.cells ((lay b.c b.q (gK b.n τ) (fO b.n τ)).setIfInBounds (b.q+1) (.int .u32 0)) b.e (0,0))=some (Obj.cells (lay b.c b.q 0 0) b.e (0,0))
     rw [e1,show (Value.int .u32 0)=.int .u32 ((0:Nat):Int) from rfl,Ey]
    ·simp only [List.mem_cons,List.not_mem_nil,or_false] at he
     rcases he with rfl | rfl | rfl | rfl
     ·exact .inl ⟨_,rfl,.inl rfl⟩
     ·exact .inr (.inr ⟨_,rfl⟩)
     ·exact .inr (.inr ⟨_,rfl⟩)
     ·exact .inl ⟨_,rfl,.inr (.inl rfl)⟩
  exact ⟨N,gs,w,sl,T,own,τ,L',k1,k2,k3,k4,k5⟩
 refine served.then fun gs w sl T own τ L hs3 hk H3 h3=>?_
 obtain ⟨_,N,gs,w,sl,T,own,τ,L',_,k1,k2,k3,k4,k5⟩:=H3.oU (sl0:=sl) K2 U (Z:=Unit) (bU:=fun _=>lI P b.R b.q St) (G':=fun _=>G2 b 1 False) (fun _ _=>True) (fun _=>⟨rfl,rfl,rfl,rfl,rfl⟩) (fun _=>Nat.le_refl _) (fun M g w h=>h.1) hC hsh h3 fun τ T w M g hk hs ht hR=>by
  obtain ⟨_,hs⟩:=hs
  obtain ⟨g',hst,hr⟩:=hs 0 rfl
  exact ⟨(),g',w,_,trivial,hst w ((jP hR (qx hq _ _)).trans rfl),nN (G:=G2 b 1 False) (l:=[⟨.cell ⟨b.R,b.q,none⟩,false,true⟩]) hR (bf.refl _ w) hR (fun e he=>by simp only [List.mem_cons,List.not_mem_nil,or_false] at he;exact .inr (.inl ⟨_,he⟩)) ht.1.1 (by rw [ht.1.2.1];rfl) (fun f=>f.elim) rfl,hr⟩
 exact ⟨N,gs,w,sl,T,own,τ,L',k1,k2,k3,k4,k5⟩
theorem aP.looks (U:dN C O)(hO:∀ i,i≠0→O i=none)(hq:b.q+1 < b.c.size)(hC:¬ C b.R)(hsh:¬ b.shut b.R):∀ (k:Nat)(gs0:Array Goroutine)(w0:World)(sl0:Option (Nat×Nat))(T0:Trace)(aU:Nat→Nat→Prop)(τ0:Nat→Nat)(L:List Nat),b.n < gs0.size→mG τ0 b.n < k→aP P C ((G0 b 1).env P) τ0 O Home (lJ P b.R b.q St k) 0 gs0 w0 T0 aU L→0∉L →
  Came P C O Home (G2 b 1 False) (lI P b.R b.q St) gs0 w0 sl0 T0 τ0:=by
 have K:dB P ((G0 b 1).env P):=kQ (G:=G0 b 1) (xE b.n) hq hsh
 intro k
 induction k with
 | zero=>intro gs0 w0 sl0 T0 aU τ0 L _ h;exact absurd h (Nat.not_lt_zero _)
 | succ k ih =>
  intro gs0 w0 sl0 T0 aU τ0 L hsz hsum H hh
  unfold lJ at H
  have hwd:∀ τ (w:World),w.heap[b.R]?=some (.cells (lay b.c b.q (iV b.n τ) 0) b.e (0,0))→w.cell? ⟨b.R,b.q,none⟩=some (.int .u64 (cnt τ b.n * 4294967296:Nat)):=fun τ w hR=>jP hR (qx hq _ _)
  obtain ⟨p,N,gs,w,sl,T,own,τ,L',hp,k1,k2,k3,k4,k5⟩:=H.oU (sl0:=sl0) K U (Z:=Nat) (bU:=fun p=>if p=0 then lI P b.R b.q St else EL P ⟨b.R,b.q,none⟩ ((p * 4294967296:Nat):Int) (vz P b.R b.q St) (lJ P b.R b.q St k)) (G':=fun p=>if p=0 then G2 b 1 False else G0 b 1) (fun p τ=>cnt τ b.n=p) (fun p=>by split <;> exact ⟨rfl,rfl,rfl,rfl,rfl⟩) (fun p=>by split <;> exact Nat.le_refl _) (fun M g w h=>h.1) hC hsh hh fun τ T w M g hk hs ht hR=>by
   obtain ⟨_,hs⟩:=hs
   have hl:=xD τ b.n
   have hn:b.n≤100:=ht.1.1.1
   obtain ⟨g',hst,hr⟩:=hs (cnt τ b.n) (by show cnt τ b.n≤100;omega)
   refine ⟨cnt τ b.n,g',w,_,rfl,hst w (hwd τ w hR),?_,hr⟩
   split
   ·rename_i hz
    exact nN (G:=G0 b 1) (G':=G2 b 1 False) (l:=[⟨.cell ⟨b.R,b.q,none⟩,false,true⟩]) hR (bf.refl _ w) (hR.trans (by show some (Obj.cells (lay b.c b.q (iV b.n τ) 0) b.e (0,0))=some (Obj.cells (lay b.c b.q 0 0) b.e (0,0));unfold iV;rw [hz,Nat.zero_mul])) (fun e he=>by simp only [List.mem_cons,List.not_mem_nil,or_false] at he;exact .inr (.inl ⟨_,he⟩)) (M6 ht.1.1 hz) (by rw [ht.1.2.1];rfl) (fun f=>f.elim) rfl
   ·exact nN (G:=G0 b 1) (G':=G0 b 1) (l:=[⟨.cell ⟨b.R,b.q,none⟩,false,true⟩]) hR (bf.refl _ w) hR (fun e he=>by simp only [List.mem_cons,List.not_mem_nil,or_false] at he;exact .inr (.inl ⟨_,he⟩)) ht.1.1 (by rw [ht.1.2.1];rfl) (fun f=>f.elim) rfl
  by_cases hp0:p=0
  ·simp only [if_pos hp0] at k4
   exact ⟨N,gs,w,sl,T,own,τ,L',k1,k2,k3,k4,k5⟩
  simp only [if_neg hp0] at k4
  have hsz1:b.n < gs.size:=by omega
  obtain ⟨hit,N2,gs2,w2,sl2,T2,gJ,τ2,L2,hQ,m1,m2,m3,m4,m5⟩:=k4.oU (sl0:=sl) K U (Z:=Bool) (bU:=fun h=>if h then vz P b.R b.q St else lJ P b.R b.q St k) (G':=fun h=>if h then G1 b else G0 b 1) (fun h τ'=>h=false→cnt τ' b.n≠p) (fun h=>by cases h <;> exact ⟨rfl,rfl,rfl,rfl,rfl⟩) (fun h=>by cases h <;> exact Nat.le_refl _) (fun M g w h=>h.1) hC hsh k5 fun τ T w M g hk hs ht hR=>by
   obtain ⟨_,⟨g1,Ng,hr1⟩,g2,Nh,hr2⟩:=hs
   by_cases e:cnt τ b.n=p
   ·obtain ⟨e1,e2⟩:=M8 ht.1.1 (by omega:0 < cnt τ b.n)
    refine ⟨true,g1,_,_,(fun z=>by cases z),Ng w (by rw [hwd τ w hR,e]) (qy hR),nN (G:=G0 b 1) (G':=G1 b) (l:=[⟨.cell ⟨b.R,b.q,none⟩,false,true⟩,⟨.cell ⟨b.R,b.q,none⟩,true,true⟩]) hR (bf.setCell w ⟨b.R,b.q,none⟩ _) ?_ (fun x he=>?_) (M7 ht.1.1) (by rw [ht.1.2.1];rfl) (fun f=>f.elim) rfl,hr1⟩
    ·refine (qz hR).trans ?_
     show some (Obj.cells ((lay b.c b.q (iV b.n τ) 0).setIfInBounds b.q (.int .u64 (((p * 4294967296:Nat):Int)+1))) b.e (0,0))=some (Obj.cells (lay b.c b.q (gK b.n τ) (fO b.n τ)) b.e (0,0))
     rw [e1,e2,e,show (((p * 4294967296:Nat):Int)+1)=((p * 4294967296+1:Nat):Int) from rfl,xA]
    ·simp only [List.mem_cons,List.not_mem_nil,or_false] at he
     rcases he with rfl | rfl
     ·exact .inr (.inl ⟨_,rfl⟩)
     ·exact .inr (.inl ⟨_,rfl⟩)
   ·exact ⟨false,g2,w,_,fun _=>e,Nh w _ (hwd τ w hR) (qy hR) (fun z=>e ag),nN (G:=G0 b 1) (G':=G0 b 1) (l:=[⟨.cell ⟨b.R,b.q,none⟩,false,true⟩]) hR (bf.refl _ w) hR (fun x he=>by simp only [List.mem_cons,List.not_mem_nil,or_false] at he;exact .inr (.inl ⟨_,he⟩)) ht.1.1 (by rw [ht.1.2.1];rfl) (fun f=>f.elim) rfl,hr2⟩
  have first:∀ {Gx:aJ} {Sx:ai},aP P C (Gx.env P) τ2 O Home Sx 0 gs2 w2 T2 gJ L2→Came P C O Home Gx Sx gs0 w0 sl0 T0 τ0:=fun hx=>⟨N+N2,gs2,w2,sl2,T2,gJ,τ2,L2,by rw [runNT_then N N2 _ _ _ _ k1];exact m1,m2.trans k2,k3.trans m3,hx,m5⟩
  cases hit with
  | true=>exact (first m4).then fun gs w sl T own τ L hs hk Hx hx=>Hx.Nf U hO hq hC hsh ag hx
  | false =>
   obtain ⟨N3,Ni,w3,Nj,T3,Nk,τ3,L3,n1,n2,n3,n4,n5⟩:=ih gs2 w2 sl2 T2 gJ τ2 L2 ag (by
    have q1:cnt τ2 b.n≠cnt τ b.n:=by rw [hp];exact hQ rfl
    have:=EM m3.1.2 b.n q1
    have:=xJ k3.1.2 b.n
    omega) m4 m5
   exact ⟨N+N2+N3,Ni,w3,Nj,T3,Nk,τ3,L3,by rw [runNT_then (N+N2) N3 _ _ _ _ (by rw [runNT_then N N2 _ _ _ _ k1];exact m1)];exact n1,n2.trans (m2.trans k2),(k3.trans m3).trans n3,n4,n5⟩
theorem aP.waits (U:dN C O)(hO:∀ i,i≠0→O i=none)(hq:b.q+1 < b.c.size)(hC:¬ C b.R)(hsh:¬ b.shut b.R)(hsz:b.n < gs0.size){k:Nat}(hsum:mG τ0 b.n < k)(H:aP P C ((G0 b 0).env P) τ0 O Home (gz P .disable (lJ P b.R b.q St k)) 0 gs0 w0 T0 aU L)(hh:0∉L) :
  Came P C O Home (G2 b 0 True) St gs0 w0 sl0 T0 τ0:=by
 have K:dB P ((G0 b 0).env P):=kQ (G:=G0 b 0) (xE b.n) hq hsh
 refine (aP.mark (G:=G0 b 0) (G':=G0 b 1) K U ⟨rfl,rfl,rfl,rfl,rfl⟩ rfl hC hsh (.inl rfl) (fun _ _=>rfl) (fun _ h=>h) rfl (fun _ _ _ _ _ f=>f.elim) H hh).then fun gs w sl T own τ L hs hk H1 h1=>?_
 refine (aP.looks U hO hq hC hsh k gs w sl T own τ L ag (by have:=xJ hk.1.2 b.n;omega) H1 h1).then fun gs w sl T own τ L hs hk H2 h2=>?_
 exact H2.Nc U hq hC hsh h2
end
section
variable {P:Program}{M:Nat→Prop}{w:World}{b:Frame}{a:Act}{cs:List Frame}
def xK (P:Program)(ad:Addr)(Nx:Nat→ai):ai:=fun M g w=>g.status=.running∧∀ p,p≤99→∃ g',(∀ w1,w1.cell? ad=some (.int .u64 (p * 4294967296:Nat))→w1.frozen? ad=false→stepG P true g w1=.go g' (w1.setCell ad (.int .u64 ((p+1) * 4294967296:Nat))) #[⟨.cell ad,false,true⟩,⟨.cell ad,true,true⟩])∧aj P true (Nx p) M g' w
def oV (P:Program)(R q:Nat)(St:ai)(p:Nat):ai:=if p=0 then vw P ⟨R,q+1,none⟩ (gz P (.read ⟨R,q+1,none⟩) (gz P .enable St)) else gz P .enable St
theorem EN {Nx:ai}{fn:Func}{todo:List Item}{ds:List Deferred}{f:FuncId}(hd:a.defers=dcall f #[] :: ds)(hf:P.funcs[f]?=some fn)(hname:(fn.name == "runtime.NumGoroutine")=false)(hb:fn.body.isNone=true)(hn:Extern.findNext fn=none)
  (he:Extern.find fn=some (fun _=>do mark .enable;pure Extern.Race.none_))
  (hq:aj P true Nx M (G { b.at ⟨a.tmps,ds⟩ todo with mode:=.returning } cs) w):aj P true (gz P .enable Nx) M (G { b.at a todo with mode:=.returning } cs) w :=
 MR.mark rfl (fun w=>stepG_unwind_entry (v:=.tuple #[]) hd hf hname hb hn he (by simp [Extern.Race.none_]) ah Dm) hq
end
def GH (b:aJ)(k d:Nat):aJ:={ b with n:=0,d0:=d,Inv:=fun τ=>∀ i,τ i=7,wd:=fun _=>k * 4294967296,sm:=fun _=>0,fx:=False }
theorem EO (b:aJ)(k k' d d':Nat):(GH b k d).Same (GH b k' d'):=⟨(rfl:b.R=b.R),(rfl:b.q=b.q),(rfl:b.e=b.e),(rfl:b.shut=b.shut),(rfl:b.out=b.out)⟩
def aJ.set (G:aJ)(k:Nat)(v:Value):aJ:={ G with c:=G.c.setIfInBounds k v }
theorem Nl (c:Array Value){q k:Nat}(a b:Nat)(v:Value)(h1:k≠q)(h2:k≠q+1):(lay c q a b).setIfInBounds k v=lay (c.setIfInBounds k v) q a b:=by
 unfold lay
 rw [Array.setIfInBounds_comm _ _ (fun e=>h2 e.symm),Array.setIfInBounds_comm _ _ (fun e=>h1 e.symm)]
theorem EP {n:Nat}{T:Trace}(h:Over n T)(fn:FuncId)(pos:String)(es:Array Event):Over n (T ++ MemOp.ofEvents 0 fn pos es) :=
 h.app fun k i hk h1 _ hg=>by
  obtain ⟨op,hop,e⟩:=zQ hk hg
  obtain ⟨_,_,rfl⟩:=Go.Conc.mem_ofEvents hop
  simp only at e
  omega
def qC (P:Program)(ad:Addr)(v:Value)(Nx:ai):ai:=fun M g w=>g.status=.running∧∃ g',(∀ w1,w1.cell? ad=some v→stepG P true g w1=.go g' w1 #[⟨.cell ad,false,false⟩])∧aj P true Nx M g' w
def rX (P:Program)(ad:Addr)(v:Value)(Nx:ai):ai:=fun M g w=>g.status=.running∧∃ g',(∀ w1 x,w1.cell? ad=some x→w1.frozen? ad=false→stepG P true g w1=.go g' (w1.setCell ad v) #[⟨.cell ad,true,false⟩])∧aj P true Nx M g' w
section
variable {P:Program}{C:Nat→Prop}{O:Nat→Option (Array CommCase×CommShape)}{Home:Nat→(Nat→Prop)→Goroutine→World→Prop}{St:ai}{b:aJ}{gs0:Array Goroutine}{w0:World}{sl0:Option (Nat×Nat)}{T0:Trace}{aU:Nat→Nat→Prop}{τ0:Nat→Nat}{L:List Nat}
theorem rY {G:aJ}{k:Nat}(h1:k≠G.q)(h2:k≠G.q+1){wr:Bool}{w:World}(hR:∃ o,w.heap[G.R]?=some o){e:Event}(he:e=⟨.cell ⟨G.R,k,none⟩,wr,false⟩) :
  (MemAct.ofEvent e).low w.heap.size∧(∀ a,(MemAct.ofEvent e).touch?=some a→a.loc.isMemory=true→dI G.R a.loc∧rJ G.R G.q 0 a)∧∀ a,MemAct.ofEvent e≠.mark (.release a):=by
 subst he
 obtain ⟨o,hR⟩:=hR
 have hlt:G.R < w.heap.size:=(Array.getElem?_eq_some_iff.1 hR).1
 exact ⟨hlt,(fun a ha _=>by cases ha;exact ⟨rfl,.inr ⟨rfl,(fun z=>h1 (by cases z;rfl)),fun z=>h2 (by cases z;rfl)⟩⟩),fun a z=>by cases z⟩
theorem aP.reads {G:aJ}(K:dB P (G.env P))(U:dN C O)(hC:¬ C G.R)(hsh:¬ G.shut G.R){k:Nat}(h1:k≠G.q)(h2:k≠G.q+1){v:Value}(hv:G.c[k]?=some v){Nx:ai}
  (H:aP P C (G.env P) τ0 O Home (qC P ⟨G.R,k,none⟩ v Nx) 0 gs0 w0 T0 aU L)(hh:0∉L):Came P C O Home G Nx gs0 w0 sl0 T0 τ0:=by
 obtain ⟨_,N,gs,w,sl,T,own,τ,L',_,k1,k2,k3,k4,k5⟩:=H.oU (sl0:=sl0) K U (Z:=Unit) (bU:=fun _=>Nx) (G':=fun _=>G) (fun _ _=>True) (fun _=>⟨rfl,rfl,rfl,rfl,rfl⟩) (fun _=>Nat.le_refl _) (fun M g w h=>h.1) hC hsh hh fun τ T w M g hk hs ht hR=>by
  obtain ⟨_,g',hst,hr⟩:=hs
  have hc:w.cell? ⟨G.R,k,none⟩=some v:=jP hR ((Ez _ _ h1 h2).trans hv)
  have one:∀ e∈(#[⟨.cell ⟨G.R,k,none⟩,false,false⟩]:Array Event),e=⟨.cell ⟨G.R,k,none⟩,false,false⟩:=fun e he=>by simpa using he
  exact ⟨(),g',w,_,trivial,hst w hc,⟨bf.refl _ w,hR,fun e he=>(rY h1 h2 ⟨_,hR⟩ (one e he)).1,fun e he=>(rY h1 h2 ⟨_,hR⟩ (one e he)).2.1,fun e he=>(rY h1 h2 ⟨_,hR⟩ (one e he)).2.2,ht.1.1,(Deaf_own _ _ _ _ _).trans ht.1.2.1,fun f=>⟨(ht.1.2.2.2 f).1,EP (ht.1.2.2.2 f).2 _ _ _⟩,fun i _ q _=>q⟩,hr⟩
 exact ⟨N,gs,w,sl,T,own,τ,L',k1,k2,k3,k4,k5⟩
theorem aP.writes {G:aJ}(K:dB P (G.env P))(U:dN C O)(hC:¬ C G.R)(hsh:¬ G.shut G.R){k:Nat}(h1:k≠G.q)(h2:k≠G.q+1)(hk:k < G.c.size){v:Value}{Nx:ai}
  (H:aP P C (G.env P) τ0 O Home (rX P ⟨G.R,k,none⟩ v Nx) 0 gs0 w0 T0 aU L)(hh:0∉L):Came P C O Home (G.set k v) Nx gs0 w0 sl0 T0 τ0:=by
 obtain ⟨_,N,gs,w,sl,T,own,τ,L',_,k1,k2,k3,k4,k5⟩:=H.oU (sl0:=sl0) K U (Z:=Unit) (bU:=fun _=>Nx) (G':=fun _=>G.set k v) (fun _ _=>True) (fun _=>⟨rfl,rfl,rfl,rfl,rfl⟩) (fun _=>Nat.le_refl _) (fun M g w h=>h.1) hC hsh hh fun τ T w M g hkp hs ht hR=>by
  obtain ⟨_,g',hst,hr⟩:=hs
  have hc:w.cell? ⟨G.R,k,none⟩=some G.c[k]:=jP hR ((Ez _ _ h1 h2).trans (Array.getElem?_eq_getElem hk))
  have one:∀ e∈(#[⟨.cell ⟨G.R,k,none⟩,true,false⟩]:Array Event),e=⟨.cell ⟨G.R,k,none⟩,true,false⟩:=fun e he=>by simpa using he
  exact ⟨(),g',_,_,trivial,hst w _ hc (qy hR),⟨bf.setCell w ⟨G.R,k,none⟩ v,by rw [qz hR,Nl _ _ _ _ h1 h2];rfl,fun e he=>(rY h1 h2 ⟨_,hR⟩ (one e he)).1,fun e he=>(rY h1 h2 ⟨_,hR⟩ (one e he)).2.1,fun e he=>(rY h1 h2 ⟨_,hR⟩ (one e he)).2.2,ht.1.1,(Deaf_own _ _ _ _ _).trans ht.1.2.1,fun f=>⟨(ht.1.2.2.2 f).1,EP (ht.1.2.2.2 f).2 _ _ _⟩,fun i _ q _=>q⟩,hr⟩
 exact ⟨N,gs,w,sl,T,own,τ,L',k1,k2,k3,k4,k5⟩
theorem aP.Nn (U:dN C O)(hq:b.q+1 < b.c.size)(hC:¬ C b.R)(hsh:¬ b.shut b.R){k:Nat}(hk:k≤99)(H:aP P C ((GH b k 0).env P) τ0 O Home (gz P .disable (xK P ⟨b.R,b.q,none⟩ (oV P b.R b.q St))) 0 gs0 w0 T0 aU L)(hh:0∉L) :
  Came P C O Home (GH b (k+1) 0) St gs0 w0 sl0 T0 τ0:=by
 have K:∀ k d,dB P ((GH b k d).env P):=fun k d=>kQ (G:=GH b k d) (xG k) hq hsh
 refine (aP.mark (G:=GH b k 0) (G':=GH b k 1) (K k 0) U ⟨rfl,rfl,rfl,rfl,rfl⟩ rfl hC hsh (.inl rfl) (fun _ _=>rfl) (fun _ h=>h) rfl (fun _ _ _ _ _ f=>f.elim) H hh).then fun gs w sl T own τ L hs hk1 H1 h1=>?_
 have added:Came P C O Home (GH b (k+1) 1) (oV P b.R b.q St k) gs w sl T τ:=by
  obtain ⟨_,N,gs,w,sl,T,own,τ,L',_,k1,k2,k3,k4,k5⟩:=H1.oU (sl0:=sl) (K k 1) U (Z:=Unit) (bU:=fun _=>oV P b.R b.q St k) (G':=fun _=>GH b (k+1) 1) (fun _ _=>True) (fun _=>EO b _ _ _ _) (fun _=>Nat.zero_le _) (fun M g w h=>h.1) hC hsh h1 fun τ T w M g hkp hs ht hR=>by
   obtain ⟨_,hs⟩:=hs
   obtain ⟨g',hst,hr⟩:=hs k hk
   have hR':w.heap[b.R]?=some (.cells (lay b.c b.q (k * 4294967296) 0) b.e (0,0)):=hR
   have hc:w.cell? ⟨b.R,b.q,none⟩=some (.int .u64 ((k * 4294967296:Nat):Int)):=jP hR' (qx hq _ _)
   refine ⟨(),g',_,_,trivial,hst w hc (qy hR'),nN (G:=GH b k 1) (G':=GH b (k+1) 1) (l:=[⟨.cell ⟨b.R,b.q,none⟩,false,true⟩,⟨.cell ⟨b.R,b.q,none⟩,true,true⟩]) hR (bf.setCell w ⟨b.R,b.q,none⟩ _) ?_ (fun x he=>?_) ht.1.1 (by rw [ht.1.2.1];rfl) (fun f=>f.elim) (rfl:0=0),hr⟩
   ·have hset:=qz (k:=b.q) (v:=.int .u64 (((k+1) * 4294967296:Nat):Int)) hR'
    rw [xA] at hset
    exact hset
   ·simp only [List.mem_cons,List.not_mem_nil,or_false] at he
    rcases he with rfl | rfl
    ·exact .inr (.inl ⟨_,rfl⟩)
    ·exact .inr (.inl ⟨_,rfl⟩)
  exact ⟨N,gs,w,sl,T,own,τ,L',k1,k2,k3,k4,k5⟩
 refine added.then fun gs w sl T own τ L hs hk2 H2 h2=>?_
 have leaves:∀ {gs:Array Goroutine} {w:World} {sl:Option (Nat×Nat)} {T:Trace} {own:Nat→Nat→Prop} {τ:Nat→Nat} {L:List Nat},aP P C ((GH b (k+1) 1).env P) τ O Home (gz P .enable St) 0 gs w T own L→0∉L→Came P C O Home (GH b (k+1) 0) St gs w sl T τ:=fun Hx hx =>
  aP.mark (G:=GH b (k+1) 1) (G':=GH b (k+1) 0) (K (k+1) 1) U ⟨rfl,rfl,rfl,rfl,rfl⟩ rfl hC hsh (.inr (.inl rfl)) (fun _ _=>rfl) (fun _ h=>h) rfl (fun _ _ _ _ _ f=>f.elim) Hx hx
 unfold oV at H2
 by_cases e:k=0
 ·rw [if_pos e] at H2
  refine (aP.pure (G:=GH b (k+1) 1) (K (k+1) 1) U hC hsh id hq (.inr rfl) H2 h2).then fun gs w sl T own τ L hs hk3 H3 h3=>?_
  refine (aP.mark (G:=GH b (k+1) 1) (G':=GH b (k+1) 1) (K (k+1) 1) U ⟨rfl,rfl,rfl,rfl,rfl⟩ rfl hC hsh (.inr (.inr (.inr (.inr rfl)))) (fun _ _=>rfl) (fun _ h=>h) rfl (fun _ _ _ _ _ f=>f.elim) H3 h3).then fun gs w sl T own τ L hs hk4 H4 h4=>?_
  exact leaves H4 h4
 ·rw [if_neg e] at H2
  exact leaves H2 h2
end
variable {L:WgLink}
set_option maxRecDepth 100000 in
set_option maxHeartbeats 8000000 in
theorem waitRound {P:Program}(H:WgLib P L){R q:Nat}{M:Nat→Prop}{St:ai}{c:Frame}{cs:List Frame}(n:Nat) :
  ∀ (w:World),aj P true St M (G (c.finish (.tuple #[])) cs) w→∀ (T:Array Value),T.size=84→T[0]?=some (.pointer (some ⟨R,q,none⟩)) →
   aj P true (lJ P R q St n) M (G ((base L.wait).at ⟨T,[]⟩ [.code (L7 L),.inLoop (L7 L),.inBlock 0]) (c :: cs)) w:=by
 induction n with
 | zero=>intro w _ T _ _;exact .stop fun _ _=>rfl
 | succ n ih =>
  intro w hT T hT84 t0
  lib_facts
  obtain ⟨v0,v1,v2,v3,v4,v5,v6,v7,v8,v9,v10,v11,v12,v13,v14,v15,v16,v17,v18,v19,v20,v21,v22,v23,v24,v25,v26,v27,v28,v29,v30,v31,v32,v33,v34,v35,v36,v37,v38,v39,v40,v41,v42,v43,v44,v45,v46,v47,v48,v49,v50,v51,v52,v53,v54,v55,v56,v57,v58,v59,v60,v61,v62,v63,v64,v65,v66,v67,v68,v69,v70,v71,v72,v73,v74,v75,v76,v77,v78,v79,v80,v81,v82,v83,rfl⟩:=array84 T hT84
  simp only [List.getElem?_toArray,List.getElem?_cons_zero,Option.some.injEq] at t0
  subst t0
  clear hT84
  simp only [L7,body_wait,waitFn,Option.getD_some]
  unfold lJ
  refine aF (a:=?A1) (fun hh=>?X1) ?Y1
  case X1 =>
   refine aj.idle rfl (fun _=>stepG_block) ?_
   refine Mq (Mg ?_)
   refine Mv (.pointer (some ⟨R,q,none⟩)) ?_
   refine Mv (.pointer (some ⟨R,q,none⟩)) ?_
   refine Mv (.pointer (some ⟨R,q,none⟩)) ?_
   refine MR.call rfl rfl (by k_ne) rfl H.f_uLoad (nm_uLoad L) rfl ?_
   walk_nrmf uLoadFn
   refine Mq ?_
   exact hh
  refine aF (a:=?A2) (fun hh=>?X2) ?Y2
  case X2 =>
   refine Mg ?_
   refine Mv (.int .u64 0) ?_
   refine Me (Mq (Mg ?_))
   refine Mv (.pointer (some ⟨R,q,none⟩)) ?_
   refine Mv (.pointer (some ⟨R,q,none⟩)) ?_
   refine Mv (.pointer (some ⟨R,q,none⟩)) ?_
   exact hh
  refine .stop fun w1 hr=>?_
  replace hT:=hT.rely hr
  clear hr
  refine ⟨rfl,fun p hp=>⟨_,fun w2 hc=>stepG_load_atomic rfl rfl (by k_ne) rfl H.f_loadU64 (x_loadU64_n L) (x_loadU64_b L) (x_loadU64_x L) .u64 (x_loadU64_f L) rfl hc,?_⟩⟩
  walk_nrm
  rcases Nat.eq_zero_or_pos p with hp0 | hp0
  ·subst hp0
   simp only [Nat.zero_mul,Int.natCast_zero,↓reduceIte]
   refine aF (a:=?A3) (fun hh=>?X3) ?Y3
   case X3 =>
    refine Mv (.int .u64 0) ?_
    refine Me (aj.idle rfl (fun _=>stepG_ret') ?_)
    refine MR.leave1 rfl rfl H.f_uLoad rfl ?_
    walk_nrm
    refine Mv (.int .u64 0) ?_
    refine Me (Mq (Mg ?_))
    exact hh
   refine aF (a:=?A4) (fun hh=>?X4) ?Y4
   case X4 =>
    refine Mv (.int .u64 0) ?_
    refine Mv (.int .u64 0) ?_
    refine Mv (.int .i32 0) ?_
    refine Mv (.int .i32 0) ?_
    refine Me (Mq (Mg ?_))
    refine Mv (.int .u64 0) ?_
    exact hh
   refine aF (a:=?A5) (fun hh=>?X5) ?Y5
   case X5 =>
    refine Mv (.int .u64 0) ?_
    refine Mv (.int .u32 0) ?_
    refine Mv (.int .u32 0) ?_
    refine Me (Mq (Mq (Mg ?_)))
    refine Mv (.int .i32 0) ?_
    exact hh
   refine aF (a:=?A6) (fun hh=>?X6) ?Y6
   case X6 =>
    refine Mv (.bool true) ?_
    refine Me (Mt rfl ?_)
    refine Mq (Mt rfl ?_)
    refine Mq (Mg ?_)
    exact hh
   unfold lI
   refine MR.mark rfl (fun w=>stepG_mark0 .enable ah rfl rfl (by k_ne) rfl H.f_enable (x_enable_n L) (x_enable_b L) (x_enable_x L) (x_enable_f L)) ?_
   walk_nrm
   refine aF (a:=?A7) (fun hh=>?X7) ?Y7
   case X7 =>
    refine Me (Mg ?_)
    refine Mv (.pointer (some ⟨R,q,none⟩)) ?_
    exact hh
   refine MR.conv (ad:=⟨R,q,none⟩) rfl rfl (by k_ne) rfl rfl H.underlying_tWgP H.underlying_tUP H.room_tWg ?_
   walk_nrm
   refine MR.mark rfl (fun w=>stepG_markAt .acquire ah rfl rfl (by k_ne) rfl H.f_acquire (x_acquire_n L) (x_acquire_b L) (x_acquire_x L) (x_acquire_f L) (ad:=⟨R,q,none⟩) (by simp [Act.eval])) ?_
   walk_nrm
   refine aF (a:=?A8) (fun hh=>?X8) ?Y8
   case X8 =>
    refine Me (Mq (Mq (Mg ?_)))
    refine Mv (.int .u32 0) ?_
    refine Mv (.bool true) ?_
    refine Mv (.bool true) ?_
    refine Mv (.int .u64 0) ?_
    exact hh
   refine aF (a:=?A9) (fun hh=>?X9) ?Y9
   case X9 =>
    refine Mv (.int .u64 0) ?_
    refine Mv (.bool false) ?_
    refine Mv (.bool false) ?_
    refine Mv (.bool false) ?_
    refine Mu ?_
    refine Mu ?_
    refine Mv (.bool false) ?_
    refine Me ?_
    exact hh
   refine aF (a:=?Dp) (fun hh=>?uI) ?Dq
   case uI =>
    refine Mf rfl ?_
    refine Mk (aj.idle rfl (fun _=>stepG_ret') ?_)
    refine MR.xH rfl rfl H.f_wait rfl ?_
    exact hh
   exact hT
  ·obtain ⟨Y,hY⟩:∃ Y:Int,Y=((p * 4294967296:Nat):Int):=⟨_,rfl⟩
   rw [← hY,if_neg ag]
   have hA1:bits .and .u64 Y 2147483648=0:=by have:=zL p 0 hp ag;rw [Nat.add_zero] at this;rw [hY];exact this
   have hA2:bits .and .u64 Y 2147483647=0:=by have:=xx p 0 hp ag;rw [Nat.add_zero] at this;rw [hY];exact this
   have hA3:Y / 4294967296=p:=by omega
   have Et:IntKind.i32.wrap (p:Int)=p:=by rw [IntKind.wrap_i32];omega
   have Eu:¬ p=0:=by omega
   have Ev:IntKind.u64.wrap (Y+1)=Y+1:=by rw [IntKind.wrap_u64];omega
   clear hY
   refine aF (a:=?Dr) (fun hh=>?uJ) ?Dt
   case uJ =>
    refine Mv (.int .u64 Y) ?_
    refine Me (aj.idle rfl (fun _=>stepG_ret') ?_)
    refine MR.leave1 rfl rfl H.f_uLoad rfl ?_
    walk_nrm
    refine Mv (.int .u64 Y) ?_
    refine Me (Mq (Mg ?_))
    exact hh
   refine aF (a:=?Du) (fun hh=>?uK) ?Dv
   case uK =>
    refine Mv (.int .u64 Y) ?_
    refine Mv (.int .u64 (p:Int)) ?_
    refine Mv (.int .i32 (p:Int)) ?_
    refine Mv (.int .i32 (p:Int)) ?_
    refine Me (Mq (Mg ?_))
    refine Mv (.int .u64 Y) ?_
    exact hh
   refine aF (a:=?Dw) (fun hh=>?uL) ?Dx
   case uL =>
    refine Mv (.int .u64 0) ?_
    refine Mv (.int .u32 0) ?_
    refine Mv (.int .u32 0) ?_
    refine Me (Mq (Mq (Mg ?_)))
    refine Mv (.int .i32 (p:Int)) ?_
    exact hh
   refine aF (a:=?Dy) (fun hh=>?uM) ?Dz
   case uM =>
    refine Mv (.bool false) ?_
    refine Me (Mf rfl ?_)
    refine Mk (Mq (Mg ?_))
    refine Mv (.pointer (some ⟨R,q,none⟩)) ?_
    refine Mv (.pointer (some ⟨R,q,none⟩)) ?_
    exact hh
   refine aF (a:=?DC) (fun hh=>?uN) ?DD
   case uN =>
    refine Mv (.pointer (some ⟨R,q,none⟩)) ?_
    refine Mv (.int .u64 Y) ?_
    refine Mv (.int .u64 Y) ?_
    refine Mv (.int .u64 (Y+1)) ?_
    refine MR.call rfl rfl (by k_ne) rfl H.f_uCas (nm_uCas L) rfl ?_
    walk_nrmf uCasFn
    refine Mq (Mg ?_)
    refine Mv (.bool false) ?_
    exact hh
   refine aF (a:=?DF) (fun hh=>?uO) ?DI
   case uO =>
    refine Me (Mq (Mg ?_))
    refine Mv (.pointer (some ⟨R,q,none⟩)) ?_
    refine Mv (.pointer (some ⟨R,q,none⟩)) ?_
    refine Mv (.pointer (some ⟨R,q,none⟩)) ?_
    refine Mv (.int .u64 Y) ?_
    refine Mv (.int .u64 (Y+1)) ?_
    exact hh
   refine .stop fun w1 hr=>?_
   replace hT:=hT.rely hr
   clear hr
   refine ⟨rfl,⟨_,fun w2 hc hz=>stepG_cas_hit (v:=Y) (n:=Y+1) rfl rfl (by k_ne) rfl H.f_casU64 (x_casU64_n L) (x_casU64_b L) (x_casU64_x L) .u64 (x_casU64_f L) rfl rfl rfl hc hz,?_⟩,⟨_,fun w2 x hc hz hne=>stepG_cas_miss (v:=x) (old:=Y) (n:=Y+1) rfl rfl (by k_ne) rfl H.f_casU64 (x_casU64_n L) (x_casU64_b L) (x_casU64_x L) .u64 (x_casU64_f L) rfl rfl rfl hc hz hne,?_⟩⟩
   ·walk_nrm
    refine aF (a:=?DJ) (fun hh=>?uP) ?DK
    case uP =>
     refine Mv (.bool true) ?_
     refine Me (aj.idle rfl (fun _=>stepG_ret') ?_)
     refine MR.leave1 rfl rfl H.f_uCas rfl ?_
     walk_nrm
     refine Me (Mt rfl ?_)
     refine Mq (Mq ?_)
     exact hh
    refine aF (a:=?DN) (fun hh=>?uQ) ?DT
    case uQ =>
     refine Mg ?_
     refine Mv (.bool true) ?_
     refine Mv (.int .u32 0) ?_
     refine Mv (.bool true) ?_
     refine Mv (.bool true) ?_
     refine Me (Mt rfl ?_)
     refine Mg ?_
     exact hh
    refine aF (a:=?DU) (fun hh=>?uR) ?DV
    case uR =>
     refine Mv (.pointer (some ⟨R,q,none⟩)) ?_
     refine Mv (.pointer (some ⟨R,q,none⟩)) ?_
     refine Mv (.pointer (some ⟨R,q+1,none⟩)) ?_
     exact hh
    unfold vz
    refine MR.conv (ad:=⟨R,q+1,none⟩) rfl rfl (by k_ne) rfl rfl H.underlying_tPU32 H.underlying_tUP H.room_tU32 ?_
    walk_nrm
    refine MR.mark rfl (fun w=>stepG_markAt .write ah rfl rfl (by k_ne) rfl H.f_raceWrite (x_raceWrite_n L) (x_raceWrite_b L) (x_raceWrite_x L) (x_raceWrite_f L) (ad:=⟨R,q+1,none⟩) (by simp [Act.eval])) ?_
    walk_nrm
    refine aF (a:=?DW) (fun hh=>?uS) ?DX
    case uS =>
     refine Me (Mq (Mg ?_))
     refine Mv (.bool false) ?_
     refine Me (Mq (Mq (Mg ?_)))
     exact hh
    refine aF (a:=?DY) (fun hh=>?uT) ?DZ
    case uT =>
     refine Mv (.int .u64 Y) ?_
     refine Mv (.int .u64 0) ?_
     refine Mv (.bool false) ?_
     refine Mv (.bool false) ?_
     refine Mu ?_
     refine Mv (.bool false) ?_
     refine Me (Mf rfl ?_)
     exact hh
    refine aF (a:=?D3) (fun hh=>?uU) ?D4
    case uU =>
     refine Mk (Mq (Mg ?_))
     refine Mv (.pointer (some ⟨R,q,none⟩)) ?_
     refine Mv (.pointer (some ⟨R,q,none⟩)) ?_
     refine Mv (.pointer (some ⟨R,q+1,none⟩)) ?_
     refine Mv (.bool false) ?_
     exact hh
    refine .stop fun w1 hr=>?_
    replace hT:=hT.rely hr
    clear hr
    refine ⟨⟨rfl,rfl⟩,fun w2 hc=>stepG_semacquire_wait rfl rfl rfl H.f_semacquire (x_semacquire_n L) (x_semacquire_b L) (x_semacquire_x L) (x_semacquire_f L) (by simp [Act.eval]) hc,_,fun w2 hc hz=>stepG_semacquire (n:=1) rfl rfl (by k_ne) rfl H.f_semacquire (x_semacquire_n L) (x_semacquire_b L) (x_semacquire_x L) (x_semacquire_f L) (by simp [Act.eval]) hc (by k_ne) hz,?_⟩
    walk_nrm
    refine aF (a:=?D6) (fun hh=>?uV) ?D7
    case uV =>
     refine Me (Mq (Mg ?_))
     refine Mv (.pointer (some ⟨R,q,none⟩)) ?_
     refine Mv (.pointer (some ⟨R,q,none⟩)) ?_
     refine Mv (.pointer (some ⟨R,q,none⟩)) ?_
     refine MR.call rfl rfl (by k_ne) rfl H.f_uLoad (nm_uLoad L) rfl ?_
     walk_nrmf uLoadFn
     refine Mq ?_
     exact hh
    refine aF (a:=?D9) (fun hh=>?uW) ?Ea
    case uW =>
     refine Mg ?_
     refine Mv (.int .u64 0) ?_
     refine Me (Mq (Mg ?_))
     refine Mv (.pointer (some ⟨R,q,none⟩)) ?_
     refine Mv (.pointer (some ⟨R,q,none⟩)) ?_
     refine Mv (.pointer (some ⟨R,q,none⟩)) ?_
     exact hh
    refine .stop fun w1 hr=>?_
    replace hT:=hT.rely hr
    clear hr
    refine ⟨rfl,fun p' hp'=>⟨_,fun w2 hc=>stepG_load_atomic rfl rfl (by k_ne) rfl H.f_loadU64 (x_loadU64_n L) (x_loadU64_b L) (x_loadU64_x L) .u64 (x_loadU64_f L) rfl hc,?_⟩⟩
    subst hp'
    simp only [Nat.zero_mul,Int.natCast_zero]
    walk_nrm
    refine aF (a:=?Eb) (fun hh=>?uX) ?Ec
    case uX =>
     refine Mv (.int .u64 0) ?_
     refine Me (aj.idle rfl (fun _=>stepG_ret') ?_)
     refine MR.leave1 rfl rfl H.f_uLoad rfl ?_
     walk_nrm
     refine Mv (.bool false) ?_
     refine Mv (.bool false) ?_
     refine Me (Mq ?_)
     exact hh
    refine aF (a:=?Ed) (fun hh=>?uY) ?Ee
    case uY =>
     refine Mt rfl ?_
     refine Mq (Mg ?_)
     exact hh
    unfold lI
    refine MR.mark rfl (fun w=>stepG_mark0 .enable ah rfl rfl (by k_ne) rfl H.f_enable (x_enable_n L) (x_enable_b L) (x_enable_x L) (x_enable_f L)) ?_
    walk_nrm
    refine aF (a:=?Ef) (fun hh=>?uZ) ?Eg
    case uZ =>
     refine Me (Mg ?_)
     refine Mv (.pointer (some ⟨R,q,none⟩)) ?_
     exact hh
    refine MR.conv (ad:=⟨R,q,none⟩) rfl rfl (by k_ne) rfl rfl H.underlying_tWgP H.underlying_tUP H.room_tWg ?_
    walk_nrm
    refine MR.mark rfl (fun w=>stepG_markAt .acquire ah rfl rfl (by k_ne) rfl H.f_acquire (x_acquire_n L) (x_acquire_b L) (x_acquire_x L) (x_acquire_f L) (ad:=⟨R,q,none⟩) (by simp [Act.eval])) ?_
    walk_nrm
    refine aF (a:=?Eh) (fun hh=>?u6) ?Ei
    case u6 =>
     refine Me (Mq (Mq (Mg ?_)))
     refine Mv (.bool false) ?_
     refine Me (Mf rfl ?_)
     refine Mk ?_
     exact hh
    refine aF (a:=?Ej) (fun hh=>?u7) ?El
    case u7 =>
     refine aj.idle rfl (fun _=>stepG_ret') ?_
     refine MR.xH rfl rfl H.f_wait rfl ?_
     exact hh
    exact hT
   ·walk_nrm
    refine aF (a:=?Em) (fun hh=>?ve) ?En
    case ve =>
     refine Mv (.bool false) ?_
     refine Me (aj.idle rfl (fun _=>stepG_ret') ?_)
     refine MR.leave1 rfl rfl H.f_uCas rfl ?_
     walk_nrm
     refine Me (Mf rfl ?_)
     refine Mk (aj.idle rfl (fun _=>stepG_inBlock) ?_)
     exact hh
    refine aF (a:=?Eo) (fun hh=>?vg) ?Ep
    case vg =>
     refine aj.idle rfl (fun _=>stepG_inLoop) ?_
     exact hh
    exact ih w1 hT _ ah ah
set_option maxRecDepth 100000 in
theorem Np {P:Program}(H:WgLib P L){R q:Nat}{M:Nat→Prop}{St:ai}{c:Frame}{cs:List Frame}{w:World}(hT:aj P true St M (G (c.finish (.tuple #[])) cs) w)(n:Nat) :
  aj P true (gz P .disable (lJ P R q St n)) M (G ((base L.wait).at ⟨#[.pointer (some ⟨R,q,none⟩)] ++ Array.replicate 83 undef,[]⟩ [.code ((waitFn L).body.getD .skip)]) (c :: cs)) w:=by
 lib_facts
 have ES:=waitRound H (R:=R) (q:=q) n w hT
 simp only [L7,body_wait,waitFn,Option.getD_some] at ES ⊢
 refine aF (a:=?Er) (fun hh=>?vk) ?Es
 case vk =>
  refine Mq (Mt rfl ?_)
  refine Mg ?_
  exact hh
 refine MR.mark rfl (fun w=>stepG_mark0 .disable ah rfl rfl (by k_ne) rfl H.f_disable (x_disable_n L) (x_disable_b L) (x_disable_x L) (x_disable_f L)) ?_
 walk_nrm
 refine aF (a:=?Lp) (fun hh=>?zN) ?Lr
 case zN =>
  refine Me (aj.idle rfl (fun _=>stepG_block) ?_)
  refine aj.idle rfl (fun _=>stepG_loop) ?_
  exact hh
 exact ES _ ah ah
variable {L:WgLink}
set_option maxRecDepth 100000 in
set_option maxHeartbeats 8000000 in
theorem Nq {P:Program}(H:WgLib P L){R q:Nat}{M:Nat→Prop}{St:ai}{c:Frame}{cs:List Frame}{w:World}
  (hT:aj P true St M (G (c.finish (.tuple #[])) cs) w) :
  aj P true (gz P .disable (xK P ⟨R,q,none⟩ (oV P R q St))) M (G ((base L.add).at ⟨#[.pointer (some ⟨R,q,none⟩),.int .i64 1] ++ Array.replicate 115 undef,[]⟩ [.code ((addFn L).body.getD .skip)]) (c :: cs)) w:=by
 lib_facts
 simp only [addFn,Option.getD_some]
 refine aF (a:=?A1) (fun hh=>?X1) ?Y1
 case X1 =>
  refine Mq (Mt rfl ?_)
  refine Mq (Mq (Mg ?_))
  refine Mv (.int .i64 1) ?_
  refine Mv (.bool false) ?_
  refine Me ?_
  exact hh
 refine aF (a:=?A2) (fun hh=>?X2) ?Y2
 case X2 =>
  refine Mf rfl ?_
  refine Mk (Mq (Mg ?_))
  exact hh
 refine MR.mark rfl (fun w=>stepG_mark0 .disable ah rfl rfl (by k_ne) rfl H.f_disable (x_disable_n L) (x_disable_b L) (x_disable_x L) (x_disable_f L)) ?_
 walk_nrm
 refine aF (a:=?A3) (fun hh=>?X3) ?Y3
 case X3 =>
  refine Me (Mg ?_)
  refine aj.idle rfl (fun _=>stepG_defer rfl rfl (by k_ne) rfl) ?_
  walk_nrm
  refine Me (Mq (Mg ?_))
  refine Mv (.bool false) ?_
  refine Me ?_
  exact hh
 refine aF (a:=?A4) (fun hh=>?X4) ?Y4
 case X4 =>
  refine Mq (Mq (Mg ?_))
  refine aj.idle rfl (fun _=>stepG_entry_pure (.bool false) rfl rfl (by k_ne) rfl H.f_inBubble (x_inBubble_n L) (x_inBubble_b L) (x_inBubble_x L) (x_inBubble_f L)) ?_
  walk_nrm
  refine Me (Mf rfl ?_)
  refine Mk (Mq ?_)
  exact hh
 refine aF (a:=?A5) (fun hh=>?X5) ?Y5
 case X5 =>
  refine Mg ?_
  refine Mv (.pointer (some ⟨R,q,none⟩)) ?_
  refine Mv (.pointer (some ⟨R,q,none⟩)) ?_
  refine Mv (.pointer (some ⟨R,q,none⟩)) ?_
  refine Mv (.int .i64 1) ?_
  refine Mv (.int .u64 1) ?_
  refine Mv (.int .u64 4294967296) ?_
  refine MR.call rfl rfl (by k_ne) rfl H.f_uAdd (nm_uAdd L) rfl ?_
  walk_nrmf uAddFn
  exact hh
 refine aF (a:=?A6) (fun hh=>?X6) ?Y6
 case X6 =>
  refine Mq (Mg ?_)
  refine Mv (.int .u64 0) ?_
  refine Me (Mq (Mg ?_))
  refine Mv (.pointer (some ⟨R,q,none⟩)) ?_
  refine Mv (.pointer (some ⟨R,q,none⟩)) ?_
  exact hh
 refine aF (a:=?A7) (fun hh=>?X7) ?Y7
 case X7 =>
  refine Mv (.pointer (some ⟨R,q,none⟩)) ?_
  refine Mv (.int .u64 4294967296) ?_
  exact hh
 refine .stop fun w1 hr=>?_
 replace hT:=hT.rely hr
 clear hr
 refine ⟨rfl,fun p hp=>⟨_,fun w2 hc hz=>(stepG_add_atomic rfl rfl (by k_ne) rfl H.f_addU64 (x_addU64_n L) (x_addU64_b L) (x_addU64_x L) .u64 (x_addU64_f L) rfl rfl hc hz).trans (by rw [show IntKind.u64.wrap (((p * 4294967296:Nat):Int)+4294967296)=(((p+1) * 4294967296:Nat):Int) by rw [IntKind.wrap_u64];omega]),?_⟩⟩
 obtain ⟨Y,hY⟩:∃ Y:Int,Y=(((p+1) * 4294967296:Nat):Int):=⟨_,rfl⟩
 rw [← hY]
 have hA1:bits .and .u64 Y 2147483648=0:=by have:=zL (p+1) 0 ag ag;rw [Nat.add_zero] at this;rw [hY];exact this
 have hA2:bits .and .u64 Y 2147483647=0:=by have:=xx (p+1) 0 ag ag;rw [Nat.add_zero] at this;rw [hY];exact this
 unfold oV
 walk_nrm
 rcases Nat.eq_zero_or_pos p with hp0 | hp0
 ·subst hp0
  have hA3:Y / 4294967296=1:=by omega
  clear hY
  simp only [↓reduceIte]
  refine aF (a:=?A8) (fun hh=>?X8) ?Y8
  case X8 =>
   refine Mv (.int .u64 Y) ?_
   refine Me (aj.idle rfl (fun _=>stepG_ret') ?_)
   refine MR.leave1 rfl rfl H.f_uAdd rfl ?_
   walk_nrm
   refine Mv (.int .u64 Y) ?_
   refine Me (Mq (Mq ?_))
   exact hh
  refine aF (a:=?A9) (fun hh=>?X9) ?Y9
  case X9 =>
   refine Mg ?_
   refine Mv (.int .u64 Y) ?_
   refine Mv (.int .u64 0) ?_
   refine Mv (.bool false) ?_
   refine Mv (.bool false) ?_
   refine Mu ?_
   refine Mu ?_
   refine Mv (.bool false) ?_
   exact hh
  refine aF (a:=?Dp) (fun hh=>?uI) ?Dq
  case uI =>
   refine Me (Mf rfl ?_)
   refine Mk (Mq (Mg ?_))
   refine Mv (.int .u64 Y) ?_
   refine Mv (.int .u64 1) ?_
   refine Mv (.int .i32 1) ?_
   exact hh
  refine aF (a:=?Dr) (fun hh=>?uJ) ?Dt
  case uJ =>
   refine Mv (.int .i32 1) ?_
   refine Me (Mq (Mg ?_))
   refine Mv (.int .u64 Y) ?_
   refine Mv (.int .u64 0) ?_
   refine Mv (.int .u32 0) ?_
   refine Mv (.int .u32 0) ?_
   exact hh
  refine aF (a:=?Du) (fun hh=>?uK) ?Dv
  case uK =>
   refine Me (Mq (Mq (Mg ?_)))
   refine Mv (.bool true) ?_
   refine Mv (.int .i64 1) ?_
   refine Mv (.bool true) ?_
   refine Mv (.bool true) ?_
   exact hh
  refine aF (a:=?Dw) (fun hh=>?uL) ?Dx
  case uL =>
   refine Mv (.bool true) ?_
   refine Mv (.int .i32 1) ?_
   refine Mv (.int .i64 1) ?_
   refine Mv (.int .i32 1) ?_
   refine Mv (.bool true) ?_
   refine Mv (.bool true) ?_
   refine Me (Mt rfl ?_)
   exact hh
  refine aF (a:=?Dy) (fun hh=>?uM) ?Dz
  case uM =>
   refine Mg ?_
   refine Mv (.pointer (some ⟨R,q,none⟩)) ?_
   refine Mv (.pointer (some ⟨R,q,none⟩)) ?_
   refine Mv (.pointer (some ⟨R,q+1,none⟩)) ?_
   exact hh
  refine MR.conv (ad:=⟨R,q+1,none⟩) rfl rfl (by k_ne) rfl rfl H.underlying_tPU32 H.underlying_tUP H.room_tU32 ?_
  walk_nrm
  refine MR.mark rfl (fun w=>stepG_markAt .read ah rfl rfl (by k_ne) rfl H.f_raceRead (x_raceRead_n L) (x_raceRead_b L) (x_raceRead_x L) (x_raceRead_f L) (ad:=⟨R,q+1,none⟩) (by simp [Act.eval])) ?_
  walk_nrm
  refine aF (a:=?DC) (fun hh=>?uN) ?DD
  case uN =>
   refine Me (Mq (Mq (Mg ?_)))
   refine Mv (.int .i32 1) ?_
   refine Mv (.bool false) ?_
   refine Me (Mf rfl ?_)
   exact hh
  refine aF (a:=?DF) (fun hh=>?uO) ?DI
  case uO =>
   refine Mk (Mq (Mq (Mg ?_)))
   refine Mv (.int .u32 0) ?_
   refine Mv (.bool false) ?_
   refine Mv (.bool false) ?_
   refine Mu ?_
   exact hh
  refine aF (a:=?DJ) (fun hh=>?uP) ?DK
  case uP =>
   refine Mu ?_
   refine Mv (.bool false) ?_
   refine Mv (.bool false) ?_
   refine Mu ?_
   refine Mu ?_
   refine Mu ?_
   refine Mu ?_
   refine Mv (.bool false) ?_
   exact hh
  refine aF (a:=?DN) (fun hh=>?uQ) ?DT
  case uQ =>
   refine Me (Mf rfl ?_)
   refine Mk (Mq (Mq (Mg ?_)))
   refine Mv (.int .i32 1) ?_
   refine Mv (.bool true) ?_
   exact hh
  refine aF (a:=?DU) (fun hh=>?uR) ?DV
  case uR =>
   refine Mv (.bool true) ?_
   refine Mu ?_
   refine Mu ?_
   refine Mv (.bool true) ?_
   refine Me (Mt rfl ?_)
   refine aj.idle rfl (fun _=>stepG_ret') ?_
   exact hh
  refine EN rfl H.f_enable (x_enable_n L) (x_enable_b L) (x_enable_x L) (x_enable_f L) ?_
  walk_nrm
  refine aF (a:=?DW) (fun hh=>?uS) ?DX
  case uS =>
   refine MR.xH rfl rfl H.f_add rfl ?_
   exact hh
  exact hT
 ·obtain ⟨m,hm⟩:∃ m:Nat,m=p+1:=⟨_,rfl⟩
  have hA3:Y / 4294967296=m:=by omega
  have Et:IntKind.i32.wrap (m:Int)=m:=by rw [IntKind.wrap_i32];omega
  have Eu:¬ (m:Int) < 0:=by omega
  have Ev:(0:Int) < m:=by omega
  have YU:¬ (m:Int)=1:=by omega
  have YV:0 < m:=by omega
  rw [if_neg ag]
  clear hY hm hp0
  refine aF (a:=?DY) (fun hh=>?uT) ?DZ
  case uT =>
   refine Mv (.int .u64 Y) ?_
   refine Me (aj.idle rfl (fun _=>stepG_ret') ?_)
   refine MR.leave1 rfl rfl H.f_uAdd rfl ?_
   walk_nrm
   refine Mv (.int .u64 Y) ?_
   refine Me (Mq (Mq ?_))
   exact hh
  refine aF (a:=?D3) (fun hh=>?uU) ?D4
  case uU =>
   refine Mg ?_
   refine Mv (.int .u64 Y) ?_
   refine Mv (.int .u64 0) ?_
   refine Mv (.bool false) ?_
   refine Mv (.bool false) ?_
   refine Mu ?_
   refine Mu ?_
   refine Mv (.bool false) ?_
   exact hh
  refine aF (a:=?D6) (fun hh=>?uV) ?D7
  case uV =>
   refine Me (Mf rfl ?_)
   refine Mk (Mq (Mg ?_))
   refine Mv (.int .u64 Y) ?_
   refine Mv (.int .u64 (m:Int)) ?_
   refine Mv (.int .i32 (m:Int)) ?_
   exact hh
  refine aF (a:=?D9) (fun hh=>?uW) ?Ea
  case uW =>
   refine Mv (.int .i32 (m:Int)) ?_
   refine Me (Mq (Mg ?_))
   refine Mv (.int .u64 Y) ?_
   refine Mv (.int .u64 0) ?_
   refine Mv (.int .u32 0) ?_
   refine Mv (.int .u32 0) ?_
   exact hh
  refine aF (a:=?Eb) (fun hh=>?uX) ?Ec
  case uX =>
   refine Me (Mq (Mq (Mg ?_)))
   refine Mv (.bool true) ?_
   refine Mv (.int .i64 1) ?_
   refine Mv (.bool true) ?_
   refine Mv (.bool true) ?_
   exact hh
  refine aF (a:=?Ed) (fun hh=>?uY) ?Ee
  case uY =>
   refine Mv (.bool true) ?_
   refine Mv (.int .i32 (m:Int)) ?_
   refine Mv (.int .i64 1) ?_
   refine Mv (.int .i32 1) ?_
   refine Mv (.bool false) ?_
   refine Mv (.bool false) ?_
   refine Me (Mf rfl ?_)
   exact hh
  refine aF (a:=?Ef) (fun hh=>?uZ) ?Eg
  case uZ =>
   refine Mk (Mq (Mq (Mg ?_)))
   refine Mv (.int .i32 (m:Int)) ?_
   refine Mv (.bool false) ?_
   refine Me (Mf rfl ?_)
   exact hh
  refine aF (a:=?Eh) (fun hh=>?u6) ?Ei
  case u6 =>
   refine Mk (Mq (Mq (Mg ?_)))
   refine Mv (.int .u32 0) ?_
   refine Mv (.bool false) ?_
   refine Mv (.bool false) ?_
   refine Mu ?_
   exact hh
  refine aF (a:=?Ej) (fun hh=>?u7) ?El
  case u7 =>
   refine Mu ?_
   refine Mv (.bool false) ?_
   refine Mv (.bool false) ?_
   refine Mu ?_
   refine Mu ?_
   refine Mu ?_
   refine Mu ?_
   refine Mv (.bool false) ?_
   exact hh
  refine aF (a:=?Em) (fun hh=>?ve) ?En
  case ve =>
   refine Me (Mf rfl ?_)
   refine Mk (Mq (Mq (Mg ?_)))
   refine Mv (.int .i32 (m:Int)) ?_
   refine Mv (.bool true) ?_
   exact hh
  refine aF (a:=?Eo) (fun hh=>?vg) ?Ep
  case vg =>
   refine Mv (.bool true) ?_
   refine Mu ?_
   refine Mu ?_
   refine Mv (.bool true) ?_
   refine Me (Mt rfl ?_)
   refine aj.idle rfl (fun _=>stepG_ret') ?_
   exact hh
  refine EN rfl H.f_enable (x_enable_n L) (x_enable_b L) (x_enable_x L) (x_enable_f L) ?_
  walk_nrm
  refine aF (a:=?Er) (fun hh=>?vk) ?Es
  case vk =>
   refine MR.xH rfl rfl H.f_add rfl ?_
   exact hh
  exact hT
section
variable {P:Program}{L:WgLink}{fn:FuncId}{kd:CallKind}{Q:aZ}{St:ai}{M:Nat→Prop}{a:Act}{w:World}{ops:Array Oper}{i:Nat}{rest:List Nat}{o:Oper}
theorem Nr (hkd:kd≠.early)(ho:ops[i]?=some o)(hw:Region.wanted o (yielded ops a.tmps)=true){ad:Addr}{v:Value}(hr:∀ w1,w1.cell? ad=some v→(execOp a.eval o).run P w1=.ok (.value v) w1∧listed P fn a o w1=#[⟨.cell ad,false,false⟩])
  (h:aG P true fn kd ops rest Q St M (a.put o.dst v) w):aG P true fn kd ops (i :: rest) Q (qC P ad v St) M a w:=by
 intro b k cs hb hkind hc
 have hke:b.kind≠.early:=by rw [hkind];exact hkd
 refine .stop fun w1 hrel=>⟨rfl,G (b.at (a.put o.dst v) (.inRegion ops rest :: k)) cs,fun w2 hc2=>?_,(h b k cs hb hkind hc).rely hrel⟩
 obtain ⟨h1,h2⟩:=hr w2 hc2
 subst hb
 have:=stepG_value (P:=P) (main:=true) (b:=b) (k:=k) (cs:=cs) (rest:=rest) ho hw hke h1
 rw [h2] at this
 exact this
theorem Ns (hkd:kd≠.early)(ho:ops[i]?=some o)(hw:Region.wanted o (yielded ops a.tmps)=true){ad:Addr}{v:Value}(hr:∀ w1 x,w1.cell? ad=some x→w1.frozen? ad=false→(execOp a.eval o).run P w1=.ok .skip (w1.setCell ad v)∧listed P fn a o w1=#[⟨.cell ad,true,false⟩])
  (h:aG P true fn kd ops rest Q St M (a.put o.dst undef) w):aG P true fn kd ops (i :: rest) Q (rX P ad v St) M a w:=by
 intro b k cs hb hkind hc
 have hke:b.kind≠.early:=by rw [hkind];exact hkd
 refine .stop fun w1 hrel=>⟨rfl,G (b.at (a.put o.dst undef) (.inRegion ops rest :: k)) cs,fun w2 x hc2 hz=>?_,(h b k cs hb hkind hc).rely hrel⟩
 obtain ⟨h1,h2⟩:=hr w2 x hc2 hz
 subst hb
 have:=stepG_none (P:=P) (main:=true) (b:=b) (k:=k) (cs:=cs) (rest:=rest) ho hw hke h1
 rw [h2] at this
 exact this
theorem Nt (H:WgLib P L){R q:Nat}:bn P true L.add #[.pointer (some ⟨R,q,none⟩),.int .i64 1] (fun e S' M' w'=>e=.returned (.tuple #[])∧S'=St∧M'=M∧w'=w) (gz P .disable (xK P ⟨R,q,none⟩ (oV P R q St))) M w:=by
 intro c cs h1 _
 have:=Nq H (R:=R) (q:=q) (h1 (.tuple #[]) St M w ⟨rfl,rfl,rfl,rfl⟩)
 rw [enter_at (P:=P) #[.pointer (some ⟨R,q,none⟩),.int .i64 1] H.f_add rfl]
 exact this
theorem Nu (H:WgLib P L){R q:Nat}(n:Nat):bn P true L.wait #[.pointer (some ⟨R,q,none⟩)] (fun e S' M' w'=>e=.returned (.tuple #[])∧S'=St∧M'=M∧w'=w) (gz P .disable (lJ P R q St n)) M w:=by
 intro c cs h1 _
 have:=Np H (R:=R) (q:=q) (h1 (.tuple #[]) St M w ⟨rfl,rfl,rfl,rfl⟩) n
 rw [enter_at (P:=P) #[.pointer (some ⟨R,q,none⟩)] H.f_wait rfl]
 exact this
end
end Go.Blind
namespace Go.Blind
open Go.Conc
section
variable {P:Program}{main:Bool}{fn:FuncId}{kd:CallKind}{Q:aZ}{K:ai→(Nat→Prop)→Act→World→Prop}{S:ai}{M:Nat→Prop}{a:Act}{w:World}{ops:Array Oper}{i:Nat}{o:Oper}
def cK (P:Program)(main:Bool)(fn:FuncId)(kd:CallKind)(ops:Array Oper)(i:Nat)(K:ai→(Nat→Prop)→Act→World→Prop)(S:ai)(M:Nat→Prop)(a:Act)(w:World):Prop :=
 ∀ (b:Frame) (k:List Item) (cs:List Frame) (rest:List Nat),b.fn=fn→b.kind=kd→(∀ S' M' a' w',K S' M' a' w'→aj P main S' M' (ax (b.at a' (.inRegion ops rest :: k)) cs) w')→aj P main S M (ax (b.at a (.inRegion ops (i :: rest) :: k)) cs) w
theorem dx {rest:List Nat}(h:cK P main fn kd ops i (fun S' M' a' w'=>aG P main fn kd ops rest Q S' M' a' w') S M a w):aG P main fn kd ops (i :: rest) Q S M a w :=
 fun b k cs hb hk hc=>h b k cs rest hb hk fun _ _ _ _ q=>q b k cs hb hk hc
theorem cK.mono {K':ai→(Nat→Prop)→Act→World→Prop}(h:cK P main fn kd ops i K S M a w)(hk:∀ S M a w,K S M a w→K' S M a w):cK P main fn kd ops i K' S M a w :=
 fun b k cs rest hb hkd hc=>h b k cs rest hb hkd fun S' M' a' w' q=>hc S' M' a' w' (hk S' M' a' w' q)
theorem ET (ho:ops[i]?=some o)(hw:Region.wanted o (yielded ops a.tmps)=false)(h:K S M (a.put o.dst undef) w):cK P main fn kd ops i K S M a w:=fun b k cs rest _ _ hc=>by
 refine aj.idle (g':=ax (b.at (a.put o.dst undef) (.inRegion ops rest :: k)) cs) rfl (fun w1=>?_) (hc _ _ _ _ h)
 have hf:=Frame.finish_at b a ops i rest k undef
 simp only [ho,Option.bind_some] at hf
 rw [← hf]
 simp only [stepG,ax,stepG.exec,Frame.at,ho,Option.map_some,Option.getD_some,hw,Bool.false_eq_true,if_false]
theorem jr (hkd:kd≠.early)(ho:ops[i]?=some o)(hw:Region.wanted o (yielded ops a.tmps)=true)
  (h:∀ w1,ay P M w w1→∀ K':Act→World→Prop,(∀ a' w' M2,dY P M M2 w1 w' (listed P fn a o w1)→K S M2 a' w'→K' a' w')→uponK o a K' ((execOp a.eval o).run P w1)):cK P main fn kd ops i K S M a w:=by
 intro b k cs rest hb hkind hc
 refine aj.next rfl fun w1 hrel=>?_
 have hu:=h w1 hrel (fun a' w'=>∃ M2,dY P M M2 w1 w' (listed P fn a o w1)∧K S M2 a' w') fun a' w' M2 h1 h2=>⟨M2,h1,h2⟩
 have hke:b.kind≠.early:=by rw [hkind];exact hkd
 subst hb
 cases hr:(execOp a.eval o).run P w1 with
 | halt h0 w0=>rw [hr] at hu;exact hu.elim
 | ok n w' =>
  rw [hr] at hu
  cases n with
  | value v =>
   obtain ⟨M2,hG,hk⟩:=hu
   exact ⟨M2,_,w',_,stepG_value ho hw hke hr,hG,hc _ _ _ _ hk⟩
  | skip =>
   obtain ⟨M2,hG,hk⟩:=hu
   exact ⟨M2,_,w',_,stepG_none ho hw hke hr,hG,hc _ _ _ _ hk⟩
  | _=>exact hu.elim
theorem zZ {St:ai}(hkd:kd≠.early)(ho:ops[i]?=some o)(hw:Region.wanted o (yielded ops a.tmps)=true){ad:Addr}{v:Value}(hr:∀ w1,w1.cell? ad=some v→(execOp a.eval o).run P w1=.ok (.value v) w1∧listed P fn a o w1=#[⟨.cell ad,false,false⟩])
  (h:∀ w1,ay P M w w1→K St M (a.put o.dst v) w1):cK P true fn kd ops i K (qC P ad v St) M a w:=by
 intro b k cs rest hb hkind hc
 have hke:b.kind≠.early:=by rw [hkind];exact hkd
 refine .stop fun w1 hrel=>⟨rfl,G (b.at (a.put o.dst v) (.inRegion ops rest :: k)) cs,fun w2 hc2=>?_,hc _ _ _ _ (h w1 hrel)⟩
 obtain ⟨h1,h2⟩:=hr w2 hc2
 subst hb
 have:=stepG_value (P:=P) (main:=true) (b:=b) (k:=k) (cs:=cs) (rest:=rest) ho hw hke h1
 rw [h2] at this
 exact this
theorem Nv {St:ai}(hkd:kd≠.early)(ho:ops[i]?=some o)(hw:Region.wanted o (yielded ops a.tmps)=true){ad:Addr}{v:Value}(hr:∀ w1 x,w1.cell? ad=some x→w1.frozen? ad=false→(execOp a.eval o).run P w1=.ok .skip (w1.setCell ad v)∧listed P fn a o w1=#[⟨.cell ad,true,false⟩])
  (h:∀ w1,ay P M w w1→K St M (a.put o.dst undef) w1):cK P true fn kd ops i K (rX P ad v St) M a w:=by
 intro b k cs rest hb hkind hc
 have hke:b.kind≠.early:=by rw [hkind];exact hkd
 refine .stop fun w1 hrel=>⟨rfl,G (b.at (a.put o.dst undef) (.inRegion ops rest :: k)) cs,fun w2 x hc2 hz=>?_,hc _ _ _ _ (h w1 hrel)⟩
 obtain ⟨h1,h2⟩:=hr w2 x hc2 hz
 subst hb
 have:=stepG_none (P:=P) (main:=true) (b:=b) (k:=k) (cs:=cs) (rest:=rest) ho hw hke h1
 rw [h2] at this
 exact this
def xL (P:Program)(main:Bool)(fn:FuncId)(kd:CallKind)(md:Region.Mode)(ops:Array Oper)(Q:aZ):Nat→Array Bool→ai→(Nat→Prop)→Act→World→Prop
 | 0,listed,S,M,a,w=>Region.ready md ops listed=[]∧Q .normal S M a w
 | fuel+1,listed,S,M,a,w=>(Region.ready md ops listed=[]→Q .normal S M a w)∧∀ i∈Region.ready md ops listed,cK P main fn kd ops i (xL P main fn kd md ops Q fuel (listed.setIfInBounds i true)) S M a w
theorem Nw {md:Region.Mode}:∀ (fuel t:Nat)(listed:Array Bool)(S:ai)(M:Nat→Prop)(a:Act)(w:World),xL P main fn kd md ops Q fuel listed S M a w→aG P main fn kd ops (Region.linearise.go md ops fuel t listed []) Q S M a w:=by
 intro fuel
 induction fuel with
 | zero=>intro t listed S M a w h;simpa [Region.linearise.go] using aA h.2
 | succ fuel ih =>
  intro t listed S M a w h
  obtain ⟨h₀,h₁⟩:=h
  simp only [Region.linearise.go]
  change aG P main fn kd ops (match (Region.ready md ops listed)[t % (Region.ready md ops listed).length]? with
   | some i=>Region.linearise.go md ops fuel (t / (Region.ready md ops listed).length) (listed.setIfInBounds i true) [i]
   | none=>[].reverse) Q S M a w
  cases hi:(Region.ready md ops listed)[t % (Region.ready md ops listed).length]? with
  | none =>
   have hnil:Region.ready md ops listed=[]:=by
    cases hr:Region.ready md ops listed with
    | nil=>rfl
    | cons x xs =>
     rw [hr] at hi
     have hlt:t % (x :: xs).length < (x :: xs).length:=Nat.mod_lt _ ah
     simp at hi
     simp at hlt
     omega
   simpa using aA (h₀ hnil)
  | some i =>
   simp only []
   rw [linearise_go_acc,List.reverse_singleton,List.singleton_append]
   exact dx ((h₁ i (List.mem_of_getElem? hi)).mono fun S M a w x=>ih _ _ S M a w x)
theorem Ny {id:Nat}(hm:P.follows .mixedOrders=true)(h:∀ w1,ay P M w w1→xL P main fn kd .any ops Q ops.size (Array.replicate ops.size false) S M a { w1 with drawn:=w1.drawn+1 }):aM P main fn kd (.region id ops true) Q S M a w:=by
 intro b k cs hb hkind hc
 refine aj.next rfl fun w1 hrel=>?_
 have hs:=stepG_region_draw (P:=P) (main:=main) (ops:=ops) (b:=b) (a:=a) (k:=k) (cs:=cs) (w:=w1) (id:=id)
 refine ⟨M,_,_,#[],hs,?_,?_⟩
 ·exact ⟨Nat.le_refl _,fun h=>h,fun h=>h,fun _ _ _=>rfl,fun y=>⟨.inl,fun z=>z.elim (fun q=>q) fun z=>absurd z.2 (Nat.not_lt.2 z.1)⟩,rfl,rfl,rfl,Nat.le_succ _,fun e he=>by simp at he⟩
 ·simp only [Region.schedule,hm,Bool.true_or,if_true]
  exact Nw ops.size _ _ S M a _ (h w1 hrel) b k cs hb hkind hc
end
end Go.Blind
namespace Go.Blind
open Go.Conc Go.ConcR Go.RowKit Go.Conc.Lib Go.ConcR.Gen
theorem EU {τ:Nat→Nat}(h:∀ i,τ i=7):∀ n,cnt τ n=n
 | 0=>rfl
 | n+1=>by
  unfold cnt
  rw [EU h n,h (n+1)]
  rfl
section
variable {P:Program}{C:Nat→Prop}{O:Nat→Option (Array CommCase×CommShape)}{Home:Nat→(Nat→Prop)→Goroutine→World→Prop}{St:ai}{b:aJ}{gs:Array Goroutine}{w:World}{T:Trace}{own:Nat→Nat→Prop}{τ:Nat→Nat}{L:List Nat}
theorem Nz (hn:b.n≤100)(H:bu P C ((GH b b.n 0).env P) τ T w own):bu P C ((G0 b 0).env P) τ T w own:=by
 have h7:∀ i,τ i=7:=H.told.1.1
 refine ⟨H.ledger,H.chans,H.closed,H.aX,H.deaf,H.hush,fun x o hx=>?_,⟨⟨⟨hn,fun i _ _=>.inr (by rw [h7 i];omega)⟩,H.told.1.2.1,H.told.1.2.2.1,fun f=>f.elim⟩,fun i _ _ h=>absurd (h7 i) ag⟩,H.out⟩
 obtain ⟨e1,e2⟩:=hx
 refine H.gy x o ⟨e1,e2.trans ?_⟩
 show Obj.cells (lay b.c b.q (iV b.n τ) 0) b.e (0,0)=Obj.cells (lay b.c b.q (b.n * 4294967296) 0) b.e (0,0)
 unfold iV
 rw [EU h7 b.n]
theorem aP.NA (hn:b.n≤100)(H:aP P C ((GH b b.n 0).env P) τ O Home St 0 gs w T own L):aP P C ((G0 b 0).env P) τ O Home St 0 gs w T own L:=by
 have k:∀ i,((GH b b.n 0).env P).wk i→((G0 b 0).env P).wk i:=fun i hi=>absurd hi.1 (by have:i≤0:=hi.2;omega)
 exact ⟨Nz hn H.eZ,H.there,H.one,fun i g e hg hi=>(H.act i g e hg hi).mono fun M g w h=>zt (E:=(GH b b.n 0).env P) (E':=(G0 b 0).env P) rfl rfl rfl k h,fun i g e hg hi=>zu (E:=(GH b b.n 0).env P) (E':=(G0 b 0).env P) rfl rfl rfl k (H.sat i g e hg hi),H.live,H.mine⟩
end
def rZ (P:Program)(Nx:Nat→ai):ai:=fun M g w=>g.status=.running∧∀ c,∃ g',(∀ w1,w1.heap.size=c→stepG P true g w1=.go g' (w1.alloc (.chan 0 #[] false 0 0 false)) #[])∧∀ w1,ay P M w w1→aj P true (Nx c) M g' w1
theorem NB {x:MemAct}{a:Touch}{b B:Nat}(h:x.low B)(ht:x.touch?=some a)(hl:dI b a.loc):b < B:=by
 cases x with
 | access e =>
  cases ht
  obtain ⟨l,wr,sy⟩:=e
  cases l with
  | cell ad=>exact (show ad.block=b from hl) ▸ h
  | obj r=>exact (show r=b from hl) ▸ h
  | _=>exact hl.elim
 | mark m =>
  cases m with
  | read ad=>cases ht;exact (show ad.block=b from hl) ▸ h
  | write ad=>cases ht;exact (show ad.block=b from hl) ▸ h
  | _=>cases ht
 | _=>cases ht
section
variable {P:Program}{C:Nat→Prop}{E:Env}{O:Nat→Option (Array CommCase×CommShape)}{Home:Nat→(Nat→Prop)→Goroutine→World→Prop}{gs0:Array Goroutine}{w0 w:World}{sl0:Option (Nat×Nat)}{T0 T:Trace}{aU own:Nat→Nat→Prop}{τ0 τ:Nat→Nat}{L:List Nat}
theorem alloc_old (w:World)(o:Obj){b:Nat}{x:Obj}(h:w.heap[b]?=some x):(w.alloc o).heap[b]?=some x:=by
 have hlt:=(Array.getElem?_eq_some_iff.1 h).1
 show (w.heap.push o)[b]?=some x
 rw [Array.getElem?_push_lt hlt,← h]
 exact (Array.getElem?_eq_getElem hlt).symm
theorem oW {M:Nat→Prop}(o:Obj)(hM0:∀ b,M b→b / 2 < w.heap.size):ay P M w (w.alloc o):=by
 have hM:∀ b,has M b→b < w.heap.size:=fun b hb=>(iQ hb).elim fun c hc=>hc.1 ▸ hM0 c hc.2
 refine ⟨by show w.heap.size≤(w.heap.push o).size;simp,fun b hb=>?_,fun hg g hgl=>?_,rfl⟩
 ·have:=alloc_old w o (Array.getElem?_eq_getElem (hM b hb))
  rw [this,Array.getElem?_eq_getElem (hM b hb)]
 ·obtain ⟨c,e,fz,h⟩:=hg g hgl
  exact ⟨c,e,fz,alloc_old w o h⟩
theorem bu.make (H:bu P C E τ T w own):bu P (fun b=>C b∨b=w.heap.size) E τ T (w.alloc (.chan 0 #[] false 0 0 false)) own:=by
 have hsz:(w.alloc (.chan 0 #[] false 0 0 false)).heap.size=w.heap.size+1:=by show (w.heap.push _).size=_;simp
 refine ⟨⟨H.ledger.clean,H.ledger.apart,fun i b hb=>by rw [hsz];exact Nat.lt_succ_of_lt (H.ledger.low i b hb),H.ledger.known,fun op hop=>MemAct.low_mono ag (H.ledger.seen op hop)⟩,fun c hc=>?_,fun c hc=>?_,(oW (P:=P) (M:=fun _=>False) _ (fun _ h=>h.elim)).aX H.aX,H.deaf,fun c hc=>?_,fun b o hb=>?_,H.told,H.out⟩
 ·rcases hc with z | rfl
  ·obtain ⟨⟨k,q⟩,hn⟩:=H.chans c z
   exact ⟨⟨k,alloc_old w _ q⟩,hn⟩
  ·exact ⟨⟨0,by show (w.heap.push _)[w.heap.size]?=_;simp⟩,fun i hi=>(iQ hi).elim fun c hc=>absurd (hc.1 ▸ H.ledger.low i c hc.2) (Nat.lt_irrefl _)⟩
 ·obtain ⟨⟨k,q⟩,hn⟩:=H.closed c hc
  exact ⟨⟨k,alloc_old w _ q⟩,hn⟩
 ·rcases hc with z | rfl
  ·exact H.hush c z
  ·intro k a ha hl
   obtain ⟨x,hx,hxa⟩:=touch_of ha
   exact absurd (NB (H.ledger.seen x (Array.mem_of_getElem? hx)) hxa hl) (Nat.lt_irrefl _)
 ·obtain ⟨q1,q2,q3⟩:=H.gy b o hb
  exact ⟨alloc_old w _ q1,q2,q3⟩
theorem aP.makes (K:dB P E)(U:dN C O){Nx:Nat→ai}(H:aP P C E τ0 O Home (rZ P Nx) 0 gs0 w0 T0 aU L)(hh:0∉L) :
  ∃ c N gs w sl T own τ L',runNT P N (crowd gs0 w0 sl0) T0=(.next (crowd gs w sl),T)∧gs.size=gs0.size∧dZ O 0 τ0 τ∧aP P (fun b=>C b∨b=c) E τ O Home (Nx c) 0 gs w T own L'∧0∉L'∧¬ C c∧¬ E.shut c∧∀ o,¬ E.at_ τ c o:=by
 obtain ⟨N,gs,w,sl,T,own,τ,L',hrun,hsz,hk,hL,hh'⟩:=lead K U (fun M g w h=>h.1) L.length L (Nat.le_refl _) gs0 w0 sl0 T0 aU τ0 H hh
 obtain ⟨g,d,sl',hg,hat,hstep⟩:=hL.stop
 have HT:=hL.sys.eZ.at_ d
 obtain ⟨_,hs⟩:=hat (w.at d) (ay.at_ P _ w d)
 obtain ⟨g',hs1,hs2⟩:=hs (w.at d).heap.size
 have hst:=hs1 (w.at d) rfl
 have hT:=HT.make
 have hrl:∀ j,ay P (own j) w ((w.at d).alloc (.chan 0 #[] false 0 0 false)):=fun j=>(ay.at_ P _ w d).trans (oW _ fun b hb=>HT.ledger.low j b hb)
 have hrt:=runT_crowd_go (P:=P) (i:=0) (sl:=sl') hg hst
 have hev:MemOp.ofEvents 0 g.frame.fn g.frame.place #[]=#[]:=rfl
 have hlt:0 < gs.size:=(Array.getElem?_eq_some_iff.1 hg).1
 have hag:=hL.sys.again U.plain (w':=(w.at d).alloc (.chan 0 #[] false 0 0 false)) fun c hc=>(hT.chans c (.inl hc)).1
 have hoth:∀ j x,j≠0→((gs.map (woken P g g' ((w.at d).alloc (.chan 0 #[] false 0 0 false)))).setIfInBounds 0 g')[j]?=some x→gs[j]?=some x:=by
  intro j x e hx
  rw [Array.getElem?_setIfInBounds_ne (fun q=>e q.symm),Array.getElem?_map] at hx
  cases hz:gs[j]? with
  | none=>rw [hz] at hx;cases hx
  | some y =>
   rw [hz] at hx
   simp only [Option.map_some,woken_of_again (hag j y e hz)] at hx
   exact hx
 refine ⟨(w.at d).heap.size,N+1,(gs.map (woken P g g' ((w.at d).alloc (.chan 0 #[] false 0 0 false)))).setIfInBounds 0 g',_,sl',T,own,τ,L',(runNT_then N 1 _ _ _ _ hrun).trans (by simp only [runNT,hstep,hrt,hev,Array.append_empty]),by simpa using hsz,hk,⟨hT,by simpa using hlt,fun x hx=>?_,fun i x e hx hi=>?_,fun i x e hx hi=>?_,hL.sys.live,hL.sys.mine⟩,hh',fun hc=>?_,fun hc=>?_,fun o ho=>?_⟩
 ·rw [Array.getElem?_setIfInBounds_self_of_lt (by simpa using hlt)] at hx
  cases hx
  exact hs2 _ (oW _ fun b hb=>HT.ledger.low 0 b hb)
 ·exact (hL.sys.act i x e (hoth i x e hx) hi).rely (hrl i)
 ·exact (hL.sys.sat i x e (hoth i x e hx) hi).rely (hrl i)
 ·obtain ⟨⟨k,q⟩,_⟩:=HT.chans _ hc
  exact absurd (Array.getElem?_eq_some_iff.1 q).1 (Nat.lt_irrefl _)
 ·obtain ⟨⟨k,q⟩,_⟩:=HT.closed _ hc
  exact absurd (Array.getElem?_eq_some_iff.1 q).1 (Nat.lt_irrefl _)
 ·exact absurd (Array.getElem?_eq_some_iff.1 (HT.gy _ o ho).1).1 (Nat.lt_irrefl _)
end
section
variable {P:Program}{fn:FuncId}{kd:CallKind}{K:ai→(Nat→Prop)→Act→World→Prop}{M:Nat→Prop}{a:Act}{w:World}{ops:Array Oper}{i:Nat}{o:Oper}
theorem NC {Nx:Nat→ai}(hkd:kd≠.early)(ho:ops[i]?=some o)(hw:Region.wanted o (yielded ops a.tmps)=true)(hr:∀ w1:World,(execOp a.eval o).run P w1=.ok (.value (.chan (some w1.heap.size))) (w1.alloc (.chan 0 #[] false 0 0 false))∧listed P fn a o w1=#[])
  (h:∀ c w1,ay P M w w1→K (Nx c) M (a.put o.dst (.chan (some c))) w1):cK P true fn kd ops i K (rZ P Nx) M a w:=by
 intro b k cs rest hb hkind hc
 have hke:b.kind≠.early:=by rw [hkind];exact hkd
 refine .stop fun w1 hrel=>⟨rfl,fun c=>⟨G (b.at (a.put o.dst (.chan (some c))) (.inRegion ops rest :: k)) cs,fun w2 hc2=>?_,fun w2 h2=>hc _ _ _ _ (h c w2 (hrel.trans h2))⟩⟩
 obtain ⟨h1,h2⟩:=hr w2
 subst hb
 have:=stepG_value (P:=P) (main:=true) (b:=b) (k:=k) (cs:=cs) (rest:=rest) ho hw hke h1
 rw [h2,hc2] at this
 exact this
end
end Go.Blind
namespace Go.Blind
open Go.Conc
theorem iX {P:Program}{f:FuncId}{fn:Func}(hf:P.funcs[f]?=some fn)(hn:fn.norace=false)(ad:Addr)(wr:Bool):seen P f #[⟨.cell ad,wr,false⟩]=#[⟨.cell ad,wr,false⟩]:=by
 unfold seen
 simp [hf,hn]
end Go.Blind

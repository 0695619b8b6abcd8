/- A range over a function, in terms of what each side may turn: the loop's record and the block for deferred calls are the taker's own. -/
import Derived.Test.YtloljphbdfjgdaaGreatDoorK14
import Derived.RangeFuncNested
import Derived.RangeFuncBound
import Derived.RangeFuncCalls
import Derived.RangeFuncLeaves
import Derived.Shelf.Abstract
import Derived.Shelf.RegionOpen
import Derived.OwnWalkIn
import Derived.TacticsInMore
import Derived.LoopNIn
import Derived.LoopIn
import Derived.Test.YtloljphbdfjgdaaGreatDoorK21
import Derived.Test.YtloljphbdfjgdaaGreatDoorK03
namespace Go.Proofs.YtloljphbdfjgdaaGreatDoor
open Go.RowKit
structure TakerY (P:Program) (l N:Nat) (xs:Nat→Array Value) (J:Nat→List Nat→World→Prop) (Jx:Nat→World→Prop):Prop where
 keep:∀ {j G w2 L w3},J j G w2→Turned L w2 w3→(∀ x,x∈L→x∉G)→J j G w3
 lt:∀ {j G w2},J j G w2→∀ x,x∈G→x < w2.heap.size
 takes:∀ j (_:j < N) G w2,J j G w2→YieldAt Fence.wide 0 P l (xs j) w2 fun e w3=>Turned G w2 w3∧((e=.returned (.bool true)∧∃ G',J (j+1) G' w3∧Wider G G' w2)∨(e=.returned (.bool false)∧Jx j w3))
def IterY (P:Program) (gf:FuncId) (lb:Array Value) (N:Nat) (xs:Nat→Array Value) (F R:List Nat) (Pre:World→Prop):Prop :=
 ∀ (l:Nat) (J:Nat→List Nat→World→Prop) (Jx:Nat→World→Prop) (G:List Nat) (W:World),TakerY P l N xs J Jx→J 0 G W→Pre W→(∀ x,x∈G→x∉F∧x∉R) →
  CallsIn Fence.wide 0 P gf (#[.func (.yield l) #[] #[]] ++ lb) W fun e W'=>(∃ v,e=.returned v)∧Turned (F ++ G) W W'∧Pre W'∧((∃ G',J N G' W'∧Wider G G' W)∨(∃ j,j < N∧Jx j W'))
def rangeEnd (I:Nat→List Nat→World→Prop) (Ix:Code→Nat→World→Prop) (j:Nat) (G:List Nat) (W:World):Exit→Act→World→Prop
 | .normal,_,W'=>Turned G W W'∧∃ G',I (j+1) G' W'∧Wider G G' W
 | .ret,_,W'=>Turned G W W'∧Ix .ret j W'
 | .exit id,_,W'=>Turned G W W'∧Ix (.exit id) j W'
 | .goto t,_,W'=>Turned G W W'∧Ix (.goto t) j W'
 | .panic _,_,_=>False
 | .outgrown,_,_=>False
theorem turned_put {w:World} {l:Nat} (o:Obj):Turned [l] w (w.putObj l o) :=
 ⟨rfl,rfl,rfl,by simp,fun k _ hn=>World.putObj_heap_other (by simpa using hn)⟩
section
variable {P:Program} {g:Operand} {ps:Array Tmp} {assign body:Code} {Q:Exit→Act→World→Prop} {a:Act} {w:World} {gf:FuncId} {lb:Array Value} {N:Nat} {xs:Nat→Array Value} {F R:List Nat} {Pre:World→Prop} {I:Nat→List Nat→World→Prop} {Ix:Code→Nat→World→Prop} {G:List Nat}
theorem takerY_of {fn:FuncId} (hfn:Fence.wide.fn fn) {D l:Nat} (rec:LoopState→Option Code→Loop) (hrec:∀ st pe,rec st pe={ state:=st,pending:=pe,fn:=fn,tmps:=a.tmps,params:=ps,assign:=assign,body:=body,defers:=D })
  (hps:∀ j,(xs j).size=ps.size)
  (keep:∀ {j G w2 L w3},I j G w2→Turned L w2 w3→(∀ x,x∈L→x∉G)→I j G w3) (lt:∀ {j G w2},I j G w2→∀ x,x∈G→x < w2.heap.size) (keepX:∀ {c j w2 w3},Ix c j w2→Turned [l] w2 w3→Ix c j w3)
  (hround:∀ j,j < N→∀ G W,I j G W→l < W.heap.size→l∉G→assign.wpIn (Fence.wide.inRound l) 0 P (Exit.then (fun a₁ W1=>Turned [] W W1∧∀ W2,Turned [l] W1 W2→body.wpIn (Fence.wide.inRound l) 0 P (rangeEnd I Ix j G W2) a₁ W2) (fun _ _ _=>False)) { tmps:=(ps.zip (xs j)).foldl (fun t (p,v)=>t.setIfInBounds p v) a.tmps,defers:=[] } W) :
  TakerY P l N xs (fun j G W=>∃ G0,G=l :: G0∧I j G0 W∧l∉G0∧W.heap[l]?=some (.loop (rec .ready none))) (fun j W=>∃ c,Ix c j W∧W.heap[l]?=some (.loop (rec .done (some c)))) where
 keep:=by
  rintro j G w2 L w3 ⟨G0,rfl,hi,hl,hr⟩ ht hL
  exact ⟨G0,rfl,keep hi ht (fun x hx hm=>hL x hx (by simp [hm])),hl,ht.heap hr (fun hm=>hL l hm (by simp))⟩
 lt:=by
  rintro j G w2 ⟨G0,rfl,hi,hl,hr⟩ x hx
  rcases List.mem_cons.1 hx with rfl | hx
  ·exact lt_of_heap hr
  ·exact lt hi x hx
 takes:=by
  rintro j hj G W ⟨G0,rfl,hi,hl,hr⟩
  have hlt:l < W.heap.size:=lt_of_heap hr
  have hy:=run_yield (P:=P) (args:=xs j) hr (by rw [hrec]; exact hps j)
  rw [hrec] at hy
  refine ⟨fn,_,assign,body,hy,roundIn_of_wpIn hfn (wpIn_mono (hround j hj G0 W hi hlt hl) ?_)⟩
  clear hy
  rintro e a1 W1 hp
  cases e with
  | normal=>?_
  | ret=>exact hp.elim
  | exit id=>exact hp.elim
  | goto t=>exact hp.elim
  | panic ch=>exact hp.elim
  | outgrown=>exact hp.elim
  obtain ⟨ht1,hbd⟩:=hp
  have hr1:=ht1.heap hr (by simp)
  have hlt1:=lt_of_heap hr1
  refine ⟨_,run_beginRound hr1 (by rw [hrec]),?_⟩
  have t1:Turned [l] W (W1.putObj l (.loop { rec .ready none with state:=.busy })):=(ht1.mono (by simp)).trans (turned_put _)
  have hl2:(W1.putObj l (.loop { rec .ready none with state:=.busy })).heap[l]?=some (.loop { rec .ready none with state:=.busy }):=World.putObj_heap_same hlt1
  have hbd2:=hbd _ (turned_put (l:=l) (.loop { rec .ready none with state:=.busy }))
  clear hbd
  generalize W1.putObj l (.loop { rec .ready none with state:=.busy })=W2 at *
  refine wpIn_mono hbd2 ?_
  have fin:∀ (jump:Option Code) (W3:World),Turned G0 W2 W3→(Instr.endRound l jump).run P W3=.ok (.bool jump.isNone) (W3.putObj l (.loop (rec (if jump.isNone then .ready else .done) jump)))∧(W3.putObj l (.loop (rec (if jump.isNone then .ready else .done) jump))).heap[l]?=some (.loop (rec (if jump.isNone then .ready else .done) jump)):=fun jump W3 h3=>by
   have h4:=h3.heap hl2 hl
   have:=run_endRound (P:=P) jump h4
   rw [hrec] at this
   rw [hrec]
   exact ⟨this,World.putObj_heap_same (lt_of_heap h4)⟩
  have tt:∀ {W3:World} {o:Obj},Turned G0 W2 W3→Turned (l :: G0) W (W3.putObj l o):=fun h3 =>
   ((t1.mono (by simp)).trans (h3.mono (fun x hx=>by simp [hx]))).trans ((turned_put _).mono (by simp))
  rintro e a3 W3 hp
  cases e with
  | normal =>
   obtain ⟨h3,G',hi3,hw⟩:=hp
   obtain ⟨hr3,hl3⟩:=fin none W3 h3
   have hl':l∉G':=fun hm=>by
    rcases hw l hm with z | z
    ·exact hl z
    ·have:=lt_of_heap hl2; omega
   refine ⟨_,_,hr3,tt h3,.inl ⟨rfl,l :: G',⟨G',rfl,keep hi3 (turned_put _) (by simp; exact hl'),hl',hl3⟩,?_⟩⟩
   intro x hx
   rcases List.mem_cons.1 hx with rfl | hx
   ·exact .inl (by simp)
   ·rcases hw x hx with z | z
    ·exact .inl (by simp [z])
    ·exact .inr (Nat.le_trans t1.size z)
  | ret =>
   obtain ⟨h3,hx⟩:=hp
   obtain ⟨hr3,hl3⟩:=fin (some .ret) W3 h3
   exact ⟨_,_,hr3,tt h3,.inr ⟨rfl,.ret,keepX hx (turned_put _),hl3⟩⟩
  | exit id =>
   obtain ⟨h3,hx⟩:=hp
   obtain ⟨hr3,hl3⟩:=fin (some (.exit id)) W3 h3
   exact ⟨_,_,hr3,tt h3,.inr ⟨rfl,.exit id,keepX hx (turned_put _),hl3⟩⟩
  | goto t =>
   obtain ⟨h3,hx⟩:=hp
   obtain ⟨hr3,hl3⟩:=fin (some (.goto t)) W3 h3
   exact ⟨_,_,hr3,tt h3,.inr ⟨rfl,.goto t,keepX hx (turned_put _),hl3⟩⟩
  | panic ch=>exact hp.elim
  | outgrown=>exact hp.elim
end
end Go.Proofs.YtloljphbdfjgdaaGreatDoor
/- The statement 'for .. := range f', by the contract of f's iterator. -/
namespace Go.Proofs.YtloljphbdfjgdaaGreatDoor
open Go.RowKit
abbrev markD (D:Nat):Deferred:={ target:=.collected D,args:=#[] }
section
variable {P:Program} {g:Operand} {ps:Array Tmp} {assign body:Code} {Q:Exit→Act→World→Prop} {a:Act} {w:World} {gf:FuncId} {lb:Array Value} {N:Nat} {xs:Nat→Array Value} {F R:List Nat} {Pre:World→Prop} {I:Nat→List Nat→World→Prop} {Ix:Code→Nat→World→Prop} {G:List Nat}
theorem wp_range (hg:a.eval g=.func (.func gf) #[] lb) (eg:∀ args w,(callFunc gf args).run P w=.ok (.enter gf args) w) (hit:IterY P gf lb N xs F R Pre) (hps:∀ j,(xs j).size=ps.size)
  (keep:∀ {j G w2 L w3},I j G w2→Turned L w2 w3→(∀ x,x∈L→x∉G)→I j G w3) (lt:∀ {j G w2},I j G w2→∀ x,x∈G→x < w2.heap.size) (keepX:∀ {c j w2 w3},Ix c j w2→Turned [w.heap.size+1] w2 w3→Ix c j w3)
  (keepP:∀ {w2 w3 L},Pre w2→Turned L w2 w3→(∀ x,x∈L→w.heap.size≤x)→Pre w3)
  (h0:I 0 G w) (hP:Pre w) (hG:∀ x,x∈G→x∉F∧x∉R) (hF:∀ x,x∈F→x < w.heap.size) (hR:∀ x,x∈R→x < w.heap.size)
  (hround:∀ j,j < N→∀ G W,I j G W→w.heap.size+1 < W.heap.size→w.heap.size+1∉G→assign.wpIn (Fence.wide.inRound (w.heap.size+1)) 0 P (Exit.then (fun a₁ W1=>Turned [] W W1∧∀ W2,Turned [w.heap.size+1] W1 W2→body.wpIn (Fence.wide.inRound (w.heap.size+1)) 0 P (rangeEnd I Ix j G W2) a₁ W2) (fun _ _ _=>False)) { tmps:=(ps.zip (xs j)).foldl (fun t (p,v)=>t.setIfInBounds p v) a.tmps,defers:=[] } W)
  (hdone:∀ W G',I N G' W→Wider G G' w→Pre W→Turned (F ++ G) w W→W.heap[w.heap.size]?=some (.deferred (some []))→Q .normal { a with defers:=markD w.heap.size :: a.defers } W)
  (hstop:∀ c j W,j < N→Ix c j W→Pre W→Turned (F ++ G) w W→W.heap[w.heap.size]?=some (.deferred (some []))→c.wp P Q { a with defers:=markD w.heap.size :: a.defers } W) :
  (Code.rangeFunc g ps assign body).wp P Q a w:=by
 rw [← wpIn_wide (n:=0)]
 refine wpIn_rangeFunc ?_
 intro fn hfn
 obtain ⟨rec,hrec⟩:∃ rec:LoopState→Option Code→Loop,∀ st pe,rec st pe={ state:=st,pending:=pe,fn:=fn,tmps:=a.tmps,params:=ps,assign:=assign,body:=body,defers:=w.heap.size }:=⟨fun st pe=>_,fun _ _=>rfl⟩
 obtain ⟨W1,hW1⟩:∃ W1,(w.alloc (.deferred (some []))).alloc (.loop (rec .ready none))=W1:=⟨_,rfl⟩
 have hs1:W1.heap.size=w.heap.size+2:=by rw [← hW1]; simp
 have hL1:W1.heap[w.heap.size+1]?=some (.loop (rec .ready none)):=by
  rw [← hW1]; have:=World.alloc_heap_new (w.alloc (.deferred (some []))) (.loop (rec .ready none)); rwa [World.size_alloc] at this
 have hK1:W1.heap[w.heap.size]?=some (.deferred (some [])):=by
  rw [← hW1]; exact (Below.heap_alloc _ _ _ (by simp)).trans (World.alloc_heap_new w _)
 have ht1:Turned [] w W1:=by rw [← hW1]; exact ((Turned.refl _ _).alloc _).alloc _
 have hGlt:=lt h0
 refine ⟨w.heap.size+1,[markD w.heap.size],W1,{ target:=.fn (.func gf) lb,args:=#[.func (.yield (w.heap.size+1)) #[] #[]] },W1,gf,#[.func (.yield (w.heap.size+1)) #[] #[]] ++ lb,W1,?_,?_,?_,?_,fun h=>by simp [Fence.wide] at h,?_⟩
 ·rw [← hW1,hrec]; exact run_enterLoop_outer _ _ _ _ _
 ·simp only [resolve,hg]
  simp [go_sem]
 ·intro f' _; exact trivial
 ·simp [invoke,go_sem,eg]
 ·have hT:=takerY_of (P:=P) (xs:=xs) (N:=N) (I:=I) (Ix:=Ix) hfn rec hrec hps (fun h1 h2 h3=>keep h1 h2 h3) (fun h1=>lt h1) (fun h1 h2=>keepX h1 h2) hround
  refine (hit (w.heap.size+1) _ _ ((w.heap.size+1) :: G) W1 hT ⟨G,rfl,keep h0 ht1 (by simp),fun hm=>by have:=hGlt _ hm; omega,hL1⟩ (keepP hP ht1 (by simp)) (fun x hx=>?_)).mono ?_
  ·rcases List.mem_cons.1 hx with rfl | hx
   ·exact ⟨fun hm=>by have:=hF _ hm; omega,fun hm=>by have:=hR _ hm; omega⟩
   ·exact hG x hx
  ·rintro e W2 ⟨⟨v,rfl⟩,ht2,hP2,hJ⟩
   have hK2:W2.heap[w.heap.size]?=some (.deferred (some [])):=ht2.heap hK1 (fun hm=>by
    rcases List.mem_append.1 hm with hm | hm
    ·have:=hF _ hm; omega
    ·rcases List.mem_cons.1 hm with hm | hm
     ·omega
     ·have:=hGlt _ hm; omega)
   have ht:∀ (o:Obj),Turned (F ++ G) w (W2.putObj (w.heap.size+1) o):=fun o =>
    (((ht1.mono (by simp)).inner (l:=F ++ G) ht2 (fun x hx=>by
     rcases List.mem_append.1 hx with hx | hx
     ·exact .inl (by simp [hx])
     ·rcases List.mem_cons.1 hx with rfl | hx
      ·exact .inr (by omega)
      ·exact .inl (by simp [hx])))).inner (turned_put (l:=w.heap.size+1) o) (fun x hx=>by simp at hx; subst hx; exact .inr (by omega))
   have hPp:∀ (o:Obj),Pre (W2.putObj (w.heap.size+1) o):=fun o=>keepP hP2 (turned_put _) (by simp)
   have hKp:∀ (o:Obj),(W2.putObj (w.heap.size+1) o).heap[w.heap.size]?=some (.deferred (some [])):=fun o=>(World.putObj_heap_other (by omega)).trans hK2
   rcases hJ with ⟨G',⟨G0,rfl,hi,hl,hr⟩,hw⟩ | ⟨j,hj,c,hi,hr⟩
   ·refine ⟨none,_,by have:=run_endLoop (P:=P) hr (by rw [hrec]; simp); rw [hrec] at this; exact this,?_⟩
    refine hdone _ G0 (keep hi (turned_put _) (by simp; exact hl)) (fun x hx=>?_) (hPp _) (ht _) (hKp _)
    rcases hw x (by simp [hx]) with z | z
    ·rcases List.mem_cons.1 z with rfl | z
     ·exact absurd hx hl
     ·exact .inl z
    ·exact .inr (by omega)
   ·refine ⟨some c,_,by have:=run_endLoop (P:=P) hr (by rw [hrec]; simp); rw [hrec] at this; exact this,?_⟩
    exact wpIn_wide.2 (hstop c j _ hj (keepX hi (turned_put _)) (hPp _) (ht _) (hKp _))
end
theorem calls_marks {P:Program} {f:FuncId} {fn:Func} {c:Code} {args:Array Value} {w:World} {R:Ending→World→Prop} (hf:P.funcs[f]?=some fn) (hb:fn.body=some c)
  (h:c.wp P (bodyPostM Fence.wide 0 P fn R) { tmps:=args ++ Array.replicate (fn.ntmps - args.size) undef,defers:=[] } w):Calls P f args w R :=
 callsIn_wide.1 (callsIn_of_wp_marks hf hb trivial (wpIn_wide.2 h) rfl)
theorem marks_plain {P:Program} {fn:Func} {R:Ending→World→Prop} {a:Act} {w:World} {v:Value} (hr:(results fn a.tmps).run P w=.ok v w) (hd:a.defers=[]) (hR:R (.returned v) w):bodyPostM Fence.wide 0 P fn R .ret a w:=by
 obtain ⟨t,d⟩:=a
 subst hd
 exact ⟨v,hr,hR⟩
theorem marks_ret {P:Program} {fn:Func} {R:Ending→World→Prop} {a:Act} {w:World} {v:Value} {D:Nat} (hK:w.heap[D]?=some (.deferred (some []))) (hr:(results fn a.tmps).run P (w.putObj D (.deferred none))=.ok v (w.putObj D (.deferred none))) (hd:a.defers=[markD D]) (hR:R (.returned v) (w.putObj D (.deferred none))):bodyPostM Fence.wide 0 P fn R .ret a w:=by
 obtain ⟨t,d⟩:=a
 subst hd
 exact ⟨by simp,.inl ⟨_,_,rfl,run_takeDeferred hK,v,hr,hR⟩⟩
theorem marks_end {P:Program} {fn:Func} {R:Ending→World→Prop} {a:Act} {w:World} {v:Value} {D:Nat} (hK:w.heap[D]?=some (.deferred (some []))) (hr:(results fn a.tmps).run P (w.putObj D (.deferred none))=.ok v (w.putObj D (.deferred none))) (hd:a.defers=[markD D]) (hR:R (.returned v) (w.putObj D (.deferred none))):bodyPostM Fence.wide 0 P fn R .normal a w:=marks_ret hK hr hd hR
end Go.Proofs.YtloljphbdfjgdaaGreatDoor
/- A method called on a node; a region that reads, with quiet calls. -/
namespace Go.Proofs.YtloljphbdfjgdaaGreatDoor
open Go.RowKit
section
variable {ρ:Operand→Value} {o:Oper} {w:World} {x:Operand} {v:Value}
theorem x_invLS (h:o.op=.call { callee:=.invoke x "skein/trie.span",args:=#[],argTypes:=#[] }) (hx:ρ x=.iface 128 v):(execOp ρ o).run Tryz.prog w=.ok (.enter 140 #[v]) w:=by
 simp only [execOp,h,resolve,hx,invoke,go_sem,Array.map_empty]
 kernel_rfl
theorem x_invIS (h:o.op=.call { callee:=.invoke x "skein/trie.span",args:=#[],argTypes:=#[] }) (hx:ρ x=.iface 151 v):(execOp ρ o).run Tryz.prog w=.ok (.enter 76 #[v]) w:=by
 simp only [execOp,h,resolve,hx,invoke,go_sem,Array.map_empty]
 kernel_rfl
theorem x_invLC (h:o.op=.call { callee:=.invoke x "skein/trie.count",args:=#[],argTypes:=#[] }) (hx:ρ x=.iface 128 v):(execOp ρ o).run Tryz.prog w=.ok (.enter 139 #[v]) w:=by
 simp only [execOp,h,resolve,hx,invoke,go_sem,Array.map_empty]
 kernel_rfl
theorem x_invIC (h:o.op=.call { callee:=.invoke x "skein/trie.count",args:=#[],argTypes:=#[] }) (hx:ρ x=.iface 151 v):(execOp ρ o).run Tryz.prog w=.ok (.enter 141 #[v]) w:=by
 simp only [execOp,h,resolve,hx,invoke,go_sem,Array.map_empty]
 kernel_rfl
end
theorem l_enterE {P:Program} {o:Oper} {a:Act} {w:World} {K:Act→World→Prop} {Q:Exit→Act→World→Prop} {f:FuncId} {xs:Array Value} {R:Ending→World→Prop} (hr:(execOp a.eval o).run P w=.ok (.enter f xs) w) (hc:Calls P f xs w R) (hK:∀ e w',R e w'→∃ v,e=.returned v∧K (a.put o.dst v) w'):o.wp P a w K Q:=by
 unfold Oper.wp
 rw [hr,Oper.upon_enter]
 refine hc.mono ?_
 intro e w' h
 obtain ⟨v,rfl,hk⟩:=hK e w' h
 exact hk
end Go.Proofs.YtloljphbdfjgdaaGreatDoor
/- Drawn regions of package trie that only read, with quiet calls. (Written by tools/gen/genq2.py.) -/
namespace Go.Proofs.YtloljphbdfjgdaaGreatDoor
open Go.RowKit
def read_r9LV (sp:Nat) (a b s1 s2:Int) (v:Value) (_:Unit):Nat→Value:=fun j=>match j with | 0=>(pa sp 1) | 1=>(Value.agg #[.int .i64 a,.int .i64 b]) | 2=>(pa sp 3) | 3=>(Value.iface 128 v) | 4=>(Value.agg #[.int .i64 s1,.int .i64 s2]) | 5=>(Value.bool true) | 6=>(Value.bool false) | _=>undef
set_option maxRecDepth 100000 in
set_option maxHeartbeats 1600000 in
theorem read_r9L {sp:Nat} {a b s1 s2:Int} {v:Value} {K:Act→World→Prop} {Q:Exit→Act→World→Prop} {a0:Act} {w:World} (hs:a0.tmps.size=48) {h:Value} (x5:a0.eval (.tmp 5)=pa sp 0) (hSP:w.heap[sp]?=some (.cells #[h,.int .i64 a,.int .i64 b,.iface 128 v] 120 (0,0)))
  (hSpan:∀ x,Turned [] w x→Calls Tryz.prog 140 #[v] x fun e w'=>e=.returned (Value.agg #[.int .i64 s1,.int .i64 s2])∧Turned [] x w') (hHolds:∀ x,Turned [] w x→Calls Tryz.prog 87 #[.agg #[.int .i64 a,.int .i64 b],.agg #[.int .i64 s1,.int .i64 s2]] x fun e w'=>e=.returned (Value.bool true)∧Turned [] x w')
  (hEnd:∀ a' x,a'.tmps.size=a0.tmps.size→a'.defers=a0.defers→(∀ s,some s∉([some 39,some 40,some 41,some 42,some 43,some 44,some 45]:List (Option Nat))→a'.eval (.tmp s)=a0.eval (.tmp s))→a'.eval (.tmp 45)=(Value.bool false)→Turned [] w x→K a' x):(Code.region 9 (opsOf 9 Tryz.f53.body) true).wp Tryz.prog (Exit.then K Q) a0 w:=by
 refine wp_region_ghost3 (G:=Unit) (by kernel_rfl) [some 39,some 40,some 41,some 42,some 43,some 44,some 45] (by rw [hs]; kernel_rfl) (read_r9LV sp a b s1 s2 v) [] ?_ (fun _ _=>false) (fun _ x=>Turned [] w x) (()) ((Turned.refl _ _).drew) (by simp) (by decide) ?_ ?_
 ·exact fun i g b h _=>absurd h (noG (by kernel_rfl) i g b)
 ·intro i hi hgd
  rcases (by simp at hi; omega:i=0∨i=1∨i=2∨i=3∨i=4∨i=5∨i=6) with rfl | rfl | rfl | rfl | rfl | rfl | rfl
  ·refine soft (by decide) ?_
   intro o ac wa g ho hoff hv hS hdn
   exact x_field (op_is rfl ho) (by rw [((hoff 5 (by decide)).trans x5)]; show (Instr.fieldAt _ (pa _ _) _).run _ _=.ok (pa _ _) _; unfold pa; go_simp)
  ·refine soft (by decide) ?_
   intro o ac wa g ho hoff hv hS hdn
   have hc0:=cell_at (hS.heap hSP (by simp)) 1
   have hc1:=cell_at (hS.heap hSP (by simp)) 2
   exact x_load (op_is rfl ho) (by rw [(hv 0 39 rfl (by kernel_rfl))]; show (Instr.loadAt _ (pa _ _)).run _ _=_; unfold pa; go_simp; rfl)
  ·refine soft (by decide) ?_
   intro o ac wa g ho hoff hv hS hdn
   exact x_field (op_is rfl ho) (by rw [((hoff 5 (by decide)).trans x5)]; show (Instr.fieldAt _ (pa _ _) _).run _ _=.ok (pa _ _) _; unfold pa; go_simp)
  ·refine soft (by decide) ?_
   intro o ac wa g ho hoff hv hS hdn
   have hc0:=cell_at (hS.heap hSP (by simp)) 3
   exact x_load (op_is rfl ho) (by rw [(hv 2 41 rfl (by kernel_rfl))]; show (Instr.loadAt _ (pa _ _)).run _ _=_; unfold pa; go_simp; rfl)
  ·intro o ac wa g K ho hd _ hoff hv hS _ _ _ hK
   refine l_enterE (x_invLS (op_is rfl ho) ((hv 3 42 rfl (by kernel_rfl)))) (hSpan wa hS) ?_
   rintro e w' ⟨rfl,ht⟩
   refine ⟨_,rfl,?_⟩
   rw [hd]
   exact hK g w' (hS.trans ht) (by simp) (fun _ _ _=>rfl)
  ·intro o ac wa g K ho hd _ hoff hv hS _ _ _ hK
   refine l_callE (op_is rfl ho) (xs:=#[.agg #[.int .i64 a,.int .i64 b],.agg #[.int .i64 s1,.int .i64 s2]]) (by simp only [List.map_toArray,List.map_cons,List.map_nil]; rw [(hv 1 40 rfl (by kernel_rfl)),(hv 4 43 rfl (by kernel_rfl))]; rfl) Tryz.func87 (by kernel_rfl) rfl (hHolds wa hS) ?_
   rintro e w' ⟨rfl,ht⟩
   refine ⟨_,rfl,?_⟩
   rw [hd]
   exact hK g w' (hS.trans ht) (by simp) (fun _ _ _=>rfl)
  ·refine soft (by decide) ?_
   intro o ac wa g ho hoff hv hS hdn
   exact (x_notG (op_is rfl ho) ((hv 5 44 rfl (by kernel_rfl)))).trans rfl
 ·intro a' w' g hsz hdf hoff hS hdn hval
  exact hEnd a' w' hsz hdf (fun s hs=>ev_same (hoff s hs)) (hval 6 45 rfl) hS
def read_r9IV (sp:Nat) (a b s1 s2:Int) (v:Value) (_:Unit):Nat→Value:=fun j=>match j with | 0=>(pa sp 1) | 1=>(Value.agg #[.int .i64 a,.int .i64 b]) | 2=>(pa sp 3) | 3=>(Value.iface 151 v) | 4=>(Value.agg #[.int .i64 s1,.int .i64 s2]) | 5=>(Value.bool true) | 6=>(Value.bool false) | _=>undef
set_option maxRecDepth 100000 in
set_option maxHeartbeats 1600000 in
theorem read_r9I {sp:Nat} {a b s1 s2:Int} {v:Value} {K:Act→World→Prop} {Q:Exit→Act→World→Prop} {a0:Act} {w:World} (hs:a0.tmps.size=48) {h:Value} (x5:a0.eval (.tmp 5)=pa sp 0) (hSP:w.heap[sp]?=some (.cells #[h,.int .i64 a,.int .i64 b,.iface 151 v] 120 (0,0)))
  (hSpan:∀ x,Turned [] w x→Calls Tryz.prog 76 #[v] x fun e w'=>e=.returned (Value.agg #[.int .i64 s1,.int .i64 s2])∧Turned [] x w') (hHolds:∀ x,Turned [] w x→Calls Tryz.prog 87 #[.agg #[.int .i64 a,.int .i64 b],.agg #[.int .i64 s1,.int .i64 s2]] x fun e w'=>e=.returned (Value.bool true)∧Turned [] x w')
  (hEnd:∀ a' x,a'.tmps.size=a0.tmps.size→a'.defers=a0.defers→(∀ s,some s∉([some 39,some 40,some 41,some 42,some 43,some 44,some 45]:List (Option Nat))→a'.eval (.tmp s)=a0.eval (.tmp s))→a'.eval (.tmp 45)=(Value.bool false)→Turned [] w x→K a' x):(Code.region 9 (opsOf 9 Tryz.f53.body) true).wp Tryz.prog (Exit.then K Q) a0 w:=by
 refine wp_region_ghost3 (G:=Unit) (by kernel_rfl) [some 39,some 40,some 41,some 42,some 43,some 44,some 45] (by rw [hs]; kernel_rfl) (read_r9IV sp a b s1 s2 v) [] ?_ (fun _ _=>false) (fun _ x=>Turned [] w x) (()) ((Turned.refl _ _).drew) (by simp) (by decide) ?_ ?_
 ·exact fun i g b h _=>absurd h (noG (by kernel_rfl) i g b)
 ·intro i hi hgd
  rcases (by simp at hi; omega:i=0∨i=1∨i=2∨i=3∨i=4∨i=5∨i=6) with rfl | rfl | rfl | rfl | rfl | rfl | rfl
  ·refine soft (by decide) ?_
   intro o ac wa g ho hoff hv hS hdn
   exact x_field (op_is rfl ho) (by rw [((hoff 5 (by decide)).trans x5)]; show (Instr.fieldAt _ (pa _ _) _).run _ _=.ok (pa _ _) _; unfold pa; go_simp)
  ·refine soft (by decide) ?_
   intro o ac wa g ho hoff hv hS hdn
   have hc0:=cell_at (hS.heap hSP (by simp)) 1
   have hc1:=cell_at (hS.heap hSP (by simp)) 2
   exact x_load (op_is rfl ho) (by rw [(hv 0 39 rfl (by kernel_rfl))]; show (Instr.loadAt _ (pa _ _)).run _ _=_; unfold pa; go_simp; rfl)
  ·refine soft (by decide) ?_
   intro o ac wa g ho hoff hv hS hdn
   exact x_field (op_is rfl ho) (by rw [((hoff 5 (by decide)).trans x5)]; show (Instr.fieldAt _ (pa _ _) _).run _ _=.ok (pa _ _) _; unfold pa; go_simp)
  ·refine soft (by decide) ?_
   intro o ac wa g ho hoff hv hS hdn
   have hc0:=cell_at (hS.heap hSP (by simp)) 3
   exact x_load (op_is rfl ho) (by rw [(hv 2 41 rfl (by kernel_rfl))]; show (Instr.loadAt _ (pa _ _)).run _ _=_; unfold pa; go_simp; rfl)
  ·intro o ac wa g K ho hd _ hoff hv hS _ _ _ hK
   refine l_enterE (x_invIS (op_is rfl ho) ((hv 3 42 rfl (by kernel_rfl)))) (hSpan wa hS) ?_
   rintro e w' ⟨rfl,ht⟩
   refine ⟨_,rfl,?_⟩
   rw [hd]
   exact hK g w' (hS.trans ht) (by simp) (fun _ _ _=>rfl)
  ·intro o ac wa g K ho hd _ hoff hv hS _ _ _ hK
   refine l_callE (op_is rfl ho) (xs:=#[.agg #[.int .i64 a,.int .i64 b],.agg #[.int .i64 s1,.int .i64 s2]]) (by simp only [List.map_toArray,List.map_cons,List.map_nil]; rw [(hv 1 40 rfl (by kernel_rfl)),(hv 4 43 rfl (by kernel_rfl))]; rfl) Tryz.func87 (by kernel_rfl) rfl (hHolds wa hS) ?_
   rintro e w' ⟨rfl,ht⟩
   refine ⟨_,rfl,?_⟩
   rw [hd]
   exact hK g w' (hS.trans ht) (by simp) (fun _ _ _=>rfl)
  ·refine soft (by decide) ?_
   intro o ac wa g ho hoff hv hS hdn
   exact (x_notG (op_is rfl ho) ((hv 5 44 rfl (by kernel_rfl)))).trans rfl
 ·intro a' w' g hsz hdf hoff hS hdn hval
  exact hEnd a' w' hsz hdf (fun s hs=>ev_same (hoff s hs)) (hval 6 45 rfl) hS
end Go.Proofs.YtloljphbdfjgdaaGreatDoor
/- A frame, spelled out. -/
namespace Go.Proofs.YtloljphbdfjgdaaGreatDoor
open Go.RowKit
def lit48 (c:Nat→Value):Array Value:=#[c 0,c 1,c 2,c 3,c 4,c 5,c 6,c 7,c 8,c 9,c 10,c 11,c 12,c 13,c 14,c 15,c 16,c 17,c 18,c 19,c 20,c 21,c 22,c 23,c 24,c 25,c 26,c 27,c 28,c 29,c 30,c 31,c 32,c 33,c 34,c 35,c 36,c 37,c 38,c 39,c 40,c 41,c 42,c 43,c 44,c 45,c 46,c 47]
set_option maxRecDepth 100000 in
theorem lit48_eq (c:Nat→Value):lit48 c=((List.range 48).map c).toArray:=by rfl
theorem expand48 {a:Act} (hs:a.tmps.size=48) (hd:a.defers=[]):∃ c:Nat→Value,a=⟨lit48 c,[]⟩∧∀ s,c s=a.eval (.tmp s):=by
 refine ⟨fun s=>a.tmps.getD s undef,?_,fun s=>rfl⟩
 obtain ⟨t,d⟩:=a
 simp only at hs hd
 subst hd
 congr 1
 rw [lit48_eq]
 refine Array.ext (by simp [hs]) fun i h1 h2=>?_
 simp [Array.getD,h1]
end Go.Proofs.YtloljphbdfjgdaaGreatDoor
/- Package trie's read, alone, by contract. (Written by tools/gen/genread.py.) -/
namespace Go.Proofs.YtloljphbdfjgdaaGreatDoor
open Go.RowKit
set_option maxRecDepth 100000 in
set_option maxHeartbeats 1600000 in
theorem cReadLeaf {w:World} {tb p:Nat} {F:List Nat} {s:PSt} {h a b:Int} {k v:Int} (hT:TrieB w tb p) (hA:PoolAt w p F s) (hO:s.Ok) (hc:Ct s h ⟨0,k,v,1⟩) (h0:0≤k) (h1:k≤4294967295) (ha:a≤k) (hb:k≤b) :
  Calls Tryz.prog 53 #[pt tb,.pointer none,.agg #[.int .i64 h,.int .i64 a,.int .i64 b,.nilIface]] w fun e w'=>e=.returned (.tuple #[.agg #[.int .i64 h,.int .i64 a,.int .i64 b,.iface 128 (.agg #[.int .i64 k,.int .i64 v])],.int .i64 0])∧Turned [] w w':=by
 have HR:Hid (∀ w1,Turned [] w w1→Calls Tryz.prog 21 #[.pointer (some ⟨p,0,none⟩),.pointer none,.int .i64 h] w1 fun e w'=>e=.returned (.tuple #[.agg #[.int .i64 0,.int .i64 k,.int .i64 v,.int .i64 1],.int .i64 0])∧Turned [] w1 w'):=fun w1 ht=>cReadH (hA.still ht) hO hc
 have HN:Hid (∀ w1,Calls Tryz.prog 86 #[.agg #[.int .i64 0,.int .i64 k,.int .i64 v,.int .i64 1]] w1 fun e w'=>e=.returned (.tuple #[.iface 128 (.agg #[.int .i64 k,.int .i64 v]),.int .i64 0])∧Turned [] w1 w'):=cNodeLeaf v h0 h1
 have HS:Hid (∀ w1,Calls Tryz.prog 140 #[.agg #[.int .i64 k,.int .i64 v]] w1 fun e w'=>e=.returned (.agg #[.int .i64 k,.int .i64 k])∧Turned [] w1 w'):=cLeafSpan k v
 have HH:Hid (∀ w1,Calls Tryz.prog 87 #[.agg #[.int .i64 a,.int .i64 b],.agg #[.int .i64 k,.int .i64 k]] w1 fun e w'=>e=.returned (.bool true)∧Turned [] w1 w'):=cSpHolds a b k k (decide_eq_true ⟨ha,hb⟩)
 have HB:Hid (w.heap[tb]?=some (.cells #[.pointer (some ⟨p,0,none⟩)] 96 (0,0))):=hT.blk
 have tlt:=lt_of_heap hT.blk
 clear hT hA hO hc h0 h1 ha hb
 go_enter Tryz.func53,Tryz.ntmps53
 go_wp2
 refine read_r3 (tb:=tb) (p:=p) (sp:=w.heap.size) rfl rfl rfl rfl (((Turned.refl [] w).alloc _).alloc _ |>.heap HB.out (by simp)) (blk_old (blk_new w _) _) (fun x hx=>HR.out x ((((Turned.refl [] w).alloc _).alloc _).trans hx)) ?_
 intro a1 x nb hsz hdf hoff f8 f9 ht hb hnb
 obtain ⟨hb0,hb1,htw⟩:=two_cells ht
 clear ht
 have f0:a1.eval (.tmp 0)=pt tb:=hoff 0 (by decide)
 have f1:a1.eval (.tmp 1)=.pointer none:=hoff 1 (by decide)
 have f5:a1.eval (.tmp 5)=.pointer (some ⟨w.heap.size,0,none⟩):=hoff 5 (by decide)
 have f6:a1.eval (.tmp 6)=.pointer (some ⟨w.heap.size+1,0,none⟩):=hoff 6 (by decide)
 have f7:a1.eval (.tmp 7)=.int .i64 0:=hoff 7 (by decide)
 have hsz2:a1.tmps.size=48:=hsz
 have hdf2:a1.defers=[]:=hdf
 clear hsz hdf hoff
 obtain ⟨cc,hcc,hce⟩:=expand48 hsz2 hdf2
 have g0:=(hce 0).trans f0
 have g1:=(hce 1).trans f1
 have g5:=(hce 5).trans f5
 have g6:=(hce 6).trans f6
 have g7:=(hce 7).trans f7
 have g8:=(hce 8).trans f8
 have g9:=(hce 9).trans f9
 clear hce hsz2 hdf2 f0 f1 f5 f6 f7 f8 f9
 subst hcc
 simp only [lit48,g0,g1,g5,g6,g7,g8,g9]
 clear g0 g1 g5 g6 g7 g8 g9
 unfold pa
 obtain ⟨⟨c0,c1,c2,c3⟩,y0,y1,y2,y3⟩:=cells4 hb
 have HB0:Hid _:=hb0
 have HB1:Hid _:=hb1
 have HT:Hid (Turned [] w x):=htw
 have n0:¬ w.heap.size=nb:=by simp at hnb; omega
 have n1:¬ w.heap.size+1=nb:=by simp at hnb; omega
 clear hb hb0 hb1 htw
 go_wp2_with (go_at_call 86; refine (HN.out _).mono ?_; rintro e w2 ⟨rfl,ht2⟩; have hb0:=ht2.heap HB0.out (by simp); have hb1:=ht2.heap HB1.out (by simp); obtain ⟨⟨d0,d1,d2,d3⟩,z0,z1,z2,z3⟩:=cells4 hb0; have HC0:Hid _:=hb0; have HC1:Hid _:=hb1; have HT2:Hid (Turned [] w w2):=HT.out.trans ht2; clear ht2 HB0 HB1 HT hb0 hb1)
 have hb0:=blk_set HC0.out 3 (.iface 128 (.agg #[.int .i64 k,.int .i64 v]))
 have hb1:=(blk_other (b:=w.heap.size+1) (r:=w.heap.size) (by omega) 3 (.iface 128 (.agg #[.int .i64 k,.int .i64 v]))).trans HC1.out
 have ht3:Turned [] w _:=HT2.out.set (r:=w.heap.size) (.inr (Nat.le_refl _)) 3 (.iface 128 (.agg #[.int .i64 k,.int .i64 v]))
 generalize w2.setCell ⟨w.heap.size,3,none⟩ (.iface 128 (.agg #[.int .i64 k,.int .i64 v]))=x3 at hb0 hb1 ht3 ⊢
 clear HC0 HC1 HT2 d0 d1 d2 d3 z0 z1 z2 z3
 refine read_r9L (sp:=w.heap.size) (s1:=k) (s2:=k) rfl rfl hb0 (fun x _=>HS.out x) (fun x _=>HH.out x) ?_
 intro a2 x4 hsz hdf hoff f45 ht4
 have hb0':=ht4.heap hb0 (by simp)
 have hb1':=ht4.heap hb1 (by simp)
 have ht5:=ht3.trans ht4
 clear ht4 ht3 hb0 hb1
 have f0:a2.eval (.tmp 0)=pt tb:=hoff 0 (by decide)
 have f1:a2.eval (.tmp 1)=.pointer none:=hoff 1 (by decide)
 have f5:a2.eval (.tmp 5)=.pointer (some ⟨w.heap.size,0,none⟩):=hoff 5 (by decide)
 have f6:a2.eval (.tmp 6)=.pointer (some ⟨w.heap.size+1,0,none⟩):=hoff 6 (by decide)
 have f7:a2.eval (.tmp 7)=.int .i64 0:=hoff 7 (by decide)
 have hsz2:a2.tmps.size=48:=hsz
 have hdf2:a2.defers=[]:=hdf
 clear hsz hdf hoff
 obtain ⟨cc,hcc,hce⟩:=expand48 hsz2 hdf2
 have g0:=(hce 0).trans f0
 have g1:=(hce 1).trans f1
 have g5:=(hce 5).trans f5
 have g6:=(hce 6).trans f6
 have g7:=(hce 7).trans f7
 have g45:=(hce 45).trans f45
 clear hce hsz2 hdf2 f0 f1 f5 f6 f7 f45
 subst hcc
 simp only [lit48,g0,g1,g5,g6,g7,g45]
 clear g0 g1 g5 g6 g7 g45
 obtain ⟨⟨d0,d1,d2,d3⟩,-⟩:=cells4 (show x4.heap[w.heap.size]?=some (.cells #[.int .i64 h,.int .i64 a,.int .i64 b,.iface 128 (.agg #[.int .i64 k,.int .i64 v])] _ (0,0)) from hb0')
 obtain ⟨⟨k0,k1,k2,k3⟩,z0,z1,z2,z3⟩:=cells4 hb1'
 have HT5:Hid (Turned [] w x4):=ht5
 clear hb0' hb1' ht5
 go_wp2
 refine bodyPost_ret (v:=.tuple #[.agg #[.int .i64 h,.int .i64 a,.int .i64 b,.iface 128 (.agg #[.int .i64 k,.int .i64 v])],.int .i64 0]) (by simp [results,Tryz.results53,go_sem,k0,k1,k2,k3]) rfl ⟨rfl,?_⟩
 refine Turned.set (Turned.set (Turned.set (Turned.set HT5.out (.inr ?_) _ _) (.inr ?_) _ _) (.inr ?_) _ _) (.inr ?_) _ _ <;> simp
set_option maxRecDepth 100000 in
set_option maxHeartbeats 1600000 in
theorem cReadInner {w:World} {tb p:Nat} {F:List Nat} {s:PSt} {h a b:Int} {f l r c:Int} {q:Nat} (hT:TrieB w tb p) (hA:PoolAt w p F s) (hO:s.Ok) (hc:Ct s h ⟨(f * 64+q+1),l,r,c⟩) (h0:0≤f) (h1:f+2 * 2 ^ q≤4294967296) (h3:q≤31) (hf:f % (2 * 2 ^ q)=0) (ha:a≤f) (hb:f+2 * 2 ^ q - 1≤b) :
  Calls Tryz.prog 53 #[pt tb,.pointer none,.agg #[.int .i64 h,.int .i64 a,.int .i64 b,.nilIface]] w fun e w'=>e=.returned (.tuple #[.agg #[.int .i64 h,.int .i64 a,.int .i64 b,.iface 151 (.agg #[.int .i64 f,.int .i64 q,.int .i64 l,.int .i64 r,.int .i64 c])],.int .i64 0])∧Turned [] w w':=by
 have HR:Hid (∀ w1,Turned [] w w1→Calls Tryz.prog 21 #[.pointer (some ⟨p,0,none⟩),.pointer none,.int .i64 h] w1 fun e w'=>e=.returned (.tuple #[.agg #[.int .i64 (f * 64+q+1),.int .i64 l,.int .i64 r,.int .i64 c],.int .i64 0])∧Turned [] w1 w'):=fun w1 ht=>cReadH (hA.still ht) hO hc
 have HN:Hid (∀ w1,Calls Tryz.prog 86 #[.agg #[.int .i64 (f * 64+q+1),.int .i64 l,.int .i64 r,.int .i64 c]] w1 fun e w'=>e=.returned (.tuple #[.iface 151 (.agg #[.int .i64 f,.int .i64 q,.int .i64 l,.int .i64 r,.int .i64 c]),.int .i64 0])∧Turned [] w1 w'):=cNodeInner l r c h0 h1 h3 hf
 have HS:Hid (∀ w1,Calls Tryz.prog 76 #[.agg #[.int .i64 f,.int .i64 q,.int .i64 l,.int .i64 r,.int .i64 c]] w1 fun e w'=>e=.returned (.agg #[.int .i64 f,.int .i64 (f+2 * 2 ^ q - 1)])∧Turned [] w1 w'):=cInnerSpan l r c h0 h1 h3
 have HH:Hid (∀ w1,Calls Tryz.prog 87 #[.agg #[.int .i64 a,.int .i64 b],.agg #[.int .i64 f,.int .i64 (f+2 * 2 ^ q - 1)]] w1 fun e w'=>e=.returned (.bool true)∧Turned [] w1 w'):=cSpHolds a b f (f+2 * 2 ^ q - 1) (decide_eq_true ⟨ha,hb⟩)
 have HB:Hid (w.heap[tb]?=some (.cells #[.pointer (some ⟨p,0,none⟩)] 96 (0,0))):=hT.blk
 have tlt:=lt_of_heap hT.blk
 clear hT hA hO hc h0 h1 h3 hf ha hb
 generalize hX:f+2 * 2 ^ q - 1=X at *
 generalize hY:f * 64+(q:Int)+1=Y at *
 clear hX hY
 go_enter Tryz.func53,Tryz.ntmps53
 go_wp2
 refine read_r3 (tb:=tb) (p:=p) (sp:=w.heap.size) rfl rfl rfl rfl (((Turned.refl [] w).alloc _).alloc _ |>.heap HB.out (by simp)) (blk_old (blk_new w _) _) (fun x hx=>HR.out x ((((Turned.refl [] w).alloc _).alloc _).trans hx)) ?_
 intro a1 x nb hsz hdf hoff f8 f9 ht hb hnb
 obtain ⟨hb0,hb1,htw⟩:=two_cells ht
 clear ht
 have f0:a1.eval (.tmp 0)=pt tb:=hoff 0 (by decide)
 have f1:a1.eval (.tmp 1)=.pointer none:=hoff 1 (by decide)
 have f5:a1.eval (.tmp 5)=.pointer (some ⟨w.heap.size,0,none⟩):=hoff 5 (by decide)
 have f6:a1.eval (.tmp 6)=.pointer (some ⟨w.heap.size+1,0,none⟩):=hoff 6 (by decide)
 have f7:a1.eval (.tmp 7)=.int .i64 0:=hoff 7 (by decide)
 have hsz2:a1.tmps.size=48:=hsz
 have hdf2:a1.defers=[]:=hdf
 clear hsz hdf hoff
 obtain ⟨cc,hcc,hce⟩:=expand48 hsz2 hdf2
 have g0:=(hce 0).trans f0
 have g1:=(hce 1).trans f1
 have g5:=(hce 5).trans f5
 have g6:=(hce 6).trans f6
 have g7:=(hce 7).trans f7
 have g8:=(hce 8).trans f8
 have g9:=(hce 9).trans f9
 clear hce hsz2 hdf2 f0 f1 f5 f6 f7 f8 f9
 subst hcc
 simp only [lit48,g0,g1,g5,g6,g7,g8,g9]
 clear g0 g1 g5 g6 g7 g8 g9
 unfold pa
 obtain ⟨⟨c0,c1,c2,c3⟩,y0,y1,y2,y3⟩:=cells4 hb
 have HB0:Hid _:=hb0
 have HB1:Hid _:=hb1
 have HT:Hid (Turned [] w x):=htw
 have n0:¬ w.heap.size=nb:=by simp at hnb; omega
 have n1:¬ w.heap.size+1=nb:=by simp at hnb; omega
 clear hb hb0 hb1 htw
 go_wp2_with (go_at_call 86; refine (HN.out _).mono ?_; rintro e w2 ⟨rfl,ht2⟩; have hb0:=ht2.heap HB0.out (by simp); have hb1:=ht2.heap HB1.out (by simp); obtain ⟨⟨d0,d1,d2,d3⟩,z0,z1,z2,z3⟩:=cells4 hb0; have HC0:Hid _:=hb0; have HC1:Hid _:=hb1; have HT2:Hid (Turned [] w w2):=HT.out.trans ht2; clear ht2 HB0 HB1 HT hb0 hb1)
 have hb0:=blk_set HC0.out 3 (.iface 151 (.agg #[.int .i64 f,.int .i64 q,.int .i64 l,.int .i64 r,.int .i64 c]))
 have hb1:=(blk_other (b:=w.heap.size+1) (r:=w.heap.size) (by omega) 3 (.iface 151 (.agg #[.int .i64 f,.int .i64 q,.int .i64 l,.int .i64 r,.int .i64 c]))).trans HC1.out
 have ht3:Turned [] w _:=HT2.out.set (r:=w.heap.size) (.inr (Nat.le_refl _)) 3 (.iface 151 (.agg #[.int .i64 f,.int .i64 q,.int .i64 l,.int .i64 r,.int .i64 c]))
 generalize w2.setCell ⟨w.heap.size,3,none⟩ (.iface 151 (.agg #[.int .i64 f,.int .i64 q,.int .i64 l,.int .i64 r,.int .i64 c]))=x3 at hb0 hb1 ht3 ⊢
 clear HC0 HC1 HT2 d0 d1 d2 d3 z0 z1 z2 z3
 refine read_r9I (sp:=w.heap.size) (s1:=f) (s2:=X) rfl rfl hb0 (fun x _=>HS.out x) (fun x _=>HH.out x) ?_
 intro a2 x4 hsz hdf hoff f45 ht4
 have hb0':=ht4.heap hb0 (by simp)
 have hb1':=ht4.heap hb1 (by simp)
 have ht5:=ht3.trans ht4
 clear ht4 ht3 hb0 hb1
 have f0:a2.eval (.tmp 0)=pt tb:=hoff 0 (by decide)
 have f1:a2.eval (.tmp 1)=.pointer none:=hoff 1 (by decide)
 have f5:a2.eval (.tmp 5)=.pointer (some ⟨w.heap.size,0,none⟩):=hoff 5 (by decide)
 have f6:a2.eval (.tmp 6)=.pointer (some ⟨w.heap.size+1,0,none⟩):=hoff 6 (by decide)
 have f7:a2.eval (.tmp 7)=.int .i64 0:=hoff 7 (by decide)
 have hsz2:a2.tmps.size=48:=hsz
 have hdf2:a2.defers=[]:=hdf
 clear hsz hdf hoff
 obtain ⟨cc,hcc,hce⟩:=expand48 hsz2 hdf2
 have g0:=(hce 0).trans f0
 have g1:=(hce 1).trans f1
 have g5:=(hce 5).trans f5
 have g6:=(hce 6).trans f6
 have g7:=(hce 7).trans f7
 have g45:=(hce 45).trans f45
 clear hce hsz2 hdf2 f0 f1 f5 f6 f7 f45
 subst hcc
 simp only [lit48,g0,g1,g5,g6,g7,g45]
 clear g0 g1 g5 g6 g7 g45
 obtain ⟨⟨d0,d1,d2,d3⟩,-⟩:=cells4 (show x4.heap[w.heap.size]?=some (.cells #[.int .i64 h,.int .i64 a,.int .i64 b,.iface 151 (.agg #[.int .i64 f,.int .i64 q,.int .i64 l,.int .i64 r,.int .i64 c])] _ (0,0)) from hb0')
 obtain ⟨⟨k0,k1,k2,k3⟩,z0,z1,z2,z3⟩:=cells4 hb1'
 have HT5:Hid (Turned [] w x4):=ht5
 clear hb0' hb1' ht5
 go_wp2
 refine bodyPost_ret (v:=.tuple #[.agg #[.int .i64 h,.int .i64 a,.int .i64 b,.iface 151 (.agg #[.int .i64 f,.int .i64 q,.int .i64 l,.int .i64 r,.int .i64 c])],.int .i64 0]) (by simp [results,Tryz.results53,go_sem,k0,k1,k2,k3]) rfl ⟨rfl,?_⟩
 refine Turned.set (Turned.set (Turned.set (Turned.set HT5.out (.inr ?_) _ _) (.inr ?_) _ _) (.inr ?_) _ _) (.inr ?_) _ _ <;> simp
end Go.Proofs.YtloljphbdfjgdaaGreatDoor

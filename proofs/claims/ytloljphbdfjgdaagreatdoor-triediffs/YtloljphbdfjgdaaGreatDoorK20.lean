/- Package pool's Take and Give, by contract. -/
import Derived.Test.YtloljphbdfjgdaaGreatDoorK19
import Derived.Test.YtloljphbdfjgdaaGreatDoorK02
import Derived.Test.YtloljphbdfjgdaaGreatDoorK18
import Derived.Test.YtloljphbdfjgdaaGreatDoorK10
import Derived.Test.YtloljphbdfjgdaaGreatDoorK14
namespace Go.Proofs.YtloljphbdfjgdaaGreatDoor
open Go.RowKit
def lit60 (c:Nat→Value):Array Value:=#[c 0,c 1,c 2,c 3,c 4,c 5,c 6,c 7,c 8,c 9,c 10,c 11,c 12,c 13,c 14,c 15,c 16,c 17,c 18,c 19,c 20,c 21,c 22,c 23,c 24,c 25,c 26,c 27,c 28,c 29,c 30,c 31,c 32,c 33,c 34,c 35,c 36,c 37,c 38,c 39,c 40,c 41,c 42,c 43,c 44,c 45,c 46,c 47,c 48,c 49,c 50,c 51,c 52,c 53,c 54,c 55,c 56,c 57,c 58,c 59]
set_option maxRecDepth 100000 in
theorem lit60_eq (c:Nat→Value):lit60 c=((List.range 60).map c).toArray:=by rfl
theorem expand60 {a:Act} (hs:a.tmps.size=60) (hd:a.defers=[]):∃ c:Nat→Value,a=⟨lit60 c,[]⟩∧∀ s,c s=a.eval (.tmp s):=by
 refine ⟨fun s=>a.tmps.getD s undef,?_,fun s=>rfl⟩
 obtain ⟨t,d⟩:=a
 simp only at hs hd
 subst hd
 congr 1
 rw [lit60_eq]
 refine Array.ext (by simp [hs]) fun i h1 h2=>?_
 simp [Array.getD,h1]
def lit57 (c:Nat→Value):Array Value:=#[c 0,c 1,c 2,c 3,c 4,c 5,c 6,c 7,c 8,c 9,c 10,c 11,c 12,c 13,c 14,c 15,c 16,c 17,c 18,c 19,c 20,c 21,c 22,c 23,c 24,c 25,c 26,c 27,c 28,c 29,c 30,c 31,c 32,c 33,c 34,c 35,c 36,c 37,c 38,c 39,c 40,c 41,c 42,c 43,c 44,c 45,c 46,c 47,c 48,c 49,c 50,c 51,c 52,c 53,c 54,c 55,c 56]
set_option maxRecDepth 100000 in
theorem lit57_eq (c:Nat→Value):lit57 c=((List.range 57).map c).toArray:=by rfl
theorem expand57 {a:Act} (hs:a.tmps.size=57) (hd:a.defers=[]):∃ c:Nat→Value,a=⟨lit57 c,[]⟩∧∀ s,c s=a.eval (.tmp s):=by
 refine ⟨fun s=>a.tmps.getD s undef,?_,fun s=>rfl⟩
 obtain ⟨t,d⟩:=a
 simp only at hs hd
 subst hd
 congr 1
 rw [lit57_eq]
 refine Array.ext (by simp [hs]) fun i h1 h2=>?_
 simp [Array.getD,h1]
theorem run_poolField (w:World) (b:Nat):(Instr.fieldAt 86 (pv b 0) 0).run Tryz.prog w=.ok (pv b 0) w:=by
 unfold pv
 go_simp
theorem run_loadSlots {w:World} {p sb pb n:Nat} {fa:Int} (h:w.heap[p]?=some (poolObj sb pb n fa)):(Instr.loadAt 79 (pv p 0)).run Tryz.prog w=.ok (.slice (some ⟨sb,0,none⟩) (n+1) (n+1)) w:=by
 have c0:=cell_at h 0
 simp at c0
 unfold pv
 go_simp
theorem run_indexSlots (w:World) (sb n i:Nat) (h:i≤n):(Instr.indexAt 79 (.slice (some ⟨sb,0,none⟩) (n+1) (n+1)) (.int .i64 i)).run Tryz.prog w=.ok (pv sb i) w:=by
 have hlt:(i:Int) < (n:Int)+1:=by omega
 unfold pv
 go_simp
theorem run_loadNode {w:World} {b:Nat} {a e c d:Int} (h:w.heap[b]?=some (nodeObj a e c d)):(Instr.loadAt 68 (pv b 0)).run Tryz.prog w=.ok (.agg #[.int .i64 a,.int .i64 e,.int .i64 c,.int .i64 d]) w:=by
 have n0:=cell_at h 0
 have n1:=cell_at h 1
 have n2:=cell_at h 2
 have n3:=cell_at h 3
 simp at n0 n1 n2 n3
 unfold pv
 go_simp
theorem x_add1 {ρ:Operand→Value} {o:Oper} {w:World} {x y:Operand} {t:TypeId} {a:Int} (h:o.op=.binOp .add 3 x y t) (hx:ρ x=.int .i64 a) (hy:ρ y=.int .i64 1) (h0:0≤a) (h1:a≤1099511627774):(execOp ρ o).run Tryz.prog w=.ok (.value (.int .i64 (a+1))) w:=by
 have hw:IntKind.i64.wrap (a+1)=a+1:=by simp [IntKind.wrap,IntKind.bits,IntKind.signed]; omega
 refine x_bin h hx hy (by simp [eqGuard]) ?_
 simp [binOp,Op.intArith,hw]
section
variable {w:World} {p sb pb nb:Nat} {L:Nat→Nat} {s:PSt} {i:Nat} {g:Int}
def ledW (w:World) (sb i:Nat) (gen a b c d mark link:Int):World:=(lifeW w gen a b c d mark link).setCell ⟨sb,i,none⟩ (.pointer (some ⟨w.heap.size+1,0,none⟩))
theorem PA.led (h:PA w p sb pb nb L s) (hi:i≤s.n) (gen a b c d mark link:Int):PA (ledW w sb i gen a b c d mark link) p sb pb nb (upd L i (w.heap.size+1)) { s with slot:=upd s.slot i ⟨gen,mark,link,a,b,c,d⟩ } :=
 (h.keep (lifeW_turned [] w gen a b c d mark link) (by simp)).lead hi (lifeW_new w gen a b c d mark link) (fun k hk=>by have:=lt_of_heap (h.life k hk); omega)
theorem ledW_turned {l:List Nat} (hl:sb∈l) (w:World) (i:Nat) (gen a b c d mark link:Int):Turned l w (ledW w sb i gen a b c d mark link):=(lifeW_turned l w gen a b c d mark link).set (.inl hl) _ _
theorem cLed (h:PA w p sb pb nb L s) (hi:i≤s.n) (gen a b c d mark link:Int):Calls Tryz.prog 101 #[pv sb i,pv (L i) 0,pv (w.heap.size+1) 0] (lifeW w gen a b c d mark link) fun e w'=>e=.returned (.bool true)∧w'=ledW w sb i gen a b c d mark link:=by
 have h1:=h.keep (lifeW_turned [] w gen a b c d mark link) (by simp)
 exact cPCas (ptr_cell h1.slots hi) (froz_at h1.slots i) (h1.life i hi) rfl (lifeW_new w gen a b c d mark link) rfl
set_option maxHeartbeats 800000 in
theorem cPTakeFull (h:PA w p sb pb nb L s) (hi:idxV s.h=0) (a b c d link:Int) :
  Calls Tryz.prog 72 #[.pointer (some ⟨p,0,none⟩),.pointer none,.agg #[.int .i64 a,.int .i64 b,.int .i64 c,.int .i64 d],.int .i64 link] w fun e w'=>e=.returned (.tuple #[.int .i64 0,.int .i64 102])∧Turned [] w w'∧PA w' p sb pb nb L s:=by
 have hA:=h.alloc (.cells #[.int .i64 a,.int .i64 b,.int .i64 c,.int .i64 d] 68)
 have c1:=cell_at h.pool 1
 simp at c1
 have hpl:=lt_of_heap h.pool
 have hne:¬ p=w.heap.size:=by omega
 go_enter Tryz.func72,Tryz.ntmps72
 go_wp2_with (go_at_call 100; refine (cPopEmpty hA.pile.head hi).mono ?_; rintro e w' ⟨rfl,hw⟩; obtain rfl:=hw.symm)
 go_ret2
 exact ⟨rfl,(Turned.refl _ _).alloc _,hA⟩
set_option maxRecDepth 100000 in
set_option maxHeartbeats 1600000 in
theorem cPTake (h:PA w p sb pb nb L s) (ho:s.Ok) (hi:idxV s.h=i) (h0:i≠0) (hg0:0≤(s.slot i).gen) (hg1:(s.slot i).gen≤1099511627774) (a b c d link:Int) :
  Calls Tryz.prog 72 #[.pointer (some ⟨p,0,none⟩),.pointer none,.agg #[.int .i64 a,.int .i64 b,.int .i64 c,.int .i64 d],.int .i64 link] w fun e w'=>e=.returned (.tuple #[.int .i64 (hnd i ((s.slot i).gen+1)),.int .i64 0])∧Turned (blocks p sb pb nb L s.n) w w'∧∃ b',w.heap.size≤b'∧PA w' p sb pb nb (upd L i b') (s.take i a b c d link):=by
 have hA:=h.alloc (.cells #[.int .i64 a,.int .i64 b,.int .i64 c,.int .i64 d] 68)
 have hin:i≤s.n:=by have:=ho.top; omega
 have hn2:=ho.n2
 have hB:=hA.pop (nextV s.h (s.f i))
 have c1:=cell_at h.pool 1
 simp at c1
 have hpl:=lt_of_heap h.pool
 have hne:¬ p=w.heap.size:=by omega
 have hlt:(i:Int) < (s.n:Int)+1:=by omega
 have hN:((w.alloc (.cells #[.int .i64 a,.int .i64 b,.int .i64 c,.int .i64 d] 68)).setCell ⟨pb,0,none⟩ (.int .i64 (nextV s.h (s.f i)))).heap[w.heap.size]?=some (nodeObj a b c d):=by
  have:=lt_of_heap h.pile.head
  rw [blk_other (by omega)]
  exact blk_new w _
 have hT:Turned (blocks p sb pb nb L s.n) w ((w.alloc (.cells #[.int .i64 a,.int .i64 b,.int .i64 c,.int .i64 d] 68)).setCell ⟨pb,0,none⟩ (.int .i64 (nextV s.h (s.f i)))):=((Turned.refl _ _).alloc _).set (.inl (by simp [blocks])) _ _
 have HPk:=fun w=>cPack i ((s.slot i).gen+1) w
 rw [(pack_ok i ((s.slot i).gen+1) (by omega) (by omega) (by omega) (by omega)).1,(pack_ok i ((s.slot i).gen+1) (by omega) (by omega) (by omega) (by omega)).2] at HPk
 go_enter Tryz.func72,Tryz.ntmps72
 go_wp2_with (go_at_call 100; refine (cPop hA.pile hi h0 hin).mono ?_; rintro e w' ⟨rfl,rfl⟩)
 refine wp_loop_once ?_
 generalize ((w.alloc (.cells #[.int .i64 a,.int .i64 b,.int .i64 c,.int .i64 d] 68)).setCell ⟨pb,0,none⟩ (.int .i64 (nextV s.h (s.f i))))=W at *
 have c0:=cell_at hB.pool 0
 simp at c0
 have HLd:=cPLoad (ptr_cell hB.slots hin) (hB.life i hin) rfl
 have HB:Hid _:=hB
 have HN:Hid _:=hN
 have HT:Hid _:=hT
 clear hA hB hN hT c1 h
 go_wp2_with (go_at_call 84; refine HLd.mono ?_; rintro e w' ⟨rfl,hw⟩; obtain rfl:=hw.symm)
 rename_i K hK
 clear c0 HLd
 have hB:=HB.out
 have hBd:PA W.drew p sb pb nb L { s with h:=nextV s.h (s.f i) }:=hB.keep ((Turned.refl [] W).drew) (by simp)
 have HNL:=cNewLife W.drew ((s.slot i).gen+1) a b c d 0 link
 have HC:=cLed hBd hin ((s.slot i).gen+1) a b c d 0 link
 have tL:Turned [] W.drew (lifeW W.drew ((s.slot i).gen+1) a b c d 0 link):=lifeW_turned [] _ _ _ _ _ _ _ _
 have tP:∀ (o:Obj) (r:Nat),W.heap[r]?=some o→r≠sb→(W.drew.heap[r]?=some o∧(lifeW W.drew ((s.slot i).gen+1) a b c d 0 link).heap[r]?=some o∧(ledW W.drew sb i ((s.slot i).gen+1) a b c d 0 link).heap[r]?=some o):=fun o r hr hne=>⟨hr,tL.heap hr (by simp),(blk_other hne _ _).trans (tL.heap hr (by simp))⟩
 have fP:=tP _ _ hB.pool hB.d1
 have fL:=tP _ _ (hB.life i hin) (hB.l2 hin)
 have fN:=tP _ _ HN.out (other_type HN.out hB.slots (by decide))
 refine wp_region_two (w1:=lifeW W.drew ((s.slot i).gen+1) a b c d 0 link) (w2:=ledW W.drew sb i ((s.slot i).gen+1) a b c d 0 link) (by kernel_rfl) [some 33,some 34,some 35,some 36,some 37,some 38,some 39,some 40,some 41,some 42,some 43,some 44,some 45,some 46,some 47,some 48] (fun k=>match k with
  | 0=>pv p 0 | 1=>pv p 0 | 2=>pv p 0 | 3=>.slice (some ⟨sb,0,none⟩) (s.n+1) (s.n+1) | 4=>.int .i64 i | 5=>pv sb i | 6=>pv (L i) 0 | 7=>pv (L i) 0 | 8=>pv (L i) 0 | 9=>pv (L i) 0 | 10=>.int .i64 (s.slot i).gen | 11=>.int .i64 ((s.slot i).gen+1) | 12=>.agg #[.int .i64 a,.int .i64 b,.int .i64 c,.int .i64 d] | 13=>.int .i64 link | 14=>pv (W.drew.heap.size+1) 0 | _=>.bool true) (by kernel_rfl) 14 15 (by decide) (by decide) (by decide) (by decide +kernel) ?_ ?_ ?_
 ·intro k g b' h
  exact (no_guard (by kernel_rfl) h).elim
 ·intro k hk o ac wa wb K ho hd _ hoff hv hL hK
  rcases (by simp at hk; omega:k=0∨k=1∨k=2∨k=3∨k=4∨k=5∨k=6∨k=7∨k=8∨k=9∨k=10∨k=11∨k=12∨k=13∨k=14∨k=15) with rfl | rfl | rfl | rfl | rfl | rfl | rfl | rfl | rfl | rfl | rfl | rfl | rfl | rfl | rfl | rfl
  case inr.inr.inr.inr.inr.inr.inr.inr.inr.inr.inr.inr.inr.inr.inl =>
   obtain ⟨rfl,rfl⟩:wa=W.drew∧wb=lifeW W.drew ((s.slot i).gen+1) a b c d 0 link:=by
    rcases hL with ⟨-,h2,h3⟩ | ⟨h1,-⟩ | ⟨h1,-⟩
    ·exact ⟨h2,h3⟩
    ·exact absurd h1 (by decide)
    ·exact absurd rfl h1
   exact l_call hd (op_is rfl ho) (by simp [hv 11 44 rfl (by kernel_rfl),hv 12 45 rfl (by kernel_rfl),hv 13 46 rfl (by kernel_rfl)]; rfl) Tryz.func102 (by kernel_rfl) (by rfl) HNL hK
  case inr.inr.inr.inr.inr.inr.inr.inr.inr.inr.inr.inr.inr.inr.inr =>
   obtain ⟨rfl,rfl⟩:wa=lifeW W.drew ((s.slot i).gen+1) a b c d 0 link∧wb=ledW W.drew sb i ((s.slot i).gen+1) a b c d 0 link:=by
    rcases hL with ⟨h1,-⟩ | ⟨-,h2,h3⟩ | ⟨-,h1,-⟩
    ·exact absurd h1 (by decide)
    ·exact ⟨h2,h3⟩
    ·exact absurd rfl h1
   exact l_call hd (op_is rfl ho) (by simp [hv 5 38 rfl (by kernel_rfl),hv 6 39 rfl (by kernel_rfl),hv 14 47 rfl (by kernel_rfl)]) Tryz.func101 (by kernel_rfl) (by rfl) HC hK
  all_goals
   obtain ⟨rfl,hw3⟩:wb=wa∧(wa=W.drew∨wa=lifeW W.drew ((s.slot i).gen+1) a b c d 0 link∨wa=ledW W.drew sb i ((s.slot i).gen+1) a b c d 0 link):=by
    rcases hL with ⟨h1,-⟩ | ⟨h1,-⟩ | ⟨-,-,h2,h3 | ⟨-,h3⟩ | ⟨-,-,h3⟩⟩
    ·exact absurd h1 (by decide)
    ·exact absurd h1 (by decide)
    ·exact ⟨h2,.inl h3⟩
    ·exact ⟨h2,.inr (.inl h3)⟩
    ·exact ⟨h2,.inr (.inr h3)⟩
   have three:∀ {o:Obj} {r:Nat},(W.drew.heap[r]?=some o∧(lifeW W.drew ((s.slot i).gen+1) a b c d 0 link).heap[r]?=some o∧(ledW W.drew sb i ((s.slot i).gen+1) a b c d 0 link).heap[r]?=some o)→wb.heap[r]?=some o:=fun {o r} f=>by
    rcases hw3 with e | e | e
    ·rw [e]; exact f.1
    ·rw [e]; exact f.2.1
    ·rw [e]; exact f.2.2
   have gP:=three fP
   have gL:=three fL
   have gN:=three fN
  ·exact l_val hd ((x_move (op_is rfl ho)).trans (by rw [hoff 0 (by decide)]; rfl)) hK
  ·exact l_val hd (x_nil (op_is rfl ho) (hv 0 33 rfl (by kernel_rfl))) hK
  ·exact l_val hd (x_field (op_is rfl ho) (by rw [hv 1 34 rfl (by kernel_rfl)]; exact run_poolField _ p)) hK
  ·exact l_val hd (x_load (op_is rfl ho) (by rw [hv 2 35 rfl (by kernel_rfl)]; exact run_loadSlots gP)) hK
  ·exact l_val hd ((x_move (op_is rfl ho)).trans (by rw [hoff 10 (by decide)]; rfl)) hK
  ·exact l_val hd (x_index (op_is rfl ho) (by rw [hv 3 36 rfl (by kernel_rfl),hv 4 37 rfl (by kernel_rfl)]; exact run_indexSlots _ sb s.n i hin)) hK
  ·exact l_val hd ((x_move (op_is rfl ho)).trans (by rw [hoff 12 (by decide)]; rfl)) hK
  ·exact l_val hd ((x_move (op_is rfl ho)).trans (by rw [hoff 12 (by decide)]; rfl)) hK
  ·exact l_val hd (x_nil (op_is rfl ho) (hv 7 40 rfl (by kernel_rfl))) hK
  ·exact l_val hd (x_field (op_is rfl ho) (by rw [hv 8 41 rfl (by kernel_rfl)]; exact (run_lifeField _ (L i)).1)) hK
  ·exact l_val hd (x_load (op_is rfl ho) (by rw [hv 9 42 rfl (by kernel_rfl)]; exact run_lifeGen gL)) hK
  ·exact l_val hd (x_add1 (op_is rfl ho) (hv 10 43 rfl (by kernel_rfl)) rfl hg0 hg1) hK
  ·exact l_val hd (x_load (op_is rfl ho) (by rw [hoff 6 (by decide)]; exact run_loadNode gN)) hK
  ·exact l_val hd ((x_move (op_is rfl ho)).trans (by rw [hoff 3 (by decide)]; rfl)) hK
 ·intro a' h1 h2 h3 h4
  obtain ⟨cc,rfl,hcc⟩:=expand60 h1 h2
  have x10:cc 10=.int .i64 i:=(hcc 10).trans ((ev_same (h3 10 (by decide))).trans rfl)
  have x12:cc 12=.pointer (some ⟨L i,0,none⟩):=(hcc 12).trans ((ev_same (h3 12 (by decide))).trans rfl)
  have x48:cc 48=.bool true:=(hcc 48).trans (h4 15 48 rfl)
  have hLed:=hBd.led hin ((s.slot i).gen+1) a b c d 0 link
  have l0:=cell_at fL.2.2 0
  simp at l0
  have HLed:Hid _:=hLed
  have hTW:Turned (blocks p sb pb nb L s.n) w (ledW W.drew sb i ((s.slot i).gen+1) a b c d 0 link):=HT.out.drew.inner (ledW_turned (l:=blocks p sb pb nb L s.n) (by simp [blocks]) W.drew i _ _ _ _ _ _ _) (fun x hx=>.inl hx)
  have hsz:=HT.out.size
  clear h1 h2 h3 h4 hcc hLed fP fL fN tP tL HC HNL hBd hB HB HN HT
  refine hK _ _ ?_
  unfold lit60
  simp only [x10,x12,x48]
  clear x10 x12 x48
  generalize hW2:ledW W.drew sb i ((s.slot i).gen+1) a b c d 0 link=W2 at *
  go_wp2_with (go_at_call 20; refine (HPk _).mono ?_; rintro e w' ⟨rfl,hw⟩; obtain rfl:=hw.symm)
  go_ret2
  exact ⟨rfl,hTW,W.drew.heap.size+1,(by show w.heap.size≤W.heap.size+1; omega),HLed.out⟩
end
end Go.Proofs.YtloljphbdfjgdaaGreatDoor
/- A region in whatever order that only reads, of which some operations aren't wanted. -/
namespace Go.Proofs.YtloljphbdfjgdaaGreatDoor
open Go.RowKit
section
variable {P:Program} {ops:Array Oper} {Q:Exit→Act→World→Prop}
structure IPart (D:List (Option Nat)) (val:Nat→Value) (a0:Act) (w0:World) (l:Array Bool) (a:Act) (w:World):Prop where
 size:l.size=D.length
 tsize:a.tmps.size=a0.tmps.size
 defers:a.defers=a0.defers
 off:∀ s,some s∉D→a.tmps[s]?=a0.tmps[s]?
 val:∀ i d,D.getD i none=some d→on l i=true→a.eval (.tmp d)=val i
 w:w=w0
theorem wp_region_part {id:Nat} {a0:Act} {w:World} (hm:P.follows .mixedOrders=true) (D:List (Option Nat)) (val:Nat→Value) (hok:regOk ops D a0.tmps.size=true)
  (hg:∀ (i g:Nat) (b:Bool),(ops[i]?).bind (fun o:Oper=>o.guard)=some (g,b)→∃ b',val g=.bool b'∧(b'≠b→val i=undef))
  (hstep:∀ i,i < D.length→(∀ (g:Nat) (b:Bool),(ops[i]?).bind (fun o:Oper=>o.guard)=some (g,b)→val g=.bool b)→Yields P ops D val a0 w.drew w.drew Q i)
  (hend:∀ a',a'.tmps.size=a0.tmps.size→a'.defers=a0.defers→(∀ s,some s∉D→a'.tmps[s]?=a0.tmps[s]?)→(∀ i d,D.getD i none=some d→a'.eval (.tmp d)=val i)→Q .normal a' w.drew) :
  (Code.region id ops true).wp P Q a0 w:=by
 have hn:ops.size=D.length:=by
  unfold regOk at hok
  simp only [Bool.and_eq_true,beq_iff_eq] at hok
  exact hok.1
 have mem:∀ s i,D.getD i none=some s→some s∈D:=fun s i e=>by
  have hi:i < D.length:=by
   apply Classical.byContradiction
   intro h
   rw [List.getD_eq_getElem?_getD,List.getElem?_eq_none (by omega)] at e
   cases e
  rw [List.getD_eq_getElem?_getD,List.getElem?_eq_getElem hi] at e
  have:=List.getElem_mem hi
  rw [show D[i]=some s from e] at this
  exact this
 have lt:∀ i d,D.getD i none=some d→i < D.length:=fun i d e=>by
  apply Classical.byContradiction
  intro h
  rw [List.getD_eq_getElem?_getD,List.getElem?_eq_none (by omega)] at e
  cases e
 have hoff:∀ i,on (Array.replicate ops.size false) i=false:=fun i=>by
  simp only [on,Array.getD_eq_getD_getElem?,Array.getElem?_replicate]
  split <;> rfl
 refine wp_region_inv hm (fun i o ho=>(reg_at hok ho).2.2.1) (IPart D val a0 w.drew) (fun l a w h=>by rw [hn]; exact h.size) ?_ ?_ ?_
 ·exact ⟨by simp [hn],rfl,rfl,fun _ _=>rfl,fun i d _ hh=>(by rw [hoff] at hh; cases hh),rfl⟩
 ·intro l a w' h i hi
  obtain ⟨hu,o,ho,hall⟩:=mem_ready.1 hi
  obtain ⟨r1,r2,r3,r4,r5,r6⟩:=reg_at hok ho
  have hset:∀ j,on (l.setIfInBounds i true) j=if i=j then true else on l j:=fun j=>on_set i j (by rw [h.size]; exact r1)
  have hdep:∀ j d,D.getD j none=some d→waitsB ops i j=true→a.eval (.tmp d)=val j:=fun j d hjd hh=>h.val j d hjd (dep_of hi (waits_map hh))
  have hw':=h.w
  subst hw'
  have keeps:IPart D val a0 w.drew (l.setIfInBounds i true) (a.put (D.getD i none) (val i)) w.drew:=by
   have hputs:(a.put (D.getD i none) (val i)).tmps.size=a0.tmps.size:=by
    cases hD:D.getD i none <;> simp [Act.put,h.tsize]
   have hputd:(a.put (D.getD i none) (val i)).defers=a0.defers:=by
    cases hD:D.getD i none <;> simp [Act.put,h.defers]
   refine ⟨by simp [h.size],hputs,hputd,fun s hs=>?_,fun j d hjd hh=>?_,rfl⟩
   ·cases hD:D.getD i none with
    | none=>exact h.off s hs
    | some d =>
     have:d≠s:=fun e=>hs (mem s i (by rw [hD,e]))
     simp only [Act.put,Array.getElem?_setIfInBounds,this,if_false]
     exact h.off s hs
   ·rw [hset] at hh
    cases hD:D.getD i none with
    | none =>
     have hne:i≠j:=fun e=>by subst e; rw [hD] at hjd; cases hjd
     rw [if_neg hne] at hh
     exact h.val j d hjd hh
    | some d' =>
     rw [ev_put _ _ _ (by rw [h.tsize]; exact r4 d' hD)]
     by_cases e:i=j
     ·subst e
      rw [hD] at hjd
      cases hjd
      simp
     ·rw [if_neg e] at hh
      rw [if_neg (fun e2=>e (r5 j d (lt j d hjd) (by rw [hD,e2]) hjd))]
      exact h.val j d hjd hh
  have hyield:∀ (g:Nat) (b b':Bool),o.guard=some (g,b)→val g=.bool b'→yielded ops a.tmps g=some b':=fun g b b' hgd h2=>by
   obtain ⟨h1,h3,h4⟩:=r6 g b hgd
   obtain ⟨d,hgD⟩:=Option.isSome_iff_exists.1 h4
   have hv:=hdep g d hgD h3
   rw [h2] at hv
   have hgo:∃ og,ops[g]?=some og:=⟨ops[g]'(by omega),Array.getElem?_eq_getElem (by omega)⟩
   obtain ⟨og,hog⟩:=hgo
   unfold yielded
   rw [hog]
   simp only [Option.bind_some,(reg_at hok hog).2.1,hgD]
   have hlt:d < a.tmps.size:=by rw [h.tsize]; exact (reg_at hok hog).2.2.2.1 d hgD
   simp only [Act.eval,Array.getD,hlt,dite_true] at hv
   rw [Array.getElem?_eq_getElem hlt]
   have:a.tmps[d]=.bool b':=hv
   rw [this]
  unfold wpOp
  simp only [ho]
  by_cases hwant:Region.wanted o (yielded ops a.tmps)=true
  ·rw [if_pos hwant]
   refine .inl (hstep i r1 (fun g b hgb=>?_) o a _ ho r2 h.tsize (fun s hs=>?_) hdep keeps)
   ·obtain ⟨b',h1,h2⟩:=hg i g b hgb
    rw [ho] at hgb
    have hgd:o.guard=some (g,b):=hgb
    have hy:=hyield g b b' hgd h1
    simp [Region.wanted,hgd,hy] at hwant
    rw [h1,hwant]
   ·simp only [Act.eval,Array.getD_eq_getD_getElem?,h.off s hs]
  ·rw [if_neg hwant,r2]
   cases hgd:o.guard with
   | none=>exact absurd (by simp [Region.wanted,hgd]) hwant
   | some gb =>
    obtain ⟨g,b⟩:=gb
    obtain ⟨b',h1,h2⟩:=hg i g b (by rw [ho]; exact hgd)
    have hy:=hyield g b b' hgd h1
    have hne:b'≠b:=fun e=>hwant (by simp [Region.wanted,hgd,hy,e])
    rw [← h2 hne]
    exact keeps
 ·intro l a w' h hall
  have hal:∀ i,i < D.length→on l i=true:=fun i hi=>by
   have:=hall i (by rw [hn]; exact hi)
   simp only [on,Array.getD,h.size,hi,dite_true] at this ⊢
   exact this
  have hw:=h.w
  subst hw
  exact hend a h.tsize h.defers h.off fun i d hD=>h.val i d hD (hal i (lt i d hD))
end
end Go.Proofs.YtloljphbdfjgdaaGreatDoor
/- Package pool's Give, by contract. -/
namespace Go.Proofs.YtloljphbdfjgdaaGreatDoor
open Go.RowKit
theorem one_guard {ops:Array Oper} {g0:Nat} {b0:Bool} (h:ops.all (fun o=>o.guard == none || o.guard == some (g0,b0))=true) {i g:Nat} {b:Bool} (hh:(ops[i]?).bind (fun o:Oper=>o.guard)=some (g,b)):g=g0∧b=b0:=by
 obtain ⟨o,ho,hg⟩:=Option.bind_eq_some_iff.1 hh
 rw [Array.all_eq_true] at h
 obtain ⟨hi,e⟩:=Array.getElem?_eq_some_iff.1 ho
 have:=h i hi
 rw [e,hg] at this
 simpa using this
section
variable {ρ:Operand→Value} {o:Oper} {w:World}
theorem x_neqInt {x y:Operand} {t:TypeId} {a b:Int} (h:o.op=.binOp .neq 3 x y t) (hx:ρ x=.int .i64 a) (hy:ρ y=.int .i64 b):(execOp ρ o).run Tryz.prog w=.ok (.value (.bool (a != b))) w:=by
 refine x_bin h hx hy (by simp [eqGuard]) ?_
 simp [binOp,Op.intCmp]
theorem x_not {x:Operand} {t:TypeId} {b:Bool} (h:o.op=.unOp .not t x) (hx:ρ x=.bool b):(execOp ρ o).run Tryz.prog w=.ok (.value (.bool !b)) w:=by
 simp [execOp,h,hx,Op.unary]
theorem x_pick {x y z:Operand} {b:Bool} (h:o.op=.pick x y z) (hx:ρ x=.bool b):(execOp ρ o).run Tryz.prog w=.ok (.value (if b then ρ y else ρ z)) w:=by
 simp [execOp,h,hx,asBool]
end
section
variable {w:World} {p sb pb nb:Nat} {L:Nat→Nat} {s:PSt} {i:Nat} {g:Int}
set_option maxHeartbeats 1600000 in
theorem cPGiveGone (h:PA w p sb pb nb L s) (h1:1≤i) (h2:i≤s.n) (hn:s.n≤4096) (g0:0≤g) (g1:g≤1099511627775) (g2:g % 2=1) (hg:(s.slot i).gen≠g) :
  Calls Tryz.prog 75 #[.pointer (some ⟨p,0,none⟩),.pointer none,.int .i64 (hnd i g)] w fun e w'=>e=.returned (.int .i64 104)∧w'=w.drew:=by
 have HS:=cSlot h h1 h2 hn g0 g1 g2
 have c0:=cell_at h.pool 0
 simp at c0
 have hlt:(i:Int) < (s.n:Int)+1:=by omega
 have HLd:=cPLoad (ptr_cell h.slots h2) (h.life i h2) rfl
 have l0:=cell_at (h.life i h2) 0
 simp at l0
 have HB:Hid _:=h
 clear h l0
 go_enter Tryz.func75,Tryz.ntmps75
 go_wp2_with (first
  | (go_at_call 83; refine HS.mono ?_; rintro e w' ⟨rfl,hw⟩; obtain rfl:=hw.symm)
  | (go_at_call 71; refine (cStep _).mono ?_; rintro e w' ⟨rfl,hw⟩; obtain rfl:=hw.symm)
  | (go_at_call 84; refine HLd.mono ?_; rintro e w' ⟨rfl,hw⟩; obtain rfl:=hw.symm))
 rename_i K hK
 clear c0 HLd HS
 have gL:w.drew.heap[L i]?=some (lifeObj (s.slot i)):=HB.out.life i h2
 refine wp_region_part (by kernel_rfl) [some 30,some 31,some 32,some 33,some 34,some 35,some 36,some 37,some 38,some 39,some 40,some 41,some 42,some 43,some 44,some 45,some 46,some 47,some 48,some 49] (fun k=>match k with
  | 0=>pv (L i) 0 | 1=>pv (L i) 0 | 2=>pv (L i) 0 | 3=>.int .i64 (s.slot i).gen | 4=>.int .i64 g | 5=>.bool true | 6=>.bool true | 19=>.bool true | _=>undef) (by kernel_rfl) ?_ ?_ ?_
 ·intro k g b' h
  obtain ⟨rfl,rfl⟩:=one_guard (g0:=6) (b0:=false) (by kernel_rfl) h
  refine ⟨true,rfl,fun _=>?_⟩
  match k,h with
  | 0,h=>exact (nomatch (show (none:Option (Nat × Bool))=some (6,false) from h))
  | 1,h=>exact (nomatch (show (none:Option (Nat × Bool))=some (6,false) from h))
  | 2,h=>exact (nomatch (show (none:Option (Nat × Bool))=some (6,false) from h))
  | 3,h=>exact (nomatch (show (none:Option (Nat × Bool))=some (6,false) from h))
  | 4,h=>exact (nomatch (show (none:Option (Nat × Bool))=some (6,false) from h))
  | 5,h=>exact (nomatch (show (none:Option (Nat × Bool))=some (6,false) from h))
  | 6,h=>exact (nomatch (show (none:Option (Nat × Bool))=some (6,false) from h))
  | 7,h=>exact rfl
  | 8,h=>exact rfl
  | 9,h=>exact rfl
  | 10,h=>exact rfl
  | 11,h=>exact rfl
  | 12,h=>exact rfl
  | 13,h=>exact rfl
  | 14,h=>exact rfl
  | 15,h=>exact rfl
  | 16,h=>exact rfl
  | 17,h=>exact rfl
  | 18,h=>exact rfl
  | 19,h=>exact (nomatch (show (none:Option (Nat × Bool))=some (6,false) from h))
  | k+20,_=>rfl
 ·intro k hk hgd o ac K ho hd _ hoff hv hK
  rcases (by simp at hk; omega:k=0∨k=1∨k=2∨k=3∨k=4∨k=5∨k=6∨k=7∨k=8∨k=9∨k=10∨k=11∨k=12∨k=13∨k=14∨k=15∨k=16∨k=17∨k=18∨k=19) with rfl | rfl | rfl | rfl | rfl | rfl | rfl | rfl | rfl | rfl | rfl | rfl | rfl | rfl | rfl | rfl | rfl | rfl | rfl | rfl
  case inl=>exact l_val hd ((x_move (op_is rfl ho)).trans (by rw [hoff 10 (by decide)]; rfl)) hK
  case inr.inl=>exact l_val hd (x_nil (op_is rfl ho) (hv 0 30 rfl (by kernel_rfl))) hK
  case inr.inr.inl=>exact l_val hd (x_field (op_is rfl ho) (by rw [hv 1 31 rfl (by kernel_rfl)]; exact (run_lifeField _ (L i)).1)) hK
  case inr.inr.inr.inl=>exact l_val hd (x_load (op_is rfl ho) (by rw [hv 2 32 rfl (by kernel_rfl)]; exact run_lifeGen gL)) hK
  case inr.inr.inr.inr.inl=>exact l_val hd ((x_move (op_is rfl ho)).trans (by rw [hoff 8 (by decide)]; rfl)) hK
  case inr.inr.inr.inr.inr.inl=>exact l_val hd ((x_neqInt (op_is rfl ho) (hv 3 33 rfl (by kernel_rfl)) (hv 4 34 rfl (by kernel_rfl))).trans (by rw [show ((s.slot i).gen != g)=true from by simp [hg]]; rfl)) hK
  case inr.inr.inr.inr.inr.inr.inl=>exact l_val hd ((x_move (op_is rfl ho)).trans (by rw [hv 5 35 rfl (by kernel_rfl)]; rfl)) hK
  case inr.inr.inr.inr.inr.inr.inr.inr.inr.inr.inr.inr.inr.inr.inr.inr.inr.inr.inr=>exact l_val (v:=.bool true) hd ((x_pick (op_is (p:=.pick (.tmp 36) (.const (.bool true)) (.tmp 48)) rfl ho) (hv 6 36 rfl (by kernel_rfl))).trans rfl) hK
  all_goals
   exact absurd (hgd 6 false rfl) (by intro e; cases e)
 ·intro a' h1' h2' h3 h4
  obtain ⟨cc,rfl,hcc⟩:=expand57 h1' h2'
  have x49:cc 49=.bool true:=(hcc 49).trans (h4 19 49 rfl)
  clear h1' h2' h3 h4 hcc HB gL
  refine hK _ _ ?_
  unfold lit57
  simp only [x49]
  clear x49
  go_wp2
  go_ret
  exact ⟨rfl,rfl⟩
set_option maxRecDepth 100000 in
set_option maxHeartbeats 1600000 in
theorem cPGive (h:PA w p sb pb nb L s) (h1:1≤i) (h2:i≤s.n) (hn:s.n≤4096) (g0:0≤g) (g1:g≤1099511627774) (g2:g % 2=1) (hg:(s.slot i).gen=g) (ho:s.Ok) :
  Calls Tryz.prog 75 #[.pointer (some ⟨p,0,none⟩),.pointer none,.int .i64 (hnd i g)] w fun e w'=>e=.returned (.int .i64 0)∧Turned (blocks p sb pb nb L s.n) w w'∧∃ b',w.heap.size≤b'∧PA w' p sb pb nb (upd L i b') (s.give i (-7777777)):=by
 have HS:=cSlot h h1 h2 hn g0 (by omega) g2
 have c0:=cell_at h.pool 0
 simp at c0
 have hlt:(i:Int) < (s.n:Int)+1:=by omega
 have HLd:=cPLoad (ptr_cell h.slots h2) (h.life i h2) rfl
 have HB:Hid _:=h
 clear h
 go_enter Tryz.func75,Tryz.ntmps75
 go_wp2_with (first
  | (go_at_call 83; refine HS.mono ?_; rintro e w' ⟨rfl,hw⟩; obtain rfl:=hw.symm)
  | (go_at_call 71; refine (cStep _).mono ?_; rintro e w' ⟨rfl,hw⟩; obtain rfl:=hw.symm)
  | (go_at_call 84; refine HLd.mono ?_; rintro e w' ⟨rfl,hw⟩; obtain rfl:=hw.symm))
 rename_i K hK
 clear c0 HLd HS
 have hB:=HB.out
 have hBd:PA w.drew p sb pb nb L s:=hB.keep ((Turned.refl [] w).drew) (by simp)
 have HNL:=cGiven w.drew (g+1)
 have HC:=cLed hBd h2 (g+1) (-7777777) (-7777777) (-7777777) (-7777777) (-7777777) (-7777777)
 have tL:Turned [] w.drew (lifeW w.drew (g+1) (-7777777) (-7777777) (-7777777) (-7777777) (-7777777) (-7777777)):=lifeW_turned [] _ _ _ _ _ _ _ _
 have tP:∀ (o:Obj) (r:Nat),w.heap[r]?=some o→r≠sb→(w.drew.heap[r]?=some o∧(lifeW w.drew (g+1) (-7777777) (-7777777) (-7777777) (-7777777) (-7777777) (-7777777)).heap[r]?=some o∧(ledW w.drew sb i (g+1) (-7777777) (-7777777) (-7777777) (-7777777) (-7777777) (-7777777)).heap[r]?=some o):=fun o r hr hne=>⟨hr,tL.heap hr (by simp),(blk_other hne _ _).trans (tL.heap hr (by simp))⟩
 have fP:=tP _ _ hB.pool hB.d1
 have fL:=tP _ _ (hB.life i h2) (hB.l2 h2)
 refine wp_region_two (w1:=lifeW w.drew (g+1) (-7777777) (-7777777) (-7777777) (-7777777) (-7777777) (-7777777)) (w2:=ledW w.drew sb i (g+1) (-7777777) (-7777777) (-7777777) (-7777777) (-7777777) (-7777777)) (by kernel_rfl) [some 30,some 31,some 32,some 33,some 34,some 35,some 36,some 37,some 38,some 39,some 40,some 41,some 42,some 43,some 44,some 45,some 46,some 47,some 48,some 49] (fun k=>match k with
  | 0=>pv (L i) 0 | 1=>pv (L i) 0 | 2=>pv (L i) 0 | 3=>.int .i64 g | 4=>.int .i64 g | 5=>.bool false | 6=>.bool false | 7=>pv p 0 | 8=>pv p 0 | 9=>pv p 0 | 10=>.slice (some ⟨sb,0,none⟩) (s.n+1) (s.n+1) | 11=>.int .i64 i | 12=>pv sb i | 13=>pv (L i) 0 | 14=>.int .i64 g | 15=>.int .i64 (g+1) | 16=>pv (w.drew.heap.size+1) 0 | 17=>.bool true | _=>.bool false) (by kernel_rfl) 16 17 (by decide) (by decide) (by decide) (by decide +kernel) ?_ ?_ ?_
 ·intro k g b' h
  obtain ⟨rfl,rfl⟩:=one_guard (g0:=6) (b0:=false) (by kernel_rfl) h
  rfl
 ·intro k hk o ac wa wb K ho hd _ hoff hv hL hK
  rcases (by simp at hk; omega:k=0∨k=1∨k=2∨k=3∨k=4∨k=5∨k=6∨k=7∨k=8∨k=9∨k=10∨k=11∨k=12∨k=13∨k=14∨k=15∨k=16∨k=17∨k=18∨k=19) with rfl | rfl | rfl | rfl | rfl | rfl | rfl | rfl | rfl | rfl | rfl | rfl | rfl | rfl | rfl | rfl | rfl | rfl | rfl | rfl
  case inr.inr.inr.inr.inr.inr.inr.inr.inr.inr.inr.inr.inr.inr.inr.inr.inl =>
   obtain ⟨rfl,rfl⟩:wa=w.drew∧wb=lifeW w.drew (g+1) (-7777777) (-7777777) (-7777777) (-7777777) (-7777777) (-7777777):=by
    rcases hL with ⟨-,h2,h3⟩ | ⟨h1,-⟩ | ⟨h1,-⟩
    ·exact ⟨h2,h3⟩
    ·exact absurd h1 (by decide)
    ·exact absurd rfl h1
   exact l_call hd (op_is rfl ho) (by simp [hv 15 45 rfl (by kernel_rfl)]) Tryz.func104 (by kernel_rfl) (by rfl) HNL hK
  case inr.inr.inr.inr.inr.inr.inr.inr.inr.inr.inr.inr.inr.inr.inr.inr.inr.inl =>
   obtain ⟨rfl,rfl⟩:wa=lifeW w.drew (g+1) (-7777777) (-7777777) (-7777777) (-7777777) (-7777777) (-7777777)∧wb=ledW w.drew sb i (g+1) (-7777777) (-7777777) (-7777777) (-7777777) (-7777777) (-7777777):=by
    rcases hL with ⟨h1,-⟩ | ⟨-,h2,h3⟩ | ⟨-,h1,-⟩
    ·exact absurd h1 (by decide)
    ·exact ⟨h2,h3⟩
    ·exact absurd rfl h1
   exact l_call hd (op_is rfl ho) (by simp [hv 12 42 rfl (by kernel_rfl),hv 13 43 rfl (by kernel_rfl),hv 16 46 rfl (by kernel_rfl)]) Tryz.func101 (by kernel_rfl) (by rfl) HC hK
  all_goals
   obtain ⟨rfl,hw3⟩:wb=wa∧(wa=w.drew∨wa=lifeW w.drew (g+1) (-7777777) (-7777777) (-7777777) (-7777777) (-7777777) (-7777777)∨wa=ledW w.drew sb i (g+1) (-7777777) (-7777777) (-7777777) (-7777777) (-7777777) (-7777777)):=by
    rcases hL with ⟨h1,-⟩ | ⟨h1,-⟩ | ⟨-,-,h2,h3 | ⟨-,h3⟩ | ⟨-,-,h3⟩⟩
    ·exact absurd h1 (by decide)
    ·exact absurd h1 (by decide)
    ·exact ⟨h2,.inl h3⟩
    ·exact ⟨h2,.inr (.inl h3)⟩
    ·exact ⟨h2,.inr (.inr h3)⟩
   have three:∀ {o:Obj} {r:Nat},(w.drew.heap[r]?=some o∧(lifeW w.drew (g+1) (-7777777) (-7777777) (-7777777) (-7777777) (-7777777) (-7777777)).heap[r]?=some o∧(ledW w.drew sb i (g+1) (-7777777) (-7777777) (-7777777) (-7777777) (-7777777) (-7777777)).heap[r]?=some o)→wb.heap[r]?=some o:=fun {o r} f=>by
    rcases hw3 with e | e | e
    ·rw [e]; exact f.1
    ·rw [e]; exact f.2.1
    ·rw [e]; exact f.2.2
   have gP:=three fP
   have gL:=three fL
  ·exact l_val hd ((x_move (op_is rfl ho)).trans (by rw [hoff 10 (by decide)]; rfl)) hK
  ·exact l_val hd (x_nil (op_is rfl ho) (hv 0 30 rfl (by kernel_rfl))) hK
  ·exact l_val hd (x_field (op_is rfl ho) (by rw [hv 1 31 rfl (by kernel_rfl)]; exact (run_lifeField _ (L i)).1)) hK
  ·exact l_val hd (x_load (op_is rfl ho) (by rw [hv 2 32 rfl (by kernel_rfl)]; exact (run_lifeGen gL).trans (by rw [hg]; rfl))) hK
  ·exact l_val hd ((x_move (op_is rfl ho)).trans (by rw [hoff 8 (by decide)]; rfl)) hK
  ·exact l_val hd ((x_neqInt (op_is rfl ho) (hv 3 33 rfl (by kernel_rfl)) (hv 4 34 rfl (by kernel_rfl))).trans (by rw [bne_self_eq_false]; rfl)) hK
  ·exact l_val hd ((x_move (op_is rfl ho)).trans (by rw [hv 5 35 rfl (by kernel_rfl)]; rfl)) hK
  ·exact l_val hd ((x_move (op_is rfl ho)).trans (by rw [hoff 0 (by decide)]; rfl)) hK
  ·exact l_val hd (x_nil (op_is rfl ho) (hv 7 37 rfl (by kernel_rfl))) hK
  ·exact l_val hd (x_field (op_is rfl ho) (by rw [hv 8 38 rfl (by kernel_rfl)]; exact run_poolField _ p)) hK
  ·exact l_val hd (x_load (op_is rfl ho) (by rw [hv 9 39 rfl (by kernel_rfl)]; exact run_loadSlots gP)) hK
  ·exact l_val hd ((x_move (op_is rfl ho)).trans (by rw [hoff 7 (by decide)]; rfl)) hK
  ·exact l_val hd (x_index (op_is rfl ho) (by rw [hv 10 40 rfl (by kernel_rfl),hv 11 41 rfl (by kernel_rfl)]; exact run_indexSlots _ sb s.n i h2)) hK
  ·exact l_val hd ((x_move (op_is rfl ho)).trans (by rw [hoff 10 (by decide)]; rfl)) hK
  ·exact l_val hd ((x_move (op_is rfl ho)).trans (by rw [hoff 8 (by decide)]; rfl)) hK
  ·exact l_val hd (x_add1 (op_is rfl ho) (hv 14 44 rfl (by kernel_rfl)) rfl g0 g1) hK
  ·exact l_val hd ((x_not (op_is rfl ho) (hv 17 47 rfl (by kernel_rfl))).trans rfl) hK
  ·exact l_val (v:=.bool false) hd ((x_pick (op_is (p:=.pick (.tmp 36) (.const (.bool true)) (.tmp 48)) rfl ho) (hv 6 36 rfl (by kernel_rfl))).trans (by show Result.ok (Next.value (ac.eval (.tmp 48))) _=_; rw [hv 18 48 rfl (by kernel_rfl)]; rfl)) hK
 ·intro a' h1' h2' h3 h4
  obtain ⟨cc,rfl,hcc⟩:=expand57 h1' h2'
  have x0:cc 0=.pointer (some ⟨p,0,none⟩):=(hcc 0).trans ((ev_same (h3 0 (by decide))).trans rfl)
  have x1:cc 1=.pointer none:=(hcc 1).trans ((ev_same (h3 1 (by decide))).trans rfl)
  have x7:cc 7=.int .i64 i:=(hcc 7).trans ((ev_same (h3 7 (by decide))).trans rfl)
  have x49:cc 49=.bool false:=(hcc 49).trans (h4 19 49 rfl)
  have hLed:=hBd.led h2 (g+1) (-7777777) (-7777777) (-7777777) (-7777777) (-7777777) (-7777777)
  have c1:=cell_at hLed.pool 1
  simp at c1
  have HPu:=cPush0 hLed.pile (i:=i) (by omega) h2
  have HLed:Hid _:=hLed
  have hTW:Turned (blocks p sb pb nb L s.n) w (ledW w.drew sb i (g+1) (-7777777) (-7777777) (-7777777) (-7777777) (-7777777) (-7777777)):=((Turned.refl (blocks p sb pb nb L s.n) w).drew).inner (ledW_turned (l:=blocks p sb pb nb L s.n) (by simp [blocks]) w.drew i _ _ _ _ _ _ _) (fun x hx=>.inl hx)
  clear h1' h2' h3 h4 hcc hLed fP fL tP tL HC HNL hBd hB HB
  refine hK _ _ ?_
  unfold lit57
  simp only [x0,x1,x7,x49]
  clear x0 x1 x7 x49
  generalize hW2:ledW w.drew sb i (g+1) (-7777777) (-7777777) (-7777777) (-7777777) (-7777777) (-7777777)=W2 at *
  go_wp2_with (go_at_call 105; refine HPu.mono ?_; rintro e w' ⟨rfl,rfl⟩)
  go_ret
  have mp:pb∈blocks p sb pb nb L s.n∨w.heap.size≤pb:=.inl (by simp [blocks])
  have mn:nb∈blocks p sb pb nb L s.n∨w.heap.size≤nb:=.inl (by simp [blocks])
  have hge:s.give i (-7777777)={ s with slot:=upd s.slot i ⟨g+1,-7777777,-7777777,-7777777,-7777777,-7777777,-7777777⟩,h:=nextV s.h i,f:=upd s.f i (idxV s.h).toNat }:=by unfold PSt.give; rw [hg]
  refine ⟨rfl,(hTW.drew.set mn _ _).set mp _ _,w.drew.heap.size+1,(by show w.heap.size≤w.heap.size+1; omega),?_⟩
  rw [hge]
  exact HLed.out.push h2 ho.h0 _
end
end Go.Proofs.YtloljphbdfjgdaaGreatDoor
/- Package pool's New, by contract. -/
namespace Go.Proofs.YtloljphbdfjgdaaGreatDoor
open Go.RowKit
theorem infoPtr:(Tryz.prog.info? 93).map (fun i=>(i.zero,i.size,i.bytes))=some (some (.agg #[.pointer none]),1,8):=by kernel_rfl
theorem undPtrs:Tryz.prog.underlying 79=some (.slice 93):=by kernel_rfl
theorem run_makePtrs (n:Nat) (h:n≤1000000) (w:World) :
  (Instr.makeSlice 79 (.int .i64 (n+1)) (.int .i64 (n+1))).run Tryz.prog w=.ok (.slice (some ⟨w.heap.size,0,none⟩) (n+1) (n+1)) (w.alloc (.cells (madeCells #[.pointer none] (n+1)) 93)):=by
 obtain ⟨i,hi,hzz⟩:=Option.map_eq_some_iff.1 infoPtr
 simp only [Prod.mk.injEq] at hzz
 obtain ⟨hz,hs,hb⟩:=hzz
 have hr:=run_make (P:=Tryz.prog) w 79 93 i _ undPtrs hi hz .i64 .i64 ((n+1:Nat):Int) ((n+1:Nat):Int) (by omega) (Int.le_refl _) (by rw [hb]; omega) (by omega)
 simp only [Int.toNat_natCast,hs,Nat.mul_one] at hr
 exact hr
def ptrTab (b k j:Nat):Value:=if j < k then .pointer (some ⟨b,0,none⟩) else .pointer none
abbrev tabObj (b k n:Nat):Obj:=.cells ((List.range (n+1)).map (ptrTab b k)).toArray 93 (0,0)
theorem made_tab (b n:Nat):(.cells (madeCells #[.pointer none] (n+1)) 93:Obj)=tabObj b 0 n:=by
 unfold tabObj
 congr 1
 apply Array.ext
 ·simp [madeCells]
 ·intro i h1 h2
  simp [madeCells,ptrTab,Nat.mod_one]
theorem tab_cell {w:World} {sb b k n:Nat} (h:w.heap[sb]?=some (tabObj b k n)) {j:Nat} (hj:j≤n):w.cell? ⟨sb,j,none⟩=some (ptrTab b k j):=by
 rw [cell_at h,List.getElem?_toArray,List.getElem?_map,List.getElem?_range (by omega)]; rfl
theorem tab_put {w:World} {sb b k n:Nat} (h:w.heap[sb]?=some (tabObj b k n)):(w.setCell ⟨sb,k,none⟩ (.pointer (some ⟨b,0,none⟩))).heap[sb]?=some (tabObj b (k+1) n):=by
 rw [blk_set h]
 congr 2
 apply Array.ext
 ·simp
 ·intro i h1 h2
  simp only [List.size_toArray,List.length_map,List.length_range] at h2
  by_cases e:i=k
  ·subst e; simp [ptrTab]
  ·have e':¬ k=i:=fun x=>e x.symm
   have:(i < k+1)=(i < k):=propext ⟨fun h=>by omega,fun h=>by omega⟩
   simp [ptrTab,e',this]
structure PNewing (W w:World) (n k:Nat):Prop where
 turned:Turned [] W w
 head:w.heap[W.heap.size+1]?=some (pileObj 1099511627776 W.heap.size n)
 next:w.heap[W.heap.size]?=some (nextObj (fNew n) n)
 slots:w.heap[W.heap.size+2]?=some (tabObj (W.heap.size+4) k n)
 pool:w.heap[W.heap.size+3]?=some (poolObj (W.heap.size+2) (W.heap.size+1) n 0)
 life:w.heap[W.heap.size+4]?=some (lifeObj ⟨0,0,0,0,0,0,0⟩)
theorem PNewing.put {W w:World} {n k:Nat} (H:PNewing W w n k):PNewing W (w.setCell ⟨W.heap.size+2,k,none⟩ (.pointer (some ⟨W.heap.size+4,0,none⟩))) n (k+1) :=
 ⟨H.turned.set (.inr (by omega)) _ _,(blk_other (by omega) _ _).trans H.head,(blk_other (by omega) _ _).trans H.next,tab_put H.slots,(blk_other (by omega) _ _).trans H.pool,(blk_other (by omega) _ _).trans H.life⟩
theorem PNewing.start {W w2:World} {n:Nat} (hN:Newing W w2 n n (1099511627776+0)):PNewing W (((w2.alloc (.cells (madeCells #[.pointer none] (n+1)) 93)).alloc (poolObj (W.heap.size+2) (W.heap.size+1) n 0)).alloc (lifeObj ⟨0,0,0,0,0,0,0⟩)) n 0:=by
 have hsz:=hN.size
 have e3:(w2.alloc (.cells (madeCells #[.pointer none] (n+1)) 93)).heap.size=W.heap.size+3:=by simp [hsz]
 have e4:((w2.alloc (.cells (madeCells #[.pointer none] (n+1)) 93)).alloc (poolObj (W.heap.size+2) (W.heap.size+1) n 0)).heap.size=W.heap.size+4:=by simp [hsz]
 refine ⟨((hN.turned.alloc _).alloc _).alloc _,blk_old (blk_old (blk_old hN.head _) _) _,blk_old (blk_old (blk_old hN.next _) _) _,?_,?_,?_⟩
 ·have:=blk_new w2 (.cells (madeCells #[.pointer none] (n+1)) 93)
  rw [hsz] at this
  exact (blk_old (blk_old this _) _).trans (congrArg some (made_tab _ n))
 ·have:=blk_new (w2.alloc (.cells (madeCells #[.pointer none] (n+1)) 93)) (poolObj (W.heap.size+2) (W.heap.size+1) n 0)
  rw [e3] at this
  exact blk_old this _
 ·have:=blk_new ((w2.alloc (.cells (madeCells #[.pointer none] (n+1)) 93)).alloc (poolObj (W.heap.size+2) (W.heap.size+1) n 0)) (lifeObj ⟨0,0,0,0,0,0,0⟩)
  rwa [e4] at this
theorem PNewing.end_ {W w:World} {n:Nat} (H:PNewing W w n (n+1)):PA w (W.heap.size+3) (W.heap.size+2) (W.heap.size+1) W.heap.size (fun _=>W.heap.size+4) (PSt.new n):=by
 refine ⟨H.pool,H.slots.trans ?_,fun i _=>H.life,⟨H.head,H.next.trans ?_,by omega⟩,fun _ _ _ _ _ _=>rfl⟩
 ·show some (tabObj (W.heap.size+4) (n+1) n)=some (ptrObj (fun _=>W.heap.size+4) n)
  unfold tabObj ptrObj
  congr 3
  refine List.map_congr_left fun t ht=>?_
  unfold ptrTab
  rw [if_pos (List.mem_range.1 ht)]
 ·congr 2
  congr 1
  congr 1
  funext k
  show fNew n k=(((if 1≤k∧k < n then k+1 else 0:Nat)):Int)
  unfold fNew
  by_cases e:1≤k∧k < n
  ·rw [if_pos e,if_pos e]; omega
  ·rw [if_neg e,if_neg e]; rfl
set_option maxRecDepth 100000 in
set_option maxHeartbeats 1600000 in
theorem cPNew (w:World) (n:Nat) (h1:1≤n) (h2:n≤4096):Calls Tryz.prog 6 #[.int .i64 n] w fun e w'=>e=.returned (.tuple #[.pointer (some ⟨w.heap.size+3,0,none⟩),.int .i64 0])∧Turned [] w w'∧PA w' (w.heap.size+3) (w.heap.size+2) (w.heap.size+1) w.heap.size (fun _=>w.heap.size+4) (PSt.new n):=by
 have HN:=cNewPile w n 0 h1 h2 (by omega) (by omega)
 have hmk:=run_makePtrs n (by omega)
 go_enter Tryz.func6,Tryz.ntmps6
 go_wp2_with (go_at_call 27; refine HN.mono ?_; rintro e w2 ⟨rfl,hN⟩; have hsz:=hN.size; have H0:Hid _:=PNewing.start hN)
 go_loopw [29] (fun i wx=>∃ k:Nat,k≤n+1∧i=.int .i64 k∧Hid (PNewing w wx n k)) (fun i _=>n+1 - (intOf i).toNat)
 case atStart=>exact ⟨0,Nat.zero_le _,rfl,H0⟩
 case round =>
  obtain ⟨k,hk,rfl,HT⟩:=hrel
  clear H0 hN hmk
  have cp:wr.cell? ⟨w.heap.size+2+1,0,none⟩=some (.slice (some ⟨w.heap.size+2,0,none⟩) (n+1) (n+1)):=(cell_at HT.out.pool 0).trans (by simp)
  by_cases hkn:k < n+1
  ·have hlt:(k:Int) < (n:Int)+1:=by omega
   have HSt:=cPStore (a:=⟨w.heap.size+2,k,none⟩) (b:=w.heap.size+2+1+1) (tab_cell HT.out.slots (by omega)) (froz_at HT.out.slots k) HT.out.life rfl
   go_wp2_with (go_at_call 28; refine HSt.mono ?_; rintro e w' ⟨rfl,rfl⟩)
   exact ⟨⟨k+1,by omega,by go_num,HT.out.put⟩,by simp [intOf]; omega⟩
  ·have:k=n+1:=by omega
   subst this
   go_wp2
   go_ret2
   exact ⟨rfl,HT.out.turned,HT.out.end_⟩
end Go.Proofs.YtloljphbdfjgdaaGreatDoor
/- Package pool keeps its laws. -/
namespace Go.Proofs.YtloljphbdfjgdaaGreatDoor
open Go.RowKit
def PoolAt (w:World) (p:Nat) (F:List Nat) (s:PSt):Prop:=∃ sb pb nb L,PA w p sb pb nb L s∧F=blocks p sb pb nb L s.n
theorem PoolAt.same {w w':World} {p sb pb nb:Nat} {L:Nat→Nat} {s:PSt} (h:PA w p sb pb nb L s) (ht:Turned [] w w'):Turned (blocks p sb pb nb L s.n) w w'∧PoolAt w' p (blocks p sb pb nb L s.n) s :=
 ⟨ht.mono (by simp),sb,pb,nb,L,h.keep ht (by simp),rfl⟩
theorem poolLaws:PoolLaws PoolAt where
 keep:=by
  rintro w w' p F l s ⟨sb,pb,nb,L,h,rfl⟩ ht hl
  exact ⟨sb,pb,nb,L,h.keep ht hl,rfl⟩
 lt:=by
  rintro w p F s ⟨sb,pb,nb,L,h,rfl⟩
  exact h.lt
 new:=by
  intro w n h1 h2 _
  refine (cPNew w n h1 h2).mono ?_
  rintro e w' ⟨rfl,ht,h⟩
  refine ⟨_,_,rfl,ht,⟨_,_,_,_,h,rfl⟩,fun x hx=>?_⟩
  rcases mem_blocks hx with rfl | rfl | rfl | rfl | ⟨k,hk,rfl⟩ <;> omega
 take:=by
  rintro w p F s i ⟨sb,pb,nb,L,h,rfl⟩ ho hi h0 g0 g1 a b c d link
  refine (cPTake h ho hi h0 g0 g1 a b c d link).mono ?_
  rintro e w' ⟨rfl,ht,b',hb,h'⟩
  exact ⟨rfl,ht,_,⟨sb,pb,nb,_,h',rfl⟩,wider_lead hb⟩
 takeFull:=by
  rintro w p F s ⟨sb,pb,nb,L,h,rfl⟩ ho hi a b c d link
  refine (cPTakeFull h hi a b c d link).mono ?_
  rintro e w' ⟨rfl,ht,h'⟩
  exact ⟨rfl,PoolAt.same h ht⟩
 give:=by
  rintro w p F s i g ⟨sb,pb,nb,L,h,rfl⟩ ho h1 h2 g0 g1 g2 hg
  refine (cPGive h h1 h2 ho.n2 g0 g1 g2 hg ho).mono ?_
  rintro e w' ⟨rfl,ht,b',hb,h'⟩
  exact ⟨rfl,ht,_,⟨sb,pb,nb,_,h',rfl⟩,wider_lead hb⟩
 giveGone:=by
  rintro w p F s i g ⟨sb,pb,nb,L,h,rfl⟩ ho h1 h2 g0 g1 g2 hg
  refine (cPGiveGone h h1 h2 ho.n2 g0 g1 g2 hg).mono ?_
  rintro e w' ⟨rfl,rfl⟩
  exact ⟨rfl,PoolAt.same h (Turned.refl _ _).drew⟩
 read:=by
  rintro w p F s i g ⟨sb,pb,nb,L,h,rfl⟩ ho h1 h2 g0 g1 g2 hg
  refine (cPRead h h1 h2 ho.n2 g0 g1 g2 hg).mono ?_
  rintro e w' ⟨rfl,ht,h'⟩
  exact ⟨rfl,PoolAt.same h ht⟩
 readGone:=by
  rintro w p F s i g ⟨sb,pb,nb,L,h,rfl⟩ ho h1 h2 g0 g1 g2 hg f0 f1
  refine (cPReadGone h h1 h2 ho.n2 g0 g1 g2 hg f0 f1).mono ?_
  rintro e w' ⟨rfl,ht,h'⟩
  exact ⟨rfl,ht.mono (by simp [blocks]),sb,pb,nb,L,h',rfl⟩
 readBad:=by
  rintro w p F s x ⟨sb,pb,nb,L,h,rfl⟩ ho hb
  refine (cPReadBad h hb).mono ?_
  rintro e w' ⟨rfl,ht,h'⟩
  exact ⟨rfl,PoolAt.same h ht⟩
 faults:=by
  rintro w p F s ⟨sb,pb,nb,L,h,rfl⟩
  refine (cPFaults h).mono ?_
  rintro e w' ⟨rfl,rfl⟩
  exact ⟨rfl,PoolAt.same h (Turned.refl _ _)⟩
 free:=by
  rintro w p F s St ⟨sb,pb,nb,L,h,rfl⟩ ho hL hN hS
  refine (cPFree h ho hL hN hS).mono ?_
  rintro e w' ⟨he,ht⟩
  exact ⟨he,PoolAt.same h ht⟩
end Go.Proofs.YtloljphbdfjgdaaGreatDoor
/- Package trie's read, alone, by contract: a node of a tree that is there. -/
namespace Go.Proofs.YtloljphbdfjgdaaGreatDoor
open Go.RowKit
structure TrieB (w:World) (tb p:Nat):Prop where
 blk:w.heap[tb]?=some (.cells #[.pointer (some ⟨p,0,none⟩)] 96 (0,0))
 tab:Tab w
theorem TrieB.keep {w w':World} {tb p:Nat} {l:List Nat} (h:TrieB w tb p) (ht:Turned l w w') (h1:tb∉l) (h0:0∉l):TrieB w' tb p:=⟨ht.heap h.blk h1,h.tab.keep ht h0⟩
theorem TrieB.still {w w':World} {tb p:Nat} (h:TrieB w tb p) (ht:Turned [] w w'):TrieB w' tb p:=h.keep ht (by simp) (by simp)
theorem PoolAt.still {w w':World} {p:Nat} {F:List Nat} {s:PSt} (h:PoolAt w p F s) (ht:Turned [] w w'):PoolAt w' p F s:=poolLaws.keep h ht (by simp)
theorem cReadH {w:World} {p:Nat} {F:List Nat} {s:PSt} {h:Int} {x:Nd} (hA:PoolAt w p F s) (hO:s.Ok) (hc:Ct s h x) :
  Calls Tryz.prog 21 #[.pointer (some ⟨p,0,none⟩),.pointer none,.int .i64 h] w fun e w'=>e=.returned (.tuple #[.agg #[.int .i64 x.a,.int .i64 x.b,.int .i64 x.c,.int .i64 x.d],.int .i64 0])∧Turned [] w w':=by
 obtain ⟨sb,pb,nb,L,hp,rfl⟩:=hA
 obtain ⟨i,g,rfl,h1,h2,hg,g0,g1,g2,ea,eb,ec,ed⟩:=hc.ex
 refine (cPRead hp h1 h2 hO.n2 g0 (by omega) g2 hg).mono ?_
 rintro e w' ⟨rfl,ht,-⟩
 exact ⟨by rw [ea,eb,ec,ed],ht⟩
def nv:Tr→Value
 | .leaf _ k v=>.iface 128 (.agg #[.int .i64 k,.int .i64 v])
 | .node _ p b l r=>.iface 151 (.agg #[.int .i64 b,.int .i64 p,.int .i64 l.hd,.int .i64 r.hd,.int .i64 (l.cnt+r.cnt:Nat)])
end Go.Proofs.YtloljphbdfjgdaaGreatDoor

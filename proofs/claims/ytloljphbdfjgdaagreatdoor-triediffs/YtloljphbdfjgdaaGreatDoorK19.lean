/- Package pile, alone: below and Places: the places from the top, down to none or to one that came already. -/
import Derived.Test.YtloljphbdfjgdaaGreatDoorK17
import Derived.Test.YtloljphbdfjgdaaGreatDoorK18
import Derived.Test.YtloljphbdfjgdaaGreatDoorK11
import Derived.Laws.Bits64b
import Derived.Test.YtloljphbdfjgdaaGreatDoorK07
import Derived.Test.YtloljphbdfjgdaaGreatDoorK12
import Derived.Test.YtloljphbdfjgdaaGreatDoorK03
import Derived.Test.YtloljphbdfjgdaaGreatDoorK02
namespace Go.Proofs.YtloljphbdfjgdaaGreatDoor
open Go.RowKit

structure Seen (g:Nat→Nat) (L:List Nat):Prop where
 small:∀ k,g k < 18446744073709551616
 bit:∀ j,j < 4096→(g (j / 64)).testBit (j % 64)=decide (j+1∈L)
theorem seen_none:Seen (fun _=>0) []:=⟨fun _=>by omega,fun j _=>by simp⟩
theorem orBit_nat (a j:Nat) (ha:a < 18446744073709551616):orBit (a:Int) j=((a ||| 2 ^ (j % 64):Nat):Int):=by
 have h2:2 ^ (j % 64) < 18446744073709551616:=by
  have:2 ^ (j % 64)≤2 ^ 63:=Nat.pow_le_pow_right (by omega) (by omega)
  omega
 have hw:IntKind.u64.wrap ((2:Int) ^ (j % 64))=((2 ^ (j % 64):Nat):Int):=by
  have:((2:Int) ^ (j % 64))=((2 ^ (j % 64):Nat):Int):=by push_cast; rfl
  rw [this]
  generalize 2 ^ (j % 64)=p at h2
  simp [IntKind.wrap,IntKind.bits,IntKind.signed]
  omega
 unfold orBit
 rw [hw]
 exact u64_or_nat a _ ha h2
theorem or_same (a m:Nat):(a ||| 2 ^ m=a)↔a.testBit m=true:=by
 constructor
 ·intro h
  have:=congrArg (fun x=>x.testBit m) h
  simp only [Nat.testBit_or,Nat.testBit_two_pow_self,Bool.or_true] at this
  exact this.symm
 ·intro h
  apply Nat.eq_of_testBit_eq
  intro i
  rw [Nat.testBit_or]
  by_cases e:m=i
  ·subst e; simp [h]
  ·simp [e]
theorem Seen.add {g:Nat→Nat} {L:List Nat} (h:Seen g L) {j:Nat} (hj:j < 4096):Seen (fun k=>if k=j / 64 then g (j / 64) ||| 2 ^ (j % 64) else g k) (L ++ [j+1]):=by
 refine ⟨fun k=>?_,fun i hi=>?_⟩
 ·by_cases e:k=j / 64
  ·simp only [e,if_true]
   have:2 ^ (j % 64) < 2 ^ 64:=Nat.pow_lt_pow_right (by omega) (by omega)
   have:=Nat.or_lt_two_pow (h.small (j / 64)) this
   omega
  ·simp only [e,if_false]; exact h.small k
 ·have hb:=h.bit i hi
  by_cases e:i / 64=j / 64
  ·simp only [e,if_true,Nat.testBit_or,Nat.testBit_two_pow]
   rw [e] at hb
   rw [hb]
   by_cases e2:j % 64=i % 64
   ·have:i=j:=by omega
    subst this
    simp
   ·have:¬ i=j:=fun x=>e2 (by rw [x])
    simp [e2,this]
  ·have:¬ i=j:=fun x=>e (by rw [x])
   simp only [e,if_false]
   rw [hb]
   simp [this]
theorem upd_nat (g:Nat→Nat) (k x:Nat):upd (fun k=>((g k:Nat):Int)) k (x:Int)=fun i=>((if i=k then x else g i:Nat):Int):=by
 funext i
 unfold upd
 by_cases e:i=k <;> simp [e]
theorem cAddSeen {w:World} {b:Nat} {g:Nat→Nat} {L:List Nat} (hb:w.heap[b]?=some (setObj fun k=>(g k:Int))) (hS:Seen g L) {i:Nat} (h0:i≠0) (hi:i≤4096) :
  Calls Tryz.prog 114 #[.pointer (some ⟨b,0,none⟩),.int .i64 i] w fun e w'=>e=.returned (.bool (!decide (i∈L)))∧Turned [b] w w'∧∃ g',Seen g' (L ++ [i])∧w'.heap[b]?=some (setObj fun k=>(g' k:Int)):=by
 obtain ⟨j,rfl⟩:∃ j,i=j+1:=⟨i - 1,by omega⟩
 have H:=cAdd hb j (by omega)
 rw [orBit_nat _ _ (hS.small _),upd_nat] at H
 have hcond:((List.range 64).all fun k=>(((if k=j / 64 then g (j / 64) ||| 2 ^ (j % 64) else g k:Nat):Int)) == ((g k:Nat):Int))=decide (j+1∈L):=by
  rw [← hS.bit j (by omega)]
  cases hbt:(g (j / 64)).testBit (j % 64) with
  | true =>
   rw [List.all_eq_true]
   intro k _
   by_cases e:k=j / 64
   ·simp only [e,if_true,(or_same _ _).2 hbt]; simp
   ·simp [e]
  | false =>
   rw [List.all_eq_false]
   refine ⟨j / 64,by simp; omega,?_⟩
   have:¬ (g (j / 64) ||| 2 ^ (j % 64))=g (j / 64):=fun x=>by rw [(or_same _ _).1 x] at hbt; cases hbt
   simp only [if_true,beq_iff_eq]
   exact fun x=>this (Int.ofNat.inj x)
 rw [hcond] at H
 refine H.mono ?_
 rintro e w' ⟨he,hT,hw⟩
 exact ⟨he,hT,_,hS.add (by omega),hw⟩
def chain (f:Nat→Nat):Nat→Nat→List Nat→List Nat
 | 0,_,L=>L
 | t+1,i,L=>if i=0∨i∈L then L else chain f t (f i) (L ++ [i])
theorem chain_stop (f:Nat→Nat) (t i:Nat) (L:List Nat) (h:i=0∨i∈L):chain f t i L=L:=by
 cases t with
 | zero=>rfl
 | succ t=>simp [chain,h]
theorem chain_go (f:Nat→Nat) (t i:Nat) (L:List Nat) (h0:i≠0) (h:i∉L):chain f (t+1) i L=chain f t (f i) (L ++ [i]):=by
 simp [chain,h0,h]
theorem few_places:∀ {n:Nat} {L:List Nat},L.Nodup→(∀ x∈L,1≤x∧x≤n)→L.length≤n
 | 0,[],_,_=>Nat.le_refl _
 | 0,x :: L,_,hb=>by have:=hb x (by simp); omega
 | n+1,L,hn,hb=>by
  have ih:=few_places (n:=n) (hn.erase (n+1)) (fun x hx=>by
   rw [hn.mem_erase_iff] at hx
   have:=hb x hx.2
   have:=hx.1
   omega)
  rw [List.length_erase] at ih
  split at ih <;> omega
def placesV (L:List Nat):List Value:=L.map fun i:Nat=>Value.int .i64 (i:Int)
structure Belows (W w:World) (sb n:Nat) (f:Nat→Nat) (i0:Nat) (v:Value) (i:Nat) (L:List Nat):Prop where
 turned:Turned [] W w
 set:∃ g,Seen g L∧w.heap[sb]?=some (setObj fun k=>(g k:Int))
 new:W.heap.size≤sb
 row:w.ownsRow W.heap.size 3 1 v L.length (placesV L)
 off:v.ownBlock≠some sb
 nodup:L.Nodup
 small:∀ x∈L,1≤x∧x≤n
 le:i≤n
 rest:chain f (n+1) i0 []=chain f (n+1 - L.length) i L
theorem Turned.grew {w w':World} {v:Value} (hg:w.grownBy w' v.ownBlock):Turned v.ownBlock.toList w w' :=
 ⟨hg.os,hg.tape,hg.output,hg.size,fun k hk hn=>hg.block k hk (fun e=>hn (by rw [← e]; simp))⟩
theorem Belows.added {W w w2:World} {sb n:Nat} {f:Nat→Nat} {i0:Nat} {v:Value} {i:Nat} {L:List Nat} (h:Belows W w sb n f i0 v i L) (ht:Turned [sb] w w2):Turned [] W w2∧w2.ownsRow W.heap.size 3 1 v L.length (placesV L) :=
 ⟨h.turned.inner ht (fun x hx=>.inr (by simp at hx; rw [hx]; exact h.new)),
  h.row.kept (row:=some sb) ⟨ht.os,ht.tape,ht.output,ht.size,fun k hk hn=>ht.block k hk (by simp; exact fun he=>hn (by rw [he]))⟩ (.inr h.off)⟩
theorem Belows.next {W w w2 w3:World} {sb n:Nat} {f:Nat→Nat} {i0:Nat} {v v':Value} {i:Nat} {L:List Nat} (h:Belows W w sb n f i0 v i L) (h0:i≠0) (hi:i∉L) (hf:f i≤n) (ht:Turned [sb] w w2) {g:Nat→Nat} (hg:Seen g (L ++ [i])) (hs:w2.heap[sb]?=some (setObj fun k=>(g k:Int)))
  {o:Obj} (hG:Grew (w2.alloc o) w3 v v') (hr:w3.ownsRow W.heap.size 3 1 v' (L.length+1) (placesV L ++ [.int .i64 i])):Belows W w3 sb n f i0 v' (f i) (L ++ [i]):=by
 obtain ⟨hT2,hR2⟩:=h.added ht
 obtain ⟨hGb,hGo⟩:=hG
 have hsl:=lt_of_heap hs
 have hR3:(w2.alloc o).ownsRow W.heap.size 3 1 v L.length (placesV L):=hR2.alloc _
 refine ⟨(hT2.alloc o).inner (Turned.grew hGb) (fun x hx=>.inr ?_),⟨g,hg,?_⟩,h.new,by rw [List.length_append]; simpa [placesV] using hr,?_,?_,?_,hf,?_⟩
 ·have:v.ownBlock=some x:=by simpa using hx
  exact (hR3.lt _ this).1
 ·rw [hGb.block sb (by simp; omega) (fun e=>h.off e.symm)]
  exact blk_old hs o
 ·rcases hGo with e | ⟨g',e,hge⟩
  ·rw [e]; exact h.off
  ·rw [e]; intro x; cases x; simp at hge; omega
 ·exact List.nodup_append.2 ⟨h.nodup,by simp,fun a ha b hb=>by simp at hb; subst hb; exact fun e=>hi (e ▸ ha)⟩
 ·intro x hx
  rcases List.mem_append.1 hx with hx | hx
  ·exact h.small x hx
  ·simp at hx; subst hx; exact ⟨by omega,h.le⟩
 ·have hl:=few_places h.nodup h.small
  have hlt:L.length < n:=by
   rcases Nat.lt_or_ge L.length n with x | x
   ·exact x
   ·exfalso
    have:=few_places (n:=n) (L:=L ++ [i]) (List.nodup_append.2 ⟨h.nodup,by simp,fun a ha b hb=>by simp at hb; subst hb; exact fun e=>hi (e ▸ ha)⟩) (fun x hx=>by
     rcases List.mem_append.1 hx with hx | hx
     ·exact h.small x hx
     ·simp at hx; subst hx; exact ⟨by omega,h.le⟩)
    simp at this
    omega
  rw [h.rest,show n+1 - L.length=(n+1 - (L ++ [i]).length)+1 by simp; omega,chain_go f _ i L h0 hi]
theorem infoInt:(Tryz.prog.info? 3).map (fun i=>(i.zero,i.size,i.bytes))=some (some (.int .i64 0),1,8):=by kernel_rfl
theorem undInts:Tryz.prog.underlying 38=some (.slice 3):=by kernel_rfl
def lenOf:Value→Nat
 | .slice _ n _=>n
 | _=>0
theorem len_of_owns {w:World} {B:Nat} {e:TypeId} {v:Value} {n:Nat} {xs:List Value} (h:w.ownsRow B e 1 v n xs):lenOf v=n:=by
 rcases h.2 with ⟨rfl,rfl⟩ | ⟨g,cap,cur,rfl,-⟩ <;> rfl
set_option maxRecDepth 100000 in
set_option maxHeartbeats 800000 in
theorem cBelow {w:World} {b nb n:Nat} {h:Int} {f:Nat→Nat} (H:PileAt w b nb n h fun k=>(f k:Int)) (hn:n≤4096) (hf:∀ k,k≤n→f k≤n) {i0:Nat} (hi0:i0≤n) :
  Calls Tryz.prog 89 #[.pointer (some ⟨b,0,none⟩),.pointer none,.int .i64 i0] w fun e w'=>∃ v,e=.returned v∧Turned [] w w'∧w'.ownsRow w.heap.size 3 1 v (chain f (n+1) i0 []).length (placesV (chain f (n+1) i0 [])):=by
 have hb:=H.head
 have hnx:=H.next
 go_enter Tryz.func89,Tryz.ntmps89
 refine wp_seq_k fun K hK=>?_
 have HK:Hid _:=hK
 clear hK
 go_wp2
 refine HK.out _ _ ?_
 clear HK K
 refine wp_seq ?_
 refine wp_region ?_
 refine ops_run rfl rfl (x_assign rfl) ?_
 refine ops_nil ?_
 show Code.wp _ _ _ _ _
 refine wp_seq ?_
 refine wp_region ?_
 refine ops_run rfl rfl (x_alloc rfl (run_allocSet w)) ?_
 refine ops_nil ?_
 show Code.wp _ _ _ ⟨#[.pointer (some ⟨b,0,none⟩),.pointer none,.int .i64 i0,undef,undef,undef,.slice none 0 0,.slice none 0 0,.pointer (some ⟨w.heap.size,0,none⟩),undef,undef,undef,undef,undef,undef,undef,undef,undef,undef,undef,undef,undef,undef,undef,undef,undef,undef,undef,undef],[]⟩ _
 have H0:Hid (Belows w (w.alloc (setObj fun _=>0)) w.heap.size n f i0 (.slice none 0 0) i0 []) :=
  ⟨(Turned.refl _ _).alloc _,⟨fun _=>0,seen_none,blk_new w _⟩,Nat.le_refl _,World.ownsRow_nil _ _ _ _,by simp [Value.ownBlock],by simp,by simp,hi0,by simp⟩
 generalize w.alloc (setObj fun _=>0)=w1 at *
 obtain ⟨sb,hsb⟩:∃ sb,sb=w.heap.size:=⟨_,rfl⟩
 rw [← hsb]
 rw [← hsb] at H0
 have HSB:Hid (sb=w.heap.size):=hsb
 clear hsb
 go_wp2
 go_loopw [2,7] (fun i v wx=>∃ (k:Nat) (L:List Nat),i=.int .i64 k∧lenOf v=L.length∧Hid (Belows w wx sb n f i0 v k L)) (fun _ v _=>n+1 - lenOf v)
 case atStart=>exact ⟨i0,[],rfl,rfl,H0⟩
 case round =>
  obtain ⟨k,L,rfl,hl,HT⟩:=hrel
  clear H0
  have hll:=few_places HT.out.nodup HT.out.small
  by_cases h0:k=0
  ·subst h0
   have hrest:=HT.out.rest
   rw [chain_stop _ _ _ _ (.inl rfl)] at hrest
   go_wp2
   go_ret
   rw [hrest]
   exact ⟨_,rfl,HT.out.turned,HSB.out ▸ HT.out.row⟩
  ·have hz:((k:Int) == 0)=false:=by simp; omega
   obtain ⟨g,hS,hset⟩:=HT.out.set
   have HA0:=cAddSeen hset hS h0 (Nat.le_trans HT.out.le hn)
   clear hset hS
   by_cases hin:k∈L
   ·rw [show (!decide (k∈L))=false by simp [hin]] at HA0
    have hrest:=HT.out.rest
    rw [chain_stop _ _ _ _ (.inr hin)] at hrest
    go_wp2_with (go_at_call 114; refine HA0.mono ?_; rintro e w2 ⟨rfl,hT2,-⟩)
    go_ret
    rw [hrest]
    exact ⟨_,rfl,(HT.out.added hT2).1,HSB.out ▸ (HT.out.added hT2).2⟩
   ·rw [show (!decide (k∈L))=true by simp [hin]] at HA0
    have hlt:(k:Int) < (n:Int)+1:=by have:=HT.out.le; omega
    go_wp2_with (first
     | (go_at_call 114; refine HA0.mono ?_; rintro e w2 ⟨rfl,hT2,g2,hS2,hset0⟩; have hset2:Hid _:=hset0; clear hset0; have hR2:=(HT.out.added hT2).2)
     | (at_builtin; refine wpList_push rfl _ _ 38 rfl w.heap.size 3 (.int .i64 0) 8 undInts infoInt rfl u7 L.length (placesV L) rfl (hR2.alloc _) ⟨w2.heap.size,0,none⟩ 1 (.int .i64 k) rfl (by go_simp) rfl (by unfold maxLen; omega) (by omega) (by have:=(HT.out.added hT2).1.size; simp; omega) ?_; intro v' w3 hr3 hG3; have hB3:=HT.out.next h0 hin (hf k HT.out.le) hT2 hS2 hset2.out hG3 hr3; have hb3:=hB3.turned.heap hb (by simp); have hn3:=hB3.turned.heap hnx (by simp); have c1:=cell_at hb3 1; simp at c1; have cn:=next_cell hn3 HT.out.le; have hv3:=len_of_owns hr3)
     | (go_at_call 71; refine (cStep _).mono ?_; rintro e w' ⟨rfl,hw⟩; obtain rfl:=hw.symm)
     | (go_at_call 35; refine (cALoad cn).mono ?_; rintro e w' ⟨rfl,hw⟩; obtain rfl:=hw.symm))
    exact ⟨⟨f k,L ++ [k],rfl,by simp [hv3],hB3⟩,by simp [hv3,hl]; omega⟩
theorem cPlaces {w:World} {b nb n:Nat} {h:Int} {f:Nat→Nat} (H:PileAt w b nb n h fun k=>(f k:Int)) (hn:n≤4096) (hf:∀ k,k≤n→f k≤n) {i0:Nat} (hi:idxV h=i0) (hi0:i0≤n) :
  Calls Tryz.prog 59 #[.pointer (some ⟨b,0,none⟩)] w fun e w'=>∃ v,e=.returned v∧Turned [] w w'∧w'.ownsRow w.heap.size 3 1 v (chain f (n+1) i0 []).length (placesV (chain f (n+1) i0 [])):=by
 have HI:=cIndex h
 rw [hi] at HI
 have hb:=H.head
 have HB:=cBelow H hn hf hi0
 clear H
 go_enter Tryz.func59,Tryz.ntmps59
 go_wp2_with (first
  | (go_at_call 91; refine (cHead hb).mono ?_; rintro e w' ⟨rfl,hw⟩; obtain rfl:=hw.symm)
  | (go_at_call 90; refine (HI _).mono ?_; rintro e w' ⟨rfl,hw⟩; obtain rfl:=hw.symm)
  | (go_at_call 89; refine HB.mono ?_; rintro e w' ⟨v,rfl,hT,hR⟩))
 go_ret
 exact ⟨_,rfl,hT,hR⟩
end Go.Proofs.YtloljphbdfjgdaaGreatDoor
/- sync/atomic's Int64, alone: Add, Swap. -/
namespace Go.Proofs.YtloljphbdfjgdaaGreatDoor
open Go.RowKit
theorem cAAdd {a:Addr} {x y:Int} {w:World} (hc:w.cell? a=some (.int .i64 x)) (hz:w.frozen? a=false) (h0:-9223372036854775808≤x+y) (h1:x+y≤9223372036854775807):Calls Tryz.prog 85 #[.pointer (some a),.int .i64 y] w fun e w'=>e=.returned (.int .i64 (x+y))∧w'=w.setCell a (.int .i64 (x+y)):=by
 have hs:(Op.intArith .add .i64 x y).run Tryz.prog w=.ok (.int .i64 (x+y)) w:=by
  have hw:IntKind.i64.wrap (x+y)=x+y:=by simp [IntKind.wrap,IntKind.bits,IntKind.signed]; omega
  simp [Op.intArith,hw]
 have hl:=run_call_add (P:=Tryz.prog) Tryz.func113 (by kernel_rfl) (by kernel_rfl) (by kernel_rfl) .i64 (by kernel_rfl) hc hz hs
 obtain ⟨B,o,sp⟩:=a
 go_enter Tryz.func85,Tryz.ntmps85
 go_wp2
 go_ret
 exact ⟨rfl,rfl⟩
end Go.Proofs.YtloljphbdfjgdaaGreatDoor
/- A pool in memory: its slots lead each to what it is in one generation. -/
namespace Go.Proofs.YtloljphbdfjgdaaGreatDoor
open Go.RowKit
abbrev lifeObj (S:Slot):Obj:=.cells #[.int .i64 S.gen,.int .i64 S.a,.int .i64 S.b,.int .i64 S.c,.int .i64 S.d,.int .i64 S.mark,.int .i64 S.link] 89 (0,0)
abbrev ptrObj (L:Nat→Nat) (n:Nat):Obj:=.cells ((List.range (n+1)).map fun k=>Value.pointer (some ⟨L k,0,none⟩)).toArray 93 (0,0)
abbrev poolObj (sb pb n:Nat) (fa:Int):Obj:=.cells #[.slice (some ⟨sb,0,none⟩) (n+1) (n+1),.pointer (some ⟨pb,0,none⟩),.int .i64 fa] 86 (0,0)
structure PA (w:World) (p sb pb nb:Nat) (L:Nat→Nat) (s:PSt):Prop where
 pool:w.heap[p]?=some (poolObj sb pb s.n s.faults)
 slots:w.heap[sb]?=some (ptrObj L s.n)
 life:∀ i,i≤s.n→w.heap[L i]?=some (lifeObj (s.slot i))
 pile:PileAt w pb nb s.n s.h (fun k=>(s.f k:Int))
 once:∀ i j,i≤s.n→j≤s.n→i≠j→L i=L j→(s.slot i).gen=0
theorem ptr_cell {w:World} {sb n:Nat} {L:Nat→Nat} (h:w.heap[sb]?=some (ptrObj L n)) {k:Nat} (hk:k≤n):w.cell? ⟨sb,k,none⟩=some (.pointer (some ⟨L k,0,none⟩)):=by
 rw [cell_at h,List.getElem?_toArray,List.getElem?_map,List.getElem?_range (by omega)]; rfl
theorem ptr_put {w:World} {sb n:Nat} {L:Nat→Nat} (h:w.heap[sb]?=some (ptrObj L n)) {k:Nat} (v:Nat):(w.setCell ⟨sb,k,none⟩ (.pointer (some ⟨v,0,none⟩))).heap[sb]?=some (ptrObj (upd L k v) n):=by
 rw [blk_set h]
 congr 2
 apply Array.ext
 ·simp
 ·intro i h1 h2
  simp only [List.size_toArray,List.length_map,List.length_range] at h2
  by_cases e:i=k
  ·subst e; simp [upd]
  ·have e':¬ k=i:=fun x=>e x.symm
   simp [upd,e,e']
theorem other_type {w:World} {a b:Nat} {x y:Array Value} {S T:TypeId} (ha:w.heap[a]?=some (.cells x S (0,0))) (hb:w.heap[b]?=some (.cells y T (0,0))) (h:S≠T):a≠b:=fun e=>by
 subst e
 rw [ha] at hb
 injection hb with hb
 injection hb with _ hb
 exact h hb
section
variable {w:World} {p sb pb nb:Nat} {L:Nat→Nat} {s:PSt} {i:Nat}
theorem PA.d1 (h:PA w p sb pb nb L s):p≠sb:=other_type h.pool h.slots (by decide)
theorem PA.d2 (h:PA w p sb pb nb L s):p≠pb:=other_type h.pool h.pile.head (by decide)
theorem PA.d3 (h:PA w p sb pb nb L s):p≠nb:=other_type h.pool h.pile.next (by decide)
theorem PA.d4 (h:PA w p sb pb nb L s):sb≠pb:=other_type h.slots h.pile.head (by decide)
theorem PA.d5 (h:PA w p sb pb nb L s):sb≠nb:=other_type h.slots h.pile.next (by decide)
theorem PA.l1 (h:PA w p sb pb nb L s) (hi:i≤s.n):L i≠p:=other_type (h.life i hi) h.pool (by decide)
theorem PA.l2 (h:PA w p sb pb nb L s) (hi:i≤s.n):L i≠sb:=other_type (h.life i hi) h.slots (by decide)
theorem PA.l3 (h:PA w p sb pb nb L s) (hi:i≤s.n):L i≠pb:=other_type (h.life i hi) h.pile.head (by decide)
theorem PA.l4 (h:PA w p sb pb nb L s) (hi:i≤s.n):L i≠nb:=other_type (h.life i hi) h.pile.next (by decide)
def blocks (p sb pb nb:Nat) (L:Nat→Nat) (n:Nat):List Nat:=[p,sb,pb,nb] ++ (List.range (n+1)).map L
theorem mem_life {n:Nat} (hi:i≤n):L i∈blocks p sb pb nb L n:=List.mem_append_right _ (List.mem_map.2 ⟨i,List.mem_range.2 (by omega),rfl⟩)
theorem mem_blocks {n x:Nat} (h:x∈blocks p sb pb nb L n):x=p∨x=sb∨x=pb∨x=nb∨∃ k,k≤n∧x=L k:=by
 rcases List.mem_append.1 h with h | h
 ·simp at h
  rcases h with h | h | h | h
  ·exact .inl h
  ·exact .inr (.inl h)
  ·exact .inr (.inr (.inl h))
  ·exact .inr (.inr (.inr (.inl h)))
 ·obtain ⟨k,hk,rfl⟩:=List.mem_map.1 h
  exact .inr (.inr (.inr (.inr ⟨k,by have:=List.mem_range.1 hk; omega,rfl⟩)))
theorem PA.keep (h:PA w p sb pb nb L s) {l:List Nat} {w':World} (ht:Turned l w w') (hl:∀ x,x∈l→x∉blocks p sb pb nb L s.n):PA w' p sb pb nb L s:=by
 have m:∀ x,x∈blocks p sb pb nb L s.n→x∉l:=fun x hx hxl=>hl x hxl hx
 exact ⟨ht.heap h.pool (m _ (by simp [blocks])),ht.heap h.slots (m _ (by simp [blocks])),fun i hi=>ht.heap (h.life i hi) (m _ (mem_life hi)),⟨ht.heap h.pile.head (m _ (by simp [blocks])),ht.heap h.pile.next (m _ (by simp [blocks])),h.pile.ne⟩,h.once⟩
theorem PA.lt (h:PA w p sb pb nb L s):∀ x,x∈blocks p sb pb nb L s.n→x < w.heap.size:=fun x hx=>by
 rcases mem_blocks hx with rfl | rfl | rfl | rfl | ⟨k,hk,rfl⟩
 ·exact lt_of_heap h.pool
 ·exact lt_of_heap h.slots
 ·exact lt_of_heap h.pile.head
 ·exact lt_of_heap h.pile.next
 ·exact lt_of_heap (h.life k hk)
theorem PA.alloc (h:PA w p sb pb nb L s) (o:Obj):PA (w.alloc o) p sb pb nb L s:=h.keep ((Turned.refl [] w).alloc o) (by simp)
theorem PA.fault (h:PA w p sb pb nb L s):PA (w.setCell ⟨p,2,none⟩ (.int .i64 (s.faults+1))) p sb pb nb L s.fault :=
 ⟨(blk_set h.pool 2 _).trans (by simp [PSt.fault]),(blk_other h.d1.symm _ _).trans h.slots,fun i hi=>(blk_other (h.l1 hi) _ _).trans (h.life i hi),⟨(blk_other h.d2.symm _ _).trans h.pile.head,(blk_other h.d3.symm _ _).trans h.pile.next,h.pile.ne⟩,h.once⟩
theorem PA.put (h:PA w p sb pb nb L s) (hi:i≤s.n) (hg:(s.slot i).gen≠0) {j:Nat} {v:Value} {S:Slot} (hS:(w.setCell ⟨L i,j,none⟩ v).heap[L i]?=some (lifeObj S)) (hgS:S.gen=(s.slot i).gen):PA (w.setCell ⟨L i,j,none⟩ v) p sb pb nb L { s with slot:=upd s.slot i S }:=by
 refine ⟨(blk_other (h.l1 hi).symm _ _).trans h.pool,(blk_other (h.l2 hi).symm _ _).trans h.slots,fun k hk=>?_,⟨(blk_other (h.l3 hi).symm _ _).trans h.pile.head,(blk_other (h.l4 hi).symm _ _).trans h.pile.next,h.pile.ne⟩,fun a b ha hb hab he=>?_⟩
 ·by_cases e:k=i
  ·subst e
   show _=some (lifeObj (upd s.slot k S k))
   rw [upd_same]
   exact hS
  ·show _=some (lifeObj (upd s.slot i S k))
   rw [upd_other _ _ e,blk_other (fun x=>hg (h.once i k hi hk (fun y=>e y.symm) x.symm))]
   exact h.life k hk
 ·show (upd s.slot i S a).gen=0
  by_cases e:a=i
  ·subst e
   exact absurd (h.once a b ha hb hab he) hg
  ·rw [upd_other _ _ e]
   exact h.once a b ha hb hab he
theorem PA.putMark (h:PA w p sb pb nb L s) (hi:i≤s.n) (hg:(s.slot i).gen≠0) (v:Int):PA (w.setCell ⟨L i,5,none⟩ (.int .i64 v)) p sb pb nb L (s.putMark i v) :=
 h.put hi hg (S:={ s.slot i with mark:=v }) ((blk_set (h.life i hi) 5 _).trans (by simp)) rfl
theorem PA.putLink (h:PA w p sb pb nb L s) (hi:i≤s.n) (hg:(s.slot i).gen≠0) (v:Int):PA (w.setCell ⟨L i,6,none⟩ (.int .i64 v)) p sb pb nb L (s.putLink i v) :=
 h.put hi hg (S:={ s.slot i with link:=v }) ((blk_set (h.life i hi) 6 _).trans (by simp)) rfl
theorem PA.lead (h:PA w p sb pb nb L s) {b:Nat} {S:Slot} (hi:i≤s.n) (hb:w.heap[b]?=some (lifeObj S)) (hn:∀ k,k≤s.n→L k≠b):PA (w.setCell ⟨sb,i,none⟩ (.pointer (some ⟨b,0,none⟩))) p sb pb nb (upd L i b) { s with slot:=upd s.slot i S }:=by
 have hbs:b≠sb:=other_type hb h.slots (by decide)
 refine ⟨(blk_other h.d1 _ _).trans h.pool,ptr_put h.slots b,fun k hk=>?_,⟨(blk_other h.d4.symm _ _).trans h.pile.head,(blk_other h.d5.symm _ _).trans h.pile.next,h.pile.ne⟩,fun a c ha hc hac he=>?_⟩
 ·by_cases e:k=i
  ·subst e
   show _=some (lifeObj (upd s.slot k S k))
   rw [upd_same,upd_same,blk_other hbs]
   exact hb
  ·show _=some (lifeObj (upd s.slot i S k))
   rw [upd_other _ _ e,upd_other _ _ e,blk_other (h.l2 hk)]
   exact h.life k hk
 ·show (upd s.slot i S a).gen=0
  by_cases e:a=i
  ·subst e
   rw [upd_same,upd_other _ _ (fun x=>hac x.symm)] at he
   exact absurd he.symm (hn c hc)
  ·rw [upd_other _ _ e] at he ⊢
   by_cases e2:c=i
   ·subst e2
    rw [upd_same] at he
    exact absurd he (hn a ha)
   ·rw [upd_other _ _ e2] at he
    exact h.once a c ha hc hac he
theorem PA.pop (h:PA w p sb pb nb L s) (v:Int):PA (w.setCell ⟨pb,0,none⟩ (.int .i64 v)) p sb pb nb L { s with h:=v } :=
 ⟨(blk_other h.d2 _ _).trans h.pool,(blk_other h.d4 _ _).trans h.slots,fun i hi=>(blk_other (h.l3 hi) _ _).trans (h.life i hi),⟨(blk_set h.pile.head 0 _).trans (by simp),(blk_other h.pile.ne.symm _ _).trans h.pile.next,h.pile.ne⟩,h.once⟩
theorem PA.push (h:PA w p sb pb nb L s) (hi:i≤s.n) (h0:0≤s.h) (v:Int):PA ((w.drew.setCell ⟨nb,i,none⟩ (.int .i64 (idxV s.h))).setCell ⟨pb,0,none⟩ (.int .i64 v)) p sb pb nb L { s with h:=v,f:=upd s.f i (idxV s.h).toNat }:=by
 refine ⟨(blk_other h.d2 _ _).trans ((blk_other h.d3 _ _).trans h.pool),(blk_other h.d4 _ _).trans ((blk_other h.d5 _ _).trans h.slots),fun k hk=>(blk_other (h.l3 hk) _ _).trans ((blk_other (h.l4 hk) _ _).trans (h.life k hk)),⟨(blk_set ((blk_other h.pile.ne _ _).trans h.pile.head) 0 _).trans (by simp),?_,h.pile.ne⟩,h.once⟩
 rw [blk_other h.pile.ne.symm,next_put (w:=w.drew) h.pile.next hi]
 have:=idx_nat h0
 congr 2
 congr 1
 congr 1
 funext k
 show upd (fun k=>(s.f k:Int)) i (idxV s.h) k=((upd s.f i (idxV s.h).toNat k:Nat):Int)
 unfold upd
 by_cases e:k=i
 ·simp only [e,if_true]; omega
 ·simp only [e,if_false]
theorem wider_lead {b:Nat} {w0:World} {n:Nat} (hb:w0.heap.size≤b):Wider (blocks p sb pb nb L n) (blocks p sb pb nb (upd L i b) n) w0:=fun x hx=>by
 rcases mem_blocks hx with rfl | rfl | rfl | rfl | ⟨k,hk,rfl⟩
 ·exact .inl (by simp [blocks])
 ·exact .inl (by simp [blocks])
 ·exact .inl (by simp [blocks])
 ·exact .inl (by simp [blocks])
 ·by_cases e:k=i
  ·subst e; rw [upd_same]; exact .inr hb
  ·rw [upd_other _ _ e]; exact .inl (mem_life hk)
end
end Go.Proofs.YtloljphbdfjgdaaGreatDoor
/- sync/atomic's Pointer, alone. -/
namespace Go.Proofs.YtloljphbdfjgdaaGreatDoor
open Go.RowKit
section
variable {P:Program} {f:FuncId} {fn:Func} {a:Addr} {w:World} {q r:Option Addr}
theorem run_call_loadP (hf:P.funcs[f]?=some fn) (hname:(fn.name == "runtime.NumGoroutine")=false) (hb:fn.body.isNone=true) (hn:Extern.findNext fn=none)
  (he:Extern.find fn=some (Extern.Atomic.loadT .ptr)) (hc:w.cell? a=some (.pointer q)) :
  (callFunc f #[.pointer (some a)]).run P w=.ok (.value (.pointer q)) w:=by
 rw [run_callFunc_extern hf hname hb hn he]
 change (Sem.run P (do Extern.Atomic.read .ptr (← asAddr (.pointer (some a)))) w).andThen _=_
 simp [Extern.Atomic.read,asAddr,hc,Result.andThen]
theorem run_call_storeP (hf:P.funcs[f]?=some fn) (hname:(fn.name == "runtime.NumGoroutine")=false) (hb:fn.body.isNone=true) (hn:Extern.findNext fn=none)
  (he:Extern.find fn=some Extern.Atomic.storeT) {u:Value} (hc:w.cell? a=some u) (hz:w.frozen? a=false) :
  (callFunc f #[.pointer (some a),.pointer q]).run P w=.ok (.value (.tuple #[])) (w.setCell a (.pointer q)):=by
 rw [run_callFunc_extern hf hname hb hn he]
 change (Sem.run P (do
  store (← asAddr (.pointer (some a))) (.pointer q) .atomic
  pure Extern.Atomic.none_) w).andThen _=_
 simp [asAddr,hc,hz,run_store P w a (.pointer q) .atomic rfl,Result.andThen,Extern.Atomic.none_]
theorem run_call_casP (hf:P.funcs[f]?=some fn) (hname:(fn.name == "runtime.NumGoroutine")=false) (hb:fn.body.isNone=true) (hn:Extern.findNext fn=none)
  (he:Extern.find fn=some (Extern.Atomic.casT .ptr)) {c:Addr} (hc:w.cell? a=some (.pointer (some c))) (hz:w.frozen? a=false) :
  (callFunc f #[.pointer (some a),.pointer (some c),.pointer r]).run P w=.ok (.value (.bool true)) (w.setCell a (.pointer r)):=by
 rw [run_callFunc_extern hf hname hb hn he]
 change (Sem.run P (do
  let a' ← asAddr (.pointer (some a))
  if ← Extern.Atomic.touchesFrozen a' then unsupported (.unsafePointer "a write to bytes that a string shares")
  let eq ← match Extern.Atomic.T.ptr,← Extern.Atomic.read .ptr a',Value.pointer (some c) with
   | _,.int _ x,.int _ y=>pure (x == y)
   | .ptr,.pointer x,.pointer y=>samePointer x y
   | .int _,.pointer (some _),.int _ 0 | .int _,.int _ 0,.pointer (some _)=>pure false
   | .int _,.pointer (some _),_ | .int _,_,.pointer (some _)=>unsupported .addressObserved
   | _,_,_=>stuck "atomic.CompareAndSwap: old is no T"
  if eq then store a' (.pointer r) .atomic
  pure (Value.bool eq)) w).andThen _=_
 simp [Extern.Atomic.touchesFrozen,Extern.Atomic.read,asAddr,viewAt,samePointer,sameAddr,World.shape?_isSome_of_cell? hc,hc,hz,run_store P w a (.pointer r) .atomic rfl,Result.andThen]
theorem run_convert_fromU {src dst u:TypeId} (hs:P.underlying src=some .unsafePointer) (hd:P.underlying dst=some (.pointer u)) {cs:Array Value} {b:Nat} (hb:w.heap[b]?=some (.cells cs u (0,0)))
  (hi:(P.info? u).isSome=true) (hl:liesAt P P.depth u (cs.size / P.cellsOf u) 0 u 1=true):(convert src dst (.pointer (some ⟨b,0,none⟩))).run P w=.ok (.pointer (some ⟨b,0,none⟩)) w:=by
 have hsh:w.shape? b=some (u,cs.size):=by simp [World.shape?,hb]
 obtain ⟨i,hi⟩:=Option.isSome_iff_exists.1 hi
 simp [convert,Conv.unsafePointer,Conv.seenAt,viewAt,variablesAt,sizeOf,typeInfo,hi,run_underlying hs,run_underlying hd,hsh,hl,Result.andThen]
end
abbrev lifeCells (g a b c d m l:Value):Array Value:=#[g,a,b,c,d,m,l]
theorem lies7:liesAt Tryz.prog Tryz.prog.depth 89 (7 / Tryz.prog.cellsOf 89) 0 89 1=true:=by kernel_rfl
theorem cv_from {cs:Array Value} {b:Nat} {w:World} (hb:w.heap[b]?=some (.cells cs 89 (0,0))) (hs:cs.size=7):(convert 91 87 (.pointer (some ⟨b,0,none⟩))).run Tryz.prog w=.ok (.pointer (some ⟨b,0,none⟩)) w :=
 run_convert_fromU (by kernel_rfl) (by kernel_rfl) hb (by kernel_rfl) (by rw [hs]; exact lies7)
theorem cv_to {cs:Array Value} {b:Nat} {w:World} (hb:w.heap[b]?=some (.cells cs 89 (0,0))) (hs:cs.size=7):(convert 87 91 (.pointer (some ⟨b,0,none⟩))).run Tryz.prog w=.ok (.pointer (some ⟨b,0,none⟩)) w:=by
 have hsh:w.shape? b=some (89,cs.size):=by simp [World.shape?,hb]
 obtain ⟨i,hi,hz0⟩:=Option.map_eq_some_iff.1 (show (Tryz.prog.info? 89).map (fun i=>decide (i.size=0))=some false by kernel_rfl)
 have hz:i.size≠0:=by simpa using hz0
 have hne:cs≠#[]:=by intro e; rw [e] at hs; simp at hs
 simp [convert,Conv.unsafePointer,Conv.seenAt,viewAt,cellsIn,sizeOf,typeInfo,run_underlying Tryz.underlying87,run_underlying Tryz.underlying91,hi,hz,hsh,hne,Result.andThen]
set_option maxRecDepth 100000 in
theorem cPLoad {a:Addr} {b:Nat} {cs:Array Value} {w:World} (hc:w.cell? a=some (.pointer (some ⟨b,0,none⟩))) (hb:w.heap[b]?=some (.cells cs 89 (0,0))) (hs:cs.size=7):Calls Tryz.prog 84 #[.pointer (some a)] w fun e w'=>e=.returned (.pointer (some ⟨b,0,none⟩))∧w'=w:=by
 have hl:=run_call_loadP (P:=Tryz.prog) Tryz.func112 (by kernel_rfl) (by kernel_rfl) (by kernel_rfl) (by kernel_rfl) hc
 have hv:=cv_from hb hs
 obtain ⟨B,o,sp⟩:=a
 go_enter Tryz.func84,Tryz.ntmps84
 go_wp2
 go_ret
 exact ⟨rfl,rfl⟩
set_option maxRecDepth 100000 in
theorem cPStore {a:Addr} {u:Value} {b:Nat} {cs:Array Value} {w:World} (hc:w.cell? a=some u) (hz:w.frozen? a=false) (hb:w.heap[b]?=some (.cells cs 89 (0,0))) (hs:cs.size=7):Calls Tryz.prog 28 #[.pointer (some a),.pointer (some ⟨b,0,none⟩)] w fun e w'=>e=.returned (.tuple #[])∧w'=w.setCell a (.pointer (some ⟨b,0,none⟩)):=by
 have hl:=run_call_storeP (P:=Tryz.prog) Tryz.func58 (by kernel_rfl) (by kernel_rfl) (by kernel_rfl) (by kernel_rfl) (q:=some ⟨b,0,none⟩) hc hz
 have hv:=cv_to hb hs
 obtain ⟨B,o,sp⟩:=a
 go_enter Tryz.func28,Tryz.ntmps28
 go_wp2
 go_end0
 exact ⟨rfl,rfl⟩
set_option maxRecDepth 100000 in
theorem cPCas {a:Addr} {b c:Nat} {bs cs:Array Value} {w:World} (hc:w.cell? a=some (.pointer (some ⟨b,0,none⟩))) (hz:w.frozen? a=false) (hb:w.heap[b]?=some (.cells bs 89 (0,0))) (hbs:bs.size=7) (hd:w.heap[c]?=some (.cells cs 89 (0,0))) (hcs:cs.size=7):Calls Tryz.prog 101 #[.pointer (some a),.pointer (some ⟨b,0,none⟩),.pointer (some ⟨c,0,none⟩)] w fun e w'=>e=.returned (.bool true)∧w'=w.setCell a (.pointer (some ⟨c,0,none⟩)):=by
 have hl:=run_call_casP (P:=Tryz.prog) Tryz.func118 (by kernel_rfl) (by kernel_rfl) (by kernel_rfl) (by kernel_rfl) (r:=some ⟨c,0,none⟩) hc hz
 have hv:=cv_to hb hbs
 have hv2:=cv_to hd hcs
 obtain ⟨B,o,sp⟩:=a
 go_enter Tryz.func101,Tryz.ntmps101
 go_wp2
 go_ret
 exact ⟨rfl,rfl⟩
end Go.Proofs.YtloljphbdfjgdaaGreatDoor
/- Package pool's lives, by contract; a call as one operation of a region. -/
namespace Go.Proofs.YtloljphbdfjgdaaGreatDoor
open Go.RowKit
abbrev nodeObj (a b c d:Int):Obj:=.cells #[.int .i64 a,.int .i64 b,.int .i64 c,.int .i64 d] 68 (0,0)
def lifeW (w:World) (gen a b c d mark link:Int):World:=(w.alloc (nodeObj a b c d)).alloc (lifeObj ⟨gen,mark,link,a,b,c,d⟩)
theorem cNewLife (w:World) (gen a b c d mark link:Int):Calls Tryz.prog 102 #[.int .i64 gen,.agg #[.int .i64 a,.int .i64 b,.int .i64 c,.int .i64 d],.int .i64 mark,.int .i64 link] w fun e w'=>e=.returned (.pointer (some ⟨w.heap.size+1,0,none⟩))∧w'=lifeW w gen a b c d mark link:=by
 go_enter Tryz.func102,Tryz.ntmps102
 go_wp2_with (go_at_call 57; refine (cAStoreE (by go_simp) (by go_simp)).mono ?_; rintro e w' ⟨rfl,rfl⟩)
 go_ret
 exact ⟨by simp,rfl⟩
theorem cGiven (w:World) (gen:Int):Calls Tryz.prog 104 #[.int .i64 gen] w fun e w'=>e=.returned (.pointer (some ⟨w.heap.size+1,0,none⟩))∧w'=lifeW w gen (-7777777) (-7777777) (-7777777) (-7777777) (-7777777) (-7777777):=by
 have HN:=cNewLife w gen (-7777777) (-7777777) (-7777777) (-7777777) (-7777777) (-7777777)
 go_enter Tryz.func104,Tryz.ntmps104
 go_wp2_with (go_at_call 102; refine HN.mono ?_; rintro e w' ⟨rfl,hw⟩; obtain rfl:=hw.symm)
 go_ret
 exact ⟨rfl,rfl⟩
theorem lifeW_new (w:World) (gen a b c d mark link:Int):(lifeW w gen a b c d mark link).heap[w.heap.size+1]?=some (lifeObj ⟨gen,mark,link,a,b,c,d⟩):=by
 have h:=blk_new (w.alloc (nodeObj a b c d)) (lifeObj ⟨gen,mark,link,a,b,c,d⟩)
 rwa [show (w.alloc (nodeObj a b c d)).heap.size=w.heap.size+1 from by simp] at h
theorem lifeW_turned (l:List Nat) (w:World) (gen a b c d mark link:Int):Turned l w (lifeW w gen a b c d mark link):=((Turned.refl _ _).alloc _).alloc _
end Go.Proofs.YtloljphbdfjgdaaGreatDoor
/- Package pool's calls on a handle, alone, by contract. -/
namespace Go.Proofs.YtloljphbdfjgdaaGreatDoor
open Go.RowKit
section
variable {w:World} {p sb pb nb:Nat} {L:Nat→Nat} {s:PSt} {i:Nat} {g:Int}
theorem cHas (h:PA w p sb pb nb L s) (h1:1≤i) (h2:i≤s.n):Calls Tryz.prog 111 #[.pointer (some ⟨p,0,none⟩),.int .i64 i] w fun e w'=>e=.returned (.bool true)∧w'=w:=by
 have c0:=cell_at h.pool 0
 simp at c0
 have d1:decide (1≤(i:Int))=true:=decide_eq_true (by omega)
 have d2:decide ((i:Int) < (s.n:Int)+1)=true:=decide_eq_true (by omega)
 go_enter Tryz.func111,Tryz.ntmps111
 go_wp2
 go_ret
 exact ⟨rfl,rfl⟩
theorem cHasNot {x:Int} (h:PA w p sb pb nb L s) (hb:x < 1∨s.n < x):Calls Tryz.prog 111 #[.pointer (some ⟨p,0,none⟩),.int .i64 x] w fun e w'=>e=.returned (.bool false)∧w'=w:=by
 have c0:=cell_at h.pool 0
 simp at c0
 rcases (by omega:x < 1∨(1≤x∧s.n < x)) with h1 | ⟨h1,h2⟩
 ·have d1:decide (1≤x)=false:=decide_eq_false (by omega)
  go_enter Tryz.func111,Tryz.ntmps111
  go_wp2
  go_ret
  exact ⟨rfl,rfl⟩
 ·have d1:decide (1≤x)=true:=decide_eq_true (by omega)
  have d2:decide (x < (s.n:Int)+1)=false:=decide_eq_false (by omega)
  go_enter Tryz.func111,Tryz.ntmps111
  go_wp2
  go_ret
  exact ⟨rfl,rfl⟩
theorem cSlot (h:PA w p sb pb nb L s) (h1:1≤i) (h2:i≤s.n) (hn:s.n≤4096) (g0:0≤g) (g1:g≤1099511627775) (g2:g % 2=1) :
  Calls Tryz.prog 83 #[.pointer (some ⟨p,0,none⟩),.int .i64 (hnd i g)] w fun e w'=>e=.returned (.tuple #[.int .i64 i,.int .i64 g,.int .i64 0])∧w'=w:=by
 have HI:=cIndex (hnd i g) w
 have HG:=cTag (hnd i g) w
 rw [hnd_idx (by omega) g0 (by omega)] at HI
 rw [hnd_tag (by omega) g0 (by omega)] at HG
 have HH:=cHas h h1 h2
 have d3:(g % 2 == 0)=false:=by simp; omega
 go_enter Tryz.func83,Tryz.ntmps83
 go_wp2_with (first
  | (go_at_call 90; refine HI.mono ?_; rintro e w' ⟨rfl,hw⟩; obtain rfl:=hw.symm)
  | (go_at_call 110; refine HG.mono ?_; rintro e w' ⟨rfl,hw⟩; obtain rfl:=hw.symm)
  | (go_at_call 111; refine HH.mono ?_; rintro e w' ⟨rfl,hw⟩; obtain rfl:=hw.symm))
 refine bodyPost_ret (v:=.tuple #[.int .i64 i,.int .i64 g,.int .i64 0]) (by simp [results,Tryz.results83,go_sem]) rfl ⟨rfl,rfl⟩
theorem cSlotBad {x:Int} (h:PA w p sb pb nb L s) (hb:idxV x < 1∨s.n < idxV x∨tagV x % 2=0) :
  Calls Tryz.prog 83 #[.pointer (some ⟨p,0,none⟩),.int .i64 x] w fun e w'=>e=.returned (.tuple #[.int .i64 0,.int .i64 0,.int .i64 103])∧w'=w:=by
 have HI:=cIndex x w
 have HG:=cTag x w
 have ht0:0≤tagV x:=by unfold tagV; split <;> omega
 generalize idxV x=ix at *
 generalize tagV x=tx at *
 rcases (by omega:(ix < 1∨s.n < ix)∨(1≤ix∧ix≤s.n∧tx % 2=0)) with h1 | ⟨h1,h2,h3⟩
 ·have HH:=cHasNot h h1
  go_enter Tryz.func83,Tryz.ntmps83
  go_wp2_with (first
   | (go_at_call 90; refine HI.mono ?_; rintro e w' ⟨rfl,hw⟩; obtain rfl:=hw.symm)
   | (go_at_call 110; refine HG.mono ?_; rintro e w' ⟨rfl,hw⟩; obtain rfl:=hw.symm)
   | (go_at_call 111; refine HH.mono ?_; rintro e w' ⟨rfl,hw⟩; obtain rfl:=hw.symm))
  refine bodyPost_ret (v:=.tuple #[.int .i64 0,.int .i64 0,.int .i64 103]) (by simp [results,Tryz.results83,go_sem]) rfl ⟨rfl,rfl⟩
 ·obtain ⟨i,rfl⟩:∃ i:Nat,ix=i:=⟨ix.toNat,by omega⟩
  have HH:=cHas h (i:=i) (by omega) (by omega)
  have d3:(tx % 2 == 0)=true:=by simp [h3]
  go_enter Tryz.func83,Tryz.ntmps83
  go_wp2_with (first
   | (go_at_call 90; refine HI.mono ?_; rintro e w' ⟨rfl,hw⟩; obtain rfl:=hw.symm)
   | (go_at_call 110; refine HG.mono ?_; rintro e w' ⟨rfl,hw⟩; obtain rfl:=hw.symm)
   | (go_at_call 111; refine HH.mono ?_; rintro e w' ⟨rfl,hw⟩; obtain rfl:=hw.symm))
  refine bodyPost_ret (v:=.tuple #[.int .i64 0,.int .i64 0,.int .i64 103]) (by simp [results,Tryz.results83,go_sem]) rfl ⟨rfl,rfl⟩
theorem cMeet (h:PA w p sb pb nb L s) (h1:1≤i) (h2:i≤s.n) (hn:s.n≤4096) (g0:0≤g) (g1:g≤1099511627775) (g2:g % 2=1) (hg:(s.slot i).gen=g) :
  Calls Tryz.prog 51 #[.pointer (some ⟨p,0,none⟩),.pointer none,.int .i64 (hnd i g)] w fun e w'=>e=.returned (.tuple #[.pointer (some ⟨L i,0,none⟩),.int .i64 0])∧w'=w:=by
 have HS:=cSlot h h1 h2 hn g0 g1 g2
 have c0:=cell_at h.pool 0
 simp at c0
 have hlt:(i:Int) < (s.n:Int)+1:=by omega
 have HL:=cPLoad (ptr_cell h.slots h2) (h.life i h2) rfl
 have l0:=cell_at (h.life i h2) 0
 simp at l0
 rw [hg] at l0
 go_enter Tryz.func51,Tryz.ntmps51
 go_wp2_with (first
  | (go_at_call 83; refine HS.mono ?_; rintro e w' ⟨rfl,hw⟩; obtain rfl:=hw.symm)
  | (go_at_call 71; refine (cStep _).mono ?_; rintro e w' ⟨rfl,hw⟩; obtain rfl:=hw.symm)
  | (go_at_call 84; refine HL.mono ?_; rintro e w' ⟨rfl,hw⟩; obtain rfl:=hw.symm))
 go_ret2
 exact ⟨rfl,rfl⟩
theorem cMeetGone (h:PA w p sb pb nb L s) (h1:1≤i) (h2:i≤s.n) (hn:s.n≤4096) (g0:0≤g) (g1:g≤1099511627775) (g2:g % 2=1) (hg:(s.slot i).gen≠g) (hf0:0≤s.faults) (hf1:s.faults≤1000000) :
  Calls Tryz.prog 51 #[.pointer (some ⟨p,0,none⟩),.pointer none,.int .i64 (hnd i g)] w fun e w'=>e=.returned (.tuple #[.pointer none,.int .i64 104])∧w'=w.setCell ⟨p,2,none⟩ (.int .i64 (s.faults+1)):=by
 have HS:=cSlot h h1 h2 hn g0 g1 g2
 have c0:=cell_at h.pool 0
 have c2:=cell_at h.pool 2
 have z2:=froz_at h.pool 2
 simp at c0 c2
 have hlt:(i:Int) < (s.n:Int)+1:=by omega
 have HL:=cPLoad (ptr_cell h.slots h2) (h.life i h2) rfl
 have l0:=cell_at (h.life i h2) 0
 simp at l0
 have hne:((s.slot i).gen != g)=true:=by simp [hg]
 go_enter Tryz.func51,Tryz.ntmps51
 go_wp2_with (first
  | (go_at_call 83; refine HS.mono ?_; rintro e w' ⟨rfl,hw⟩; obtain rfl:=hw.symm)
  | (go_at_call 71; refine (cStep _).mono ?_; rintro e w' ⟨rfl,hw⟩; obtain rfl:=hw.symm)
  | (go_at_call 84; refine HL.mono ?_; rintro e w' ⟨rfl,hw⟩; obtain rfl:=hw.symm)
  | (go_at_call 85; refine (cAAdd c2 z2 (by omega) (by omega)).mono ?_; rintro e w' ⟨rfl,rfl⟩))
 go_ret2
 exact ⟨rfl,rfl⟩
theorem cMeetBad {x:Int} (h:PA w p sb pb nb L s) (hb:idxV x < 1∨s.n < idxV x∨tagV x % 2=0) :
  Calls Tryz.prog 51 #[.pointer (some ⟨p,0,none⟩),.pointer none,.int .i64 x] w fun e w'=>e=.returned (.tuple #[.pointer none,.int .i64 103])∧w'=w:=by
 have HS:=cSlotBad h hb
 go_enter Tryz.func51,Tryz.ntmps51
 go_wp2_with (first
  | (go_at_call 83; refine HS.mono ?_; rintro e w' ⟨rfl,hw⟩; obtain rfl:=hw.symm)
  | (go_at_call 71; refine (cStep _).mono ?_; rintro e w' ⟨rfl,hw⟩; obtain rfl:=hw.symm))
 go_ret2
 exact ⟨rfl,rfl⟩
set_option maxHeartbeats 800000 in
theorem cPFaults (h:PA w p sb pb nb L s) :
  Calls Tryz.prog 12 #[.pointer (some ⟨p,0,none⟩)] w fun e w'=>e=.returned (.int .i64 s.faults)∧w'=w:=by
 have c2:=cell_at h.pool 2
 simp at c2
 go_enter Tryz.func12,Tryz.ntmps12
 go_wp2_with (first
  | (go_at_call 35; refine (cALoad c2).mono ?_; rintro e w' ⟨rfl,hw⟩; obtain rfl:=hw.symm))
 go_ret
 exact ⟨rfl,rfl⟩
set_option maxHeartbeats 800000 in
theorem cPRead (h:PA w p sb pb nb L s) (h1:1≤i) (h2:i≤s.n) (hn:s.n≤4096) (g0:0≤g) (g1:g≤1099511627775) (g2:g % 2=1) (hg:(s.slot i).gen=g) :
  Calls Tryz.prog 21 #[.pointer (some ⟨p,0,none⟩),.pointer none,.int .i64 (hnd i g)] w fun e w'=>e=.returned (.tuple #[.agg #[.int .i64 (s.slot i).a,.int .i64 (s.slot i).b,.int .i64 (s.slot i).c,.int .i64 (s.slot i).d],.int .i64 0])∧Turned [] w w'∧PA w' p sb pb nb L s:=by
 have hA:∀ o,PA (w.alloc o) p sb pb nb L s:=fun o=>h.alloc o
 have hli:=lt_of_heap (h.life i h2)
 have hne:¬ L i=w.heap.size:=by omega
 have n1:=cell_at (h.life i h2) 1
 have n2:=cell_at (h.life i h2) 2
 have n3:=cell_at (h.life i h2) 3
 have n4:=cell_at (h.life i h2) 4
 simp at n1 n2 n3 n4
 go_enter Tryz.func21,Tryz.ntmps21
 go_wp2_with (go_at_call 51; refine (cMeet (hA _) h1 h2 hn g0 g1 g2 hg).mono ?_; rintro e w' ⟨rfl,hw⟩; obtain rfl:=hw.symm)
 refine bodyPost_ret (v:=.tuple #[.agg #[.int .i64 (s.slot i).a,.int .i64 (s.slot i).b,.int .i64 (s.slot i).c,.int .i64 (s.slot i).d],.int .i64 0]) (by simp [results,Tryz.results21,go_sem]) rfl ⟨rfl,(Turned.refl _ _).alloc _,hA _⟩
set_option maxHeartbeats 800000 in
theorem cPReadGone (h:PA w p sb pb nb L s) (h1:1≤i) (h2:i≤s.n) (hn:s.n≤4096) (g0:0≤g) (g1:g≤1099511627775) (g2:g % 2=1) (hg:(s.slot i).gen≠g) (hf0:0≤s.faults) (hf1:s.faults≤1000000) :
  Calls Tryz.prog 21 #[.pointer (some ⟨p,0,none⟩),.pointer none,.int .i64 (hnd i g)] w fun e w'=>e=.returned (.tuple #[.agg #[.int .i64 0,.int .i64 0,.int .i64 0,.int .i64 0],.int .i64 104])∧Turned [p] w w'∧PA w' p sb pb nb L s.fault:=by
 have hA:∀ o,PA (w.alloc o) p sb pb nb L s:=fun o=>h.alloc o
 have hpl:=lt_of_heap h.pool
 have hne:¬ p=w.heap.size:=by omega
 have hne2:¬ w.heap.size=p:=by omega
 go_enter Tryz.func21,Tryz.ntmps21
 go_wp2_with (go_at_call 51; refine (cMeetGone (hA _) h1 h2 hn g0 g1 g2 hg hf0 hf1).mono ?_; rintro e w' ⟨rfl,rfl⟩)
 refine bodyPost_ret (v:=.tuple #[.agg #[.int .i64 0,.int .i64 0,.int .i64 0,.int .i64 0],.int .i64 104]) (by simp [results,Tryz.results21,go_sem]) rfl ⟨rfl,((Turned.refl _ _).set (r:=p) (.inl (by simp)) 2 _).alloc _,h.fault.alloc _⟩
set_option maxHeartbeats 800000 in
theorem cPReadBad {x:Int} (h:PA w p sb pb nb L s) (hb:idxV x < 1∨s.n < idxV x∨tagV x % 2=0) :
  Calls Tryz.prog 21 #[.pointer (some ⟨p,0,none⟩),.pointer none,.int .i64 x] w fun e w'=>e=.returned (.tuple #[.agg #[.int .i64 0,.int .i64 0,.int .i64 0,.int .i64 0],.int .i64 103])∧Turned [] w w'∧PA w' p sb pb nb L s:=by
 have hA:∀ o,PA (w.alloc o) p sb pb nb L s:=fun o=>h.alloc o
 go_enter Tryz.func21,Tryz.ntmps21
 go_wp2_with (go_at_call 51; refine (cMeetBad (hA _) hb).mono ?_; rintro e w' ⟨rfl,hw⟩; obtain rfl:=hw.symm)
 refine bodyPost_ret (v:=.tuple #[.agg #[.int .i64 0,.int .i64 0,.int .i64 0,.int .i64 0],.int .i64 103]) (by simp [results,Tryz.results21,go_sem]) rfl ⟨rfl,(Turned.refl _ _).alloc _,hA _⟩
theorem chain_from (f:Nat→Nat):∀ (St L:List Nat) (t i:Nat),Linked f i St→(L ++ St).Nodup→St.length≤t→chain f t i L=L ++ St
 | [],L,t,i,h,_,_=>by rw [chain_stop f t i L (.inl h)]; simp
 | x :: St,L,t,i,h,hn,ht=>by
  obtain ⟨rfl,h2,h3⟩:=h
  cases t with
  | zero=>simp at ht
  | succ t =>
   have hx:i∉L:=fun hx=>by
    have:=(List.nodup_append.1 hn).2.2 i hx i (by simp)
    exact this rfl
   rw [chain_go f t i L h2 hx,chain_from f St (L ++ [i]) t (f i) h3 (by simpa using hn) (by simpa using ht)]
   simp
theorem chain_linked (f:Nat→Nat) {n i:Nat} {St:List Nat} (h:Linked f i St) (hn:St.Nodup) (hS:∀ x,x∈St→1≤x∧x≤n):chain f (n+1) i []=St:=by
 have:=few_places hn hS
 rw [chain_from f St [] (n+1) i h (by simpa using hn) (by omega)]
 simp
set_option maxHeartbeats 800000 in
theorem cPFree (h:PA w p sb pb nb L s) (ho:s.Ok) {St:List Nat} (hL:Linked s.f (idxV s.h).toNat St) (hN:St.Nodup) (hS:∀ x,x∈St→1≤x∧x≤s.n) :
  Calls Tryz.prog 29 #[.pointer (some ⟨p,0,none⟩)] w fun e w'=>(∃ a c,e=.returned (.slice a St.length c))∧Turned [] w w':=by
 have c1:=cell_at h.pool 1
 simp at c1
 have ht:=ho.top
 have hp:=idx_nat ho.h0
 obtain ⟨i0,hi0⟩:∃ i0:Nat,idxV s.h=i0:=⟨(idxV s.h).toNat,by omega⟩
 have HP:=cPlaces h.pile ho.n2 ho.low hi0 (by omega)
 rw [hi0,Int.toNat_natCast] at hL
 rw [chain_linked s.f (n:=s.n) hL hN hS] at HP
 go_enter Tryz.func29,Tryz.ntmps29
 go_wp2_with (first
  | (go_at_call 59; refine HP.mono ?_; rintro e w' ⟨v,rfl,hT,hR⟩))
 go_ret
 obtain ⟨a,c,hv⟩:∃ a c,v=.slice a St.length c:=by
  rcases hR.2 with ⟨rfl,h0⟩ | ⟨g,cap,cur,rfl,-⟩
  ·exact ⟨none,0,by rw [h0]⟩
  ·exact ⟨_,_,rfl⟩
 exact ⟨⟨a,c,by rw [hv]; rfl⟩,hT⟩
end
end Go.Proofs.YtloljphbdfjgdaaGreatDoor
/- What is told of a slot, by contract. -/
namespace Go.Proofs.YtloljphbdfjgdaaGreatDoor
open Go.RowKit
section
variable {w:World} {b:Nat} {S:Slot}
abbrev toldC (S:Slot):Array Value:=#[.int .i64 S.gen,.int .i64 S.a,.int .i64 S.b,.int .i64 S.c,.int .i64 S.d,.int .i64 S.mark,.int .i64 S.link]
abbrev toldV (S:Slot):Value:=.agg (toldC S)
def nodeV (S:Slot):Value:=.agg #[.int .i64 S.a,.int .i64 S.b,.int .i64 S.c,.int .i64 S.d]
theorem run_lifeField (w:World) (b:Nat):(Instr.fieldAt 89 (pv b 0) 0).run Tryz.prog w=.ok (pv b 0) w∧(Instr.fieldAt 89 (pv b 0) 1).run Tryz.prog w=.ok (pv b 1) w∧(Instr.fieldAt 89 (pv b 0) 2).run Tryz.prog w=.ok (pv b 5) w∧(Instr.fieldAt 89 (pv b 0) 3).run Tryz.prog w=.ok (pv b 6) w:=by
 unfold pv
 refine ⟨?_,?_,?_,?_⟩ <;> go_simp
theorem run_lifeGen (h:w.heap[b]?=some (lifeObj S)):(Instr.loadAt 3 (pv b 0)).run Tryz.prog w=.ok (.int .i64 S.gen) w:=by
 have n0:=cell_at h 0
 simp at n0
 unfold pv
 go_simp
end
end Go.Proofs.YtloljphbdfjgdaaGreatDoor

/-
 Plain mathematics of words, keys and parts; nothing of the program: the answers of the document as functions on integers, and what they do.
-/
import Derived.Laws.Bits64
import Derived.Test.YtloljphbdfjgdaaGreatDoorK04
namespace Go.Proofs.YtloljphbdfjgdaaGreatDoor

def packV (i t:Int):Int:=if (0≤i∧i≤1048575)∧(0≤t∧t≤1099511627775) then i * 1099511627776+t else 0
def packE (i t:Int):Int:=if 0≤i∧i≤1048575 then (if 0≤t∧t≤1099511627775 then 0 else 11) else 10
def idxV (w:Int):Int:=if 0≤w∧w≤1152921504606846975 then w / 1099511627776 else 0
def tagV (w:Int):Int:=if 0≤w∧w≤1152921504606846975 then w % 1099511627776 else 0
def nextV (w i:Int):Int:=if (0≤i∧i≤1048575)∧(0≤w∧w≤1152921504606846975) then i * 1099511627776+(w % 1099511627776+1) % 1099511627776 else 0
def nextE (w i:Int):Int:=if 0≤i∧i≤1048575 then (if 0≤w∧w≤1152921504606846975 then 0 else 11) else 10

/- bit operations on integers of 64 bits that are not below 0 -/
theorem ofInt_i64 (a:Nat) (ha:a < 9223372036854775808):(BitVec.ofInt 64 (a:Int)).toNat=a:=by
 rw [BitVec.ofInt_natCast,BitVec.toNat_ofNat]; exact Nat.mod_eq_of_lt (by omega)
theorem wrapI64 (n:Int) (h0:0≤n) (h:n < 9223372036854775808):IntKind.i64.wrap n=n:=by
 simp [IntKind.wrap,IntKind.bits,IntKind.signed]; omega
theorem i64_and_nat (a b:Nat) (ha:a < 9223372036854775808) (hb:b < 9223372036854775808):bits .and .i64 (a:Int) (b:Int)=((a &&& b:Nat):Int):=by
 have hx:a &&& b≤a:=Nat.and_le_left
 show IntKind.i64.wrap ((BitVec.ofInt 64 (a:Int) &&& BitVec.ofInt 64 (b:Int)).toNat:Int)=_
 rw [BitVec.toNat_and,ofInt_i64 a ha,ofInt_i64 b hb]
 exact wrapI64 _ (by omega) (by omega)
theorem i64_or_nat (a b:Nat) (ha:a < 9223372036854775808) (hb:b < 9223372036854775808):bits .or .i64 (a:Int) (b:Int)=((a ||| b:Nat):Int):=by
 have hx:a ||| b < 2 ^ 63:=Nat.or_lt_two_pow (by omega) (by omega)
 show IntKind.i64.wrap ((BitVec.ofInt 64 (a:Int) ||| BitVec.ofInt 64 (b:Int)).toNat:Int)=_
 rw [BitVec.toNat_or,ofInt_i64 a ha,ofInt_i64 b hb]
 exact wrapI64 _ (by omega) (by omega)
theorem i64_xor_nat (a b:Nat) (ha:a < 9223372036854775808) (hb:b < 9223372036854775808):bits .xor .i64 (a:Int) (b:Int)=((a ^^^ b:Nat):Int):=by
 have hx:a ^^^ b < 2 ^ 63:=Nat.xor_lt_two_pow (by omega) (by omega)
 show IntKind.i64.wrap ((BitVec.ofInt 64 (a:Int) ^^^ BitVec.ofInt 64 (b:Int)).toNat:Int)=_
 rw [BitVec.toNat_xor,ofInt_i64 a ha,ofInt_i64 b hb]
 exact wrapI64 _ (by omega) (by omega)
theorem i64_and_mask (a:Int) (k:Nat) (m:Int) (hm:m=2 ^ k - 1) (hk:k < 63) (h0:0≤a) (ha:a < 9223372036854775808):bits .and .i64 a m=a % (m+1):=by
 obtain ⟨A,rfl⟩:=Int.eq_ofNat_of_zero_le h0
 have h2:2 ^ k < 2 ^ 63:=Nat.pow_lt_pow_right (by omega) hk
 have h1:1≤2 ^ k:=Nat.one_le_two_pow
 have e:m=((2 ^ k - 1:Nat):Int):=by
  rw [hm]; push_cast [h1]; rfl
 rw [e,i64_and_nat A _ (by omega) (by omega),Nat.and_two_pow_sub_one_eq_mod]
 push_cast [h1]
 congr 1
 omega
theorem i64_or_join (i t:Int) (h0:0≤i) (h1:i≤1048575) (h2:0≤t) (h3:t≤1099511627775):bits .or .i64 (i * 1099511627776) t=i * 1099511627776+t:=by
 obtain ⟨I,rfl⟩:=Int.eq_ofNat_of_zero_le h0
 obtain ⟨T,rfl⟩:=Int.eq_ofNat_of_zero_le h2
 have hT:T < 2 ^ 40:=by omega
 have e:=Nat.two_pow_add_eq_or_of_lt hT I
 have e1:((I:Int) * 1099511627776)=((2 ^ 40 * I:Nat):Int):=by omega
 rw [e1,i64_or_nat _ _ (by omega) (by omega),← e]
 omega
theorem i64_and_index (x:Int) (h0:0≤x) (h1:x≤1152921504606846975):bits .and .i64 (x / 1099511627776) 1048575=x / 1099511627776:=by
 rw [i64_and_mask _ 20 1048575 (by decide) (by decide) (by omega) (by omega)]; omega
theorem i64_and_tag (x:Int) (h0:0≤x) (h1:x≤1152921504606846976):bits .and .i64 x 1099511627775=x % 1099511627776:=by
 rw [i64_and_mask _ 40 1099511627775 (by decide) (by decide) (by omega) (by omega)]; omega
/- the answers, way by way -/
theorem pack_ok (i t:Int) (h0:0≤i) (h1:i≤1048575) (h2:0≤t) (h3:t≤1099511627775):packV i t=i * 1099511627776+t∧packE i t=0:=by
 simp [packV,packE,h0,h1,h2,h3]
theorem pack_badI (i t:Int) (h:i < 0∨1048575 < i):packV i t=0∧packE i t=10:=by
 unfold packV packE; constructor
 ·rw [if_neg (by omega)]
 ·rw [if_neg (by omega)]
theorem pack_badT (i t:Int) (h0:0≤i) (h1:i≤1048575) (h:t < 0∨1099511627775 < t):packV i t=0∧packE i t=11:=by
 unfold packV packE; constructor
 ·rw [if_neg (by omega)]
 ·rw [if_pos (by omega),if_neg (by omega)]
theorem idx_ok (x:Int) (h0:0≤x) (h1:x≤1152921504606846975):idxV x=x / 1099511627776:=by simp [idxV,h0,h1]
theorem idx_bad (x:Int) (h:x < 0∨1152921504606846975 < x):idxV x=0:=by unfold idxV; rw [if_neg (by omega)]
theorem tag_ok (x:Int) (h0:0≤x) (h1:x≤1152921504606846975):tagV x=x % 1099511627776:=by simp [tagV,h0,h1]
theorem tag_bad (x:Int) (h:x < 0∨1152921504606846975 < x):tagV x=0:=by unfold tagV; rw [if_neg (by omega)]
theorem next_ok (x i:Int) (h0:0≤i) (h1:i≤1048575) (h2:0≤x) (h3:x≤1152921504606846975):nextV x i=i * 1099511627776+(x % 1099511627776+1) % 1099511627776∧nextE x i=0:=by
 simp [nextV,nextE,h0,h1,h2,h3]
theorem next_badI (x i:Int) (h:i < 0∨1048575 < i):nextV x i=0∧nextE x i=10:=by
 unfold nextV nextE; constructor
 ·rw [if_neg (by omega)]
 ·rw [if_neg (by omega)]
theorem next_badW (x i:Int) (h0:0≤i) (h1:i≤1048575) (h:x < 0∨1152921504606846975 < x):nextV x i=0∧nextE x i=11:=by
 unfold nextV nextE; constructor
 ·rw [if_neg (by omega)]
 ·rw [if_pos (by omega),if_neg (by omega)]
theorem ret_int {k:IntKind} {a b:Int} (h:a=b):Ending.returned (.int k a)=.returned (.int k b):=by rw [h]
theorem ret_two {k l:IntKind} {a b c d:Int} (h:a=c) (g:b=d):Ending.returned (.tuple #[.int k a,.int l b])=.returned (.tuple #[.int k c,.int l d]):=by rw [h,g]
end Go.Proofs.YtloljphbdfjgdaaGreatDoor
/- A pool as a document has it, and a long row of calls on it: nothing of the program. -/
namespace Go.Proofs.YtloljphbdfjgdaaGreatDoor

structure Slot where
 gen:Int
 mark:Int
 link:Int
 a:Int
 b:Int
 c:Int
 d:Int
structure PSt where
 n:Nat
 slot:Nat→Slot
 h:Int
 f:Nat→Nat
 faults:Int
def PSt.take (s:PSt) (i:Nat) (a b c d link:Int):PSt:={ s with slot:=upd s.slot i ⟨(s.slot i).gen+1,0,link,a,b,c,d⟩,h:=nextV s.h (s.f i) }
def PSt.give (s:PSt) (i:Nat) (P:Int):PSt:={ s with slot:=upd s.slot i ⟨(s.slot i).gen+1,P,P,P,P,P,P⟩,h:=nextV s.h i,f:=upd s.f i (idxV s.h).toNat }
def PSt.fault (s:PSt):PSt:={ s with faults:=s.faults+1 }
def PSt.putMark (s:PSt) (i:Nat) (v:Int):PSt:={ s with slot:=upd s.slot i { s.slot i with mark:=v } }
def PSt.putLink (s:PSt) (i:Nat) (v:Int):PSt:={ s with slot:=upd s.slot i { s.slot i with link:=v } }
structure PSt.Ok (s:PSt):Prop where
 n1:1≤s.n
 n2:s.n≤4096
 h0:0≤s.h
 h1:s.h≤1152921504606846975
 top:idxV s.h≤s.n
 low:∀ k,k≤s.n→s.f k≤s.n
def hnd (i:Nat) (g:Int):Int:=(i:Int) * 1099511627776+g
theorem hnd_idx {i:Nat} {g:Int} (hi:i≤4096) (h0:0≤g) (h1:g < 1099511627776):idxV (hnd i g)=i:=by
 unfold hnd
 rw [idx_ok _ (by omega) (by omega)]; omega
theorem hnd_tag {i:Nat} {g:Int} (hi:i≤4096) (h0:0≤g) (h1:g < 1099511627776):tagV (hnd i g)=g:=by
 unfold hnd
 rw [tag_ok _ (by omega) (by omega)]; omega
theorem nextV_word {h:Int} {i:Nat} (hi:i≤4096) (h0:0≤h) (h1:h≤1152921504606846975):0≤nextV h i∧nextV h i≤1152921504606846975∧idxV (nextV h i)=i:=by
 have e:=(next_ok h i (by omega) (by omega) h0 h1).1
 rw [e]
 refine ⟨by omega,by omega,?_⟩
 rw [idx_ok _ (by omega) (by omega)]; omega
theorem idx_nat {h:Int} (h0:0≤h):0≤idxV h:=by unfold idxV; split <;> omega
theorem PSt.Ok.take {s:PSt} (h:s.Ok) {i:Nat} (hi:i≤s.n) (a b c d link:Int):(s.take i a b c d link).Ok:=by
 have hl:=h.low i hi
 have hn:=h.n2
 obtain ⟨w0,w1,w2⟩:=nextV_word (h:=s.h) (i:=s.f i) (by omega) h.h0 h.h1
 exact ⟨h.n1,h.n2,w0,w1,by show idxV (nextV s.h (s.f i))≤(s.n:Int); rw [w2]; omega,h.low⟩
theorem PSt.Ok.give {s:PSt} (h:s.Ok) {i:Nat} (hi:i≤s.n) (P:Int):(s.give i P).Ok:=by
 have hn:=h.n2
 obtain ⟨w0,w1,w2⟩:=nextV_word (h:=s.h) (i:=i) (by omega) h.h0 h.h1
 refine ⟨h.n1,h.n2,w0,w1,by show idxV (nextV s.h i)≤(s.n:Int); rw [w2]; omega,fun k hk=>?_⟩
 show upd s.f i (idxV s.h).toNat k≤s.n
 by_cases e:k=i
 ·subst e
  rw [upd_same]
  have:=h.top
  omega
 ·rw [upd_other _ _ e]; exact h.low k hk
def Linked (f:Nat→Nat):Nat→List Nat→Prop
 | i,[]=>i=0
 | i,x :: l=>i=x∧x≠0∧Linked f (f x) l
theorem Linked.upd {f:Nat→Nat} {k v:Nat}:∀ {l:List Nat} {i:Nat},Linked f i l→k∉l→Linked (upd f k v) i l
 | [],_,h,_=>h
 | x :: l,i,⟨h1,h2,h3⟩,hk=>by
  have e:x≠k:=fun e=>hk (by simp [e])
  refine ⟨h1,h2,?_⟩
  rw [upd_other _ _ e]
  exact Linked.upd h3 (fun e=>hk (by simp [e]))
structure Held where
 h:Int
 mark:Int
 link:Int
 a:Int
 b:Int
 c:Int
 d:Int
def Held.no (e:Held):Int:=idxV e.h
def HeldOk (s:PSt) (St:List Nat) (e:Held):Prop :=
 ∃ (i:Nat) (g:Int),e.h=hnd i g∧1≤i∧i≤s.n∧i∉St∧g % 2=1∧s.slot i=⟨g,e.mark,e.link,e.a,e.b,e.c,e.d⟩
def Past (s:PSt) (last:Int):Prop:=last=0∨∃ (i:Nat) (g:Int),last=hnd i g∧1≤i∧i≤s.n∧0≤g∧g % 2=1∧g < (s.slot i).gen
structure PL (s:PSt) (m:Nat) (HL:Nat→Held) (St:List Nat) (last:Int) (it:Nat):Prop where
 ok:s.Ok
 top:Linked s.f (idxV s.h).toNat St
 count:St.length+m=s.n
 small:∀ x∈St,1≤x∧x≤s.n
 nodup:St.Nodup
 held:∀ p,p < m→HeldOk s St (HL p)
 apart:∀ p q,p < m→q < m→(HL p).no=(HL q).no→p=q
 even:∀ x∈St,(s.slot x).gen % 2=0
 gens:∀ i,1≤i→i≤s.n→0≤(s.slot i).gen∧(s.slot i).gen≤it
 last:Past s last
 fits:it≤1000000
theorem PL.more {s:PSt} {m:Nat} {HL:Nat→Held} {St:List Nat} {last:Int} {it:Nat} (h:PL s m HL St last it) (hf:it+1≤1000000):PL s m HL St last (it+1) :=
 ⟨h.ok,h.top,h.count,h.small,h.nodup,h.held,h.apart,h.even,fun i h1 h2=>by have:=h.gens i h1 h2; omega,h.last,hf⟩
theorem PL.fault {s:PSt} {m:Nat} {HL:Nat→Held} {St:List Nat} {last:Int} {it:Nat} (h:PL s m HL St last it) (hf:it+1≤1000000):PL s.fault m HL St last (it+1) :=
 ⟨⟨h.ok.n1,h.ok.n2,h.ok.h0,h.ok.h1,h.ok.top,h.ok.low⟩,h.top,h.count,h.small,h.nodup,h.held,h.apart,h.even,fun i h1 h2=>by have:=h.gens i h1 h2; show 0≤(s.slot i).gen∧(s.slot i).gen≤((it+1:Nat):Int); omega,h.last,hf⟩
theorem PL.empty {s:PSt} {m:Nat} {HL:Nat→Held} {last:Int} {it:Nat} (h:PL s m HL [] last it):idxV s.h=0∧m=s.n:=by
 have h1:(idxV s.h).toNat=0:=h.top
 have h2:=idx_nat h.ok.h0
 have h3:=h.count
 simp at h3
 exact ⟨by omega,h3⟩
theorem PL.some {s:PSt} {m:Nat} {HL:Nat→Held} {i:Nat} {St:List Nat} {last:Int} {it:Nat} (h:PL s m HL (i :: St) last it):idxV s.h=i∧i≠0∧i≤s.n∧m < s.n:=by
 obtain ⟨h1,h2,-⟩:=h.top
 have h3:=idx_nat h.ok.h0
 have h4:=h.count
 have h5:=h.small i (by simp)
 simp at h4
 exact ⟨by omega,h2,h5.2,by omega⟩
theorem PL.take {s:PSt} {m:Nat} {HL:Nat→Held} {i:Nat} {St:List Nat} {last:Int} {it:Nat} (h:PL s m HL (i :: St) last it) (hf:it+1≤1000000) (a b c d link:Int) :
  PL (s.take i a b c d link) (m+1) (upd HL m ⟨hnd i ((s.slot i).gen+1),0,link,a,b,c,d⟩) St last (it+1):=by
 obtain ⟨-,h0,hn,hm⟩:=h.some
 have hnd':=List.nodup_cons.1 h.nodup
 have hg:=h.gens i (by omega) hn
 have hev:=h.even i (by simp)
 have hok:=h.ok
 have hsl:∀ j,(s.take i a b c d link).slot j=if j=i then ⟨(s.slot i).gen+1,0,link,a,b,c,d⟩ else s.slot j:=fun j=>rfl
 have n2:=h.ok.n2
 have hl:=hok.low i hn
 obtain ⟨w0,w1,w2⟩:=nextV_word (h:=s.h) (i:=s.f i) (by omega) hok.h0 hok.h1
 have hfit:=h.fits
 have hno:∀ p,p < m→(HL p).no≠i:=fun p hp e=>by
  obtain ⟨j,g,e1,e2,e3,e4,e5,e6⟩:=h.held p hp
  have hg':=h.gens j e2 e3
  rw [e6] at hg'
  have:=hnd_idx (i:=j) (g:=g) (by omega) (by simpa using hg'.1) (by have:=hg'.2; simp at this; omega)
  rw [Held.no,e1,this] at e
  have:j=i:=by omega
  exact e4 (by simp [this])
 refine ⟨hok.take hn _ _ _ _ _,?_,?_,fun x hx=>h.small x (by simp [hx]),hnd'.2,fun p hp=>?_,fun p q hp hq e=>?_,fun x hx=>?_,fun j h1 h2=>?_,?_,hf⟩
 ·obtain ⟨-,-,h3⟩:=h.top
  show Linked s.f (idxV (nextV s.h (s.f i))).toNat St
  rw [w2]
  exact h3
 ·have:=h.count
  show St.length+(m+1)=s.n
  simp at this; omega
 ·by_cases e:p=m
  ·subst e
   rw [upd_same]
   exact ⟨i,(s.slot i).gen+1,rfl,by omega,hn,hnd'.1,by omega,by rw [hsl,if_pos rfl]⟩
  ·rw [upd_other _ _ e]
   obtain ⟨j,g,e1,e2,e3,e4,e5,e6⟩:=h.held p (by omega)
   have:j≠i:=fun x=>e4 (by simp [x])
   exact ⟨j,g,e1,e2,e3,fun x=>e4 (by simp [x]),e5,by rw [hsl,if_neg this]; exact e6⟩
 ·have hself:(⟨hnd i ((s.slot i).gen+1),0,link,a,b,c,d⟩:Held).no=i:=hnd_idx (by omega) (by omega) (by omega)
  by_cases e1:p=m
  ·subst e1
   by_cases e2:q=p
   ·exact e2.symm
   ·rw [upd_same,upd_other _ _ e2,hself] at e
    exact absurd e.symm (hno q (by omega))
  ·by_cases e2:q=m
   ·subst e2
    rw [upd_same,upd_other _ _ e1,hself] at e
    exact absurd e (hno p (by omega))
   ·rw [upd_other _ _ e1,upd_other _ _ e2] at e
    exact h.apart p q (by omega) (by omega) e
 ·have:x≠i:=fun e=>hnd'.1 (e ▸ hx)
  rw [hsl,if_neg this]
  exact h.even x (by simp [hx])
 ·rw [hsl]
  by_cases e:j=i
  ·rw [if_pos e]; simp; omega
  ·rw [if_neg e]; have:=h.gens j h1 h2; omega
 ·rcases h.last with e | ⟨j,g,e1,e2,e3,e4,e5,e6⟩
  ·exact .inl e
  ·refine .inr ⟨j,g,e1,e2,e3,e4,e5,?_⟩
   rw [hsl]
   by_cases e:j=i
   ·rw [if_pos e]; subst e; simp; omega
   ·rw [if_neg e]; exact e6
theorem PL.at_held {s:PSt} {m:Nat} {HL:Nat→Held} {St:List Nat} {last:Int} {it:Nat} (h:PL s m HL St last it) {p:Nat} (hp:p < m) :
  ∃ (i:Nat) (g:Int),(HL p).h=hnd i g∧1≤i∧i≤s.n∧i∉St∧0≤g∧g≤it∧g % 2=1∧(HL p).no=i∧s.slot i=⟨g,(HL p).mark,(HL p).link,(HL p).a,(HL p).b,(HL p).c,(HL p).d⟩:=by
 obtain ⟨i,g,e1,e2,e3,e4,e5,e6⟩:=h.held p hp
 have hg:=h.gens i e2 e3
 rw [e6] at hg
 have n2:=h.ok.n2
 have hf:=h.fits
 refine ⟨i,g,e1,e2,e3,e4,hg.1,hg.2,e5,?_,e6⟩
 rw [Held.no,e1]
 exact hnd_idx (by omega) hg.1 (by have:=hg.2; simp at this; omega)
theorem PL.give {s:PSt} {m:Nat} {HL:Nat→Held} {St:List Nat} {last:Int} {it:Nat} (h:PL s m HL St last it) (hf:it+1≤1000000) {k:Nat} (hk:k < m) {i:Nat} (hi:(HL k).no=i) (P:Int) :
  PL (s.give i P) (m - 1) (fun p=>if p=k then HL (m - 1) else HL p) (i :: St) (HL k).h (it+1):=by
 obtain ⟨i',g,e1,e2,e3,e4,e5,e6,e7,e8,e9⟩:=h.at_held hk
 have:i'=i:=by omega
 subst this
 have n2:=h.ok.n2
 have hok:=h.ok
 have hgen:(s.slot i').gen=g:=by rw [e9]
 have hsl:∀ j,(s.give i' P).slot j=if j=i' then ⟨(s.slot i').gen+1,P,P,P,P,P,P⟩ else s.slot j:=fun j=>rfl
 obtain ⟨w0,w1,w2⟩:=nextV_word (h:=s.h) (i:=i') (by omega) hok.h0 hok.h1
 have hno:∀ p,p < m→p≠k→(HL p).no≠i':=fun p hp hpk e=>hpk (h.apart p k hp hk (by rw [e,e8]))
 have hone:∀ p,p < m - 1→∃ q,q < m∧q≠k∧(if p=k then HL (m - 1) else HL p)=HL q∧q=(if p=k then m - 1 else p):=fun p hp=>by
  by_cases e:p=k
  ·exact ⟨m - 1,by omega,by omega,by rw [if_pos e],by rw [if_pos e]⟩
  ·exact ⟨p,by omega,e,by rw [if_neg e],by rw [if_neg e]⟩
 refine ⟨hok.give e3 _,?_,?_,fun x hx=>?_,List.nodup_cons.2 ⟨e4,h.nodup⟩,fun p hp=>?_,fun p q hp hq e=>?_,fun x hx=>?_,fun j h1 h2=>?_,?_,hf⟩
 ·show Linked (upd s.f i' (idxV s.h).toNat) (idxV (nextV s.h i')).toNat (i' :: St)
  rw [w2]
  refine ⟨by omega,by omega,?_⟩
  rw [upd_same]
  exact h.top.upd e4
 ·have:=h.count
  show (i' :: St).length+(m - 1)=s.n
  simp; omega
 ·rcases List.mem_cons.1 hx with rfl | hx
  ·exact ⟨e2,e3⟩
  ·exact h.small x hx
 ·obtain ⟨q,q1,q2,q3,-⟩:=hone p hp
  rw [q3]
  obtain ⟨j,g',d1,d2,d3,d4,d5,d6,d7,d8,d9⟩:=h.at_held q1
  have hj:j≠i':=fun x=>hno q q1 q2 (by rw [d8,x])
  exact ⟨j,g',d1,d2,d3,fun x=>by rcases List.mem_cons.1 x with x | x; exact hj x; exact d4 x,d7,by rw [hsl,if_neg hj]; exact d9⟩
 ·obtain ⟨q1,a1,a2,a3,a4⟩:=hone p hp
  obtain ⟨q2,b1,b2,b3,b4⟩:=hone q hq
  simp only [a3,b3] at e
  have e2:=h.apart q1 q2 a1 b1 e
  rw [a4,b4] at e2
  by_cases c1:p=k <;> by_cases c2:q=k <;> simp only [c1,c2,if_true,if_false] at e2 ⊢ <;> omega
 ·rw [hsl]
  by_cases e:x=i'
  ·rw [if_pos e]; simp only; omega
  ·rw [if_neg e]
   rcases List.mem_cons.1 hx with rfl | hx
   ·exact absurd rfl e
   ·exact h.even x hx
 ·rw [hsl]
  by_cases e:j=i'
  ·rw [if_pos e]; simp only; omega
  ·rw [if_neg e]; have:=h.gens j h1 h2; omega
 ·exact .inr ⟨i',g,e1,e2,e3,e5,e7,by rw [hsl,if_pos rfl]; simp only; omega⟩
theorem PL.put {s:PSt} {m:Nat} {HL:Nat→Held} {St:List Nat} {last:Int} {it:Nat} (h:PL s m HL St last it) (hf:it+1≤1000000) {k:Nat} (hk:k < m) {i:Nat} (hi:(HL k).no=i) (mark link:Int) :
  PL { s with slot:=upd s.slot i { s.slot i with mark:=mark,link:=link } } m (upd HL k { HL k with mark:=mark,link:=link }) St last (it+1):=by
 obtain ⟨i',g,e1,e2,e3,e4,e5,e6,e7,e8,e9⟩:=h.at_held hk
 have:i'=i:=by omega
 subst this
 have hsl:∀ j,upd s.slot i' { s.slot i' with mark:=mark,link:=link } j=if j=i' then { s.slot i' with mark:=mark,link:=link } else s.slot j:=fun j=>rfl
 have hgen:∀ j,(upd s.slot i' { s.slot i' with mark:=mark,link:=link } j).gen=(s.slot j).gen:=fun j=>by
  rw [hsl]; by_cases e:j=i'
  ·rw [if_pos e,e]
  ·rw [if_neg e]
 have hno:∀ p,(upd HL k { HL k with mark:=mark,link:=link } p).no=(HL p).no:=fun p=>by
  unfold Held.no upd; by_cases e:p=k
  ·simp [e]
  ·simp [e]
 refine ⟨⟨h.ok.n1,h.ok.n2,h.ok.h0,h.ok.h1,h.ok.top,h.ok.low⟩,h.top,h.count,h.small,h.nodup,fun p hp=>?_,fun p q hp hq e=>?_,fun x hx=>?_,fun j h1 h2=>?_,?_,hf⟩
 ·by_cases e:p=k
  ·subst e
   rw [upd_same]
   exact ⟨i',g,e1,e2,e3,e4,e7,by show upd s.slot i' _ i'=_; rw [upd_same,e9]⟩
  ·rw [upd_other _ _ e]
   obtain ⟨j,g',d1,d2,d3,d4,d5,d6,d7,d8,d9⟩:=h.at_held hp
   have hj:j≠i':=fun x=>e (h.apart p k hp hk (by rw [d8,e8,x]))
   exact ⟨j,g',d1,d2,d3,d4,d7,by show upd s.slot i' _ j=_; rw [upd_other _ _ hj]; exact d9⟩
 ·rw [hno,hno] at e; exact h.apart p q hp hq e
 ·show (upd s.slot i' _ x).gen % 2=0
  rw [hgen]; exact h.even x hx
 ·show 0≤(upd s.slot i' _ j).gen∧(upd s.slot i' _ j).gen≤((it+1:Nat):Int)
  rw [hgen]; have:=h.gens j h1 h2; omega
 ·rcases h.last with e | ⟨j,g',d1,d2,d3,d4,d5,d6⟩
  ·exact .inl e
  ·exact .inr ⟨j,g',d1,d2,d3,d4,d5,by show g' < (upd s.slot i' _ j).gen; rw [hgen]; exact d6⟩
def PSt.new (n:Nat):PSt:=⟨n,fun _=>⟨0,0,0,0,0,0,0⟩,1099511627776,fun j=>if 1≤j∧j < n then j+1 else 0,0⟩
theorem linked_new (n:Nat):∀ (t j:Nat),1≤j→j+t=n+1→1≤n→Linked (fun j=>if 1≤j∧j < n then j+1 else 0) (if j≤n then j else 0) (List.range' j t)
 | 0,j,h1,h2,_=>by simp only [List.range'_zero]; unfold Linked; rw [if_neg (by omega)]
 | t+1,j,h1,h2,h3=>by
  rw [List.range'_succ]
  refine ⟨by rw [if_pos (by omega)],by omega,?_⟩
  have ih:=linked_new n t (j+1) (by omega) (by omega) h3
  show Linked (fun j=>if 1≤j∧j < n then j+1 else 0) (if 1≤j∧j < n then j+1 else 0) (List.range' (j+1) t)
  by_cases e:j < n
  ·rw [if_pos (And.intro h1 e)]; rwa [if_pos (by omega)] at ih
  ·rw [if_neg (fun x=>e x.2)]; rwa [if_neg (by omega)] at ih
theorem PL.new {n:Nat} (h1:1≤n) (h2:n≤4096) (HL:Nat→Held):PL (PSt.new n) 0 HL (List.range' 1 n) 0 0:=by
 have hi:idxV (PSt.new n).h=1:=by show idxV 1099511627776=1; decide
 refine ⟨⟨h1,h2,by show (0:Int)≤1099511627776; omega,by show (1099511627776:Int)≤_; omega,by rw [hi]; show (1:Int)≤(n:Int); omega,fun k hk=>?_⟩,?_,?_,fun x hx=>?_,List.nodup_range',fun p hp=>by omega,fun p q hp=>by omega,fun x _=>by rfl,fun i _ _=>⟨Int.le_refl _,Int.le_refl _⟩,.inl rfl,by omega⟩
 ·show (if 1≤k∧k < n then k+1 else 0)≤n
  split <;> omega
 ·rw [hi]
  have:=linked_new n n 1 (by omega) (by omega) h1
  rwa [if_pos h1] at this
 ·show (List.range' 1 n).length+0=n
  simp
 ·rw [List.mem_range'_1] at hx
  show 1≤x∧x≤n
  omega
end Go.Proofs.YtloljphbdfjgdaaGreatDoor
/- Trees of keys, and lists of pairs by rising keys: nothing of the program. -/
namespace Go.Proofs.YtloljphbdfjgdaaGreatDoor

def insL:List (Int × Int)→Int→Int→List (Int × Int)
 | [],k,v=>[(k,v)]
 | x :: l,k,v=>if x.1 < k then x :: insL l k v else if x.1=k then (k,v) :: l else (k,v) :: x :: l
def delL:List (Int × Int)→Int→List (Int × Int)
 | [],_=>[]
 | x :: l,k=>if x.1 < k then x :: delL l k else if x.1=k then l else x :: l
def getL:List (Int × Int)→Int→Option Int
 | [],_=>none
 | x :: l,k=>if x.1 < k then getL l k else if x.1=k then some x.2 else none
def rankL (l:List (Int × Int)) (k:Int):Nat:=(l.takeWhile fun x=>x.1 < k).length
def midL (l:List (Int × Int)) (a b:Int):List (Int × Int):=l.filter fun x=>a≤x.1∧x.1≤b

theorem insL_left {l m:List (Int × Int)} {k v:Int} (h:∀ x∈m,k < x.1) (hm:m≠[]):insL (l ++ m) k v=insL l k v ++ m:=by
 induction l with
 | nil =>
  obtain ⟨x,m',rfl⟩:=List.exists_cons_of_ne_nil hm
  have:=h x (by simp)
  simp only [List.nil_append,insL]
  rw [if_neg (by omega),if_neg (by omega)]
  rfl
 | cons x l ih =>
  simp only [List.cons_append,insL]
  split
  ·rw [ih]; rfl
  ·split <;> rfl
theorem insL_right {l m:List (Int × Int)} {k v:Int} (h:∀ x∈l,x.1 < k):insL (l ++ m) k v=l ++ insL m k v:=by
 induction l with
 | nil=>rfl
 | cons x l ih =>
  have:=h x (by simp)
  simp only [List.cons_append,insL]
  rw [if_pos this,ih fun y hy=>h y (by simp [hy])]
theorem delL_left {l m:List (Int × Int)} {k:Int} (h:∀ x∈m,k < x.1):delL (l ++ m) k=delL l k ++ m:=by
 induction l with
 | nil =>
  cases m with
  | nil=>rfl
  | cons x m' =>
   have:=h x (by simp)
   simp only [List.nil_append,delL]
   rw [if_neg (by omega),if_neg (by omega)]
 | cons x l ih =>
  simp only [List.cons_append,delL]
  split
  ·rw [ih]; rfl
  ·split <;> rfl
theorem delL_right {l m:List (Int × Int)} {k:Int} (h:∀ x∈l,x.1 < k):delL (l ++ m) k=l ++ delL m k:=by
 induction l with
 | nil=>rfl
 | cons x l ih =>
  have:=h x (by simp)
  simp only [List.cons_append,delL]
  rw [if_pos this,ih fun y hy=>h y (by simp [hy])]
theorem getL_left {l m:List (Int × Int)} {k:Int} (h:∀ x∈m,k < x.1):getL (l ++ m) k=getL l k:=by
 induction l with
 | nil =>
  cases m with
  | nil=>rfl
  | cons x m' =>
   have:=h x (by simp)
   simp only [List.nil_append,getL]
   rw [if_neg (by omega),if_neg (by omega)]
 | cons x l ih =>
  simp only [List.cons_append,getL]
  split
  ·exact ih
  ·split <;> rfl
theorem getL_right {l m:List (Int × Int)} {k:Int} (h:∀ x∈l,x.1 < k):getL (l ++ m) k=getL m k:=by
 induction l with
 | nil=>rfl
 | cons x l ih =>
  have:=h x (by simp)
  simp only [List.cons_append,getL]
  rw [if_pos this,ih fun y hy=>h y (by simp [hy])]
theorem rankL_left {l m:List (Int × Int)} {k:Int} (h:∀ x∈m,k≤x.1):rankL (l ++ m) k=rankL l k:=by
 unfold rankL
 induction l with
 | nil =>
  cases m with
  | nil=>rfl
  | cons x m' =>
   have:=h x (by simp)
   simp only [List.nil_append,List.takeWhile]
   rw [decide_eq_false (by omega)]
 | cons x l ih =>
  simp only [List.cons_append,List.takeWhile]
  split
  ·simp only [List.length_cons,ih]
  ·rfl
theorem rankL_right {l m:List (Int × Int)} {k:Int} (h:∀ x∈l,x.1 < k):rankL (l ++ m) k=l.length+rankL m k:=by
 unfold rankL
 induction l with
 | nil=>simp
 | cons x l ih =>
  have:=h x (by simp)
  simp only [List.cons_append,List.takeWhile,decide_eq_true this,List.length_cons,ih fun y hy=>h y (by simp [hy])]
  omega
def Rise (l:List (Int × Int)):Prop:=l.Pairwise fun x y=>x.1 < y.1
theorem Rise.append {l m:List (Int × Int)} (hl:Rise l) (hm:Rise m) (h:∀ x∈l,∀ y∈m,x.1 < y.1):Rise (l ++ m):=List.pairwise_append.2 ⟨hl,hm,h⟩
theorem mem_insL {l:List (Int × Int)} {k v:Int} {x:Int × Int} (h:x∈insL l k v):x∈l∨x=(k,v):=by
 induction l with
 | nil=>simp only [insL,List.mem_singleton] at h; exact .inr h
 | cons y l ih =>
  simp only [insL] at h
  split at h
  ·rcases List.mem_cons.1 h with h | h
   ·exact .inl (by simp [h])
   ·exact (ih h).imp (fun z=>by simp [z]) id
  ·split at h
   ·rcases List.mem_cons.1 h with h | h
    ·exact .inr h
    ·exact .inl (by simp [h])
   ·rcases List.mem_cons.1 h with h | h
    ·exact .inr h
    ·exact .inl h
theorem mem_delL {l:List (Int × Int)} {k:Int} {x:Int × Int} (h:x∈delL l k):x∈l:=by
 induction l with
 | nil=>exact h
 | cons y l ih =>
  simp only [delL] at h
  split at h
  ·rcases List.mem_cons.1 h with h | h
   ·simp [h]
   ·simp [ih h]
  ·split at h
   ·simp [h]
   ·exact h
theorem Rise.ins {l:List (Int × Int)} (h:Rise l) (k v:Int):Rise (insL l k v):=by
 induction l with
 | nil=>exact List.pairwise_singleton _ _
 | cons y l ih =>
  obtain ⟨h1,h2⟩:=List.pairwise_cons.1 h
  simp only [insL]
  split
  ·rename_i hy
   refine List.pairwise_cons.2 ⟨fun z hz=>?_,ih h2⟩
   rcases mem_insL hz with hz | hz
   ·exact h1 z hz
   ·rw [hz]; exact hy
  ·split
   ·rename_i hy
    exact List.pairwise_cons.2 ⟨fun z hz=>by have:=h1 z hz; omega,h2⟩
   ·refine List.pairwise_cons.2 ⟨fun z hz=>?_,h⟩
    rcases List.mem_cons.1 hz with hz | hz
    ·rw [hz]; omega
    ·have:=h1 z hz; omega
theorem Rise.del {l:List (Int × Int)} (h:Rise l) (k:Int):Rise (delL l k):=by
 induction l with
 | nil=>exact h
 | cons y l ih =>
  obtain ⟨h1,h2⟩:=List.pairwise_cons.1 h
  simp only [delL]
  split
  ·exact List.pairwise_cons.2 ⟨fun z hz=>h1 z (mem_delL hz),ih h2⟩
  ·split
   ·exact h2
   ·exact h
theorem delL_none {l:List (Int × Int)} {k:Int} (h:getL l k=none):delL l k=l:=by
 induction l with
 | nil=>rfl
 | cons y l ih =>
  simp only [getL] at h
  simp only [delL]
  split at h
  ·rename_i hy; rw [if_pos hy,ih h]
  ·rename_i hy
   split at h
   ·cases h
   ·rename_i hz; rw [if_neg hy,if_neg hz]
theorem insL_length {l:List (Int × Int)} {k v:Int}:(insL l k v).length=l.length+(if (getL l k).isSome then 0 else 1):=by
 induction l with
 | nil=>rfl
 | cons y l ih =>
  simp only [insL,getL]
  split
  ·simp only [List.length_cons,ih]; omega
  ·split <;> simp
theorem delL_length {l:List (Int × Int)} {k:Int} (h:(getL l k).isSome):(delL l k).length+1=l.length:=by
 induction l with
 | nil=>simp [getL] at h
 | cons y l ih =>
  simp only [getL] at h
  simp only [delL]
  split at h
  ·rename_i hy; rw [if_pos hy]; simp only [List.length_cons,ih h]
  ·rename_i hy
   split at h
   ·rename_i hz; rw [if_neg hy,if_pos hz]; rfl
   ·simp at h

inductive Tr where
 | leaf (h k v:Int)
 | node (h:Int) (p:Nat) (b:Int) (l r:Tr)
namespace Tr
def hd:Tr→Int
 | leaf h _ _=>h
 | node h _ _ _ _=>h
def lo:Tr→Int
 | leaf _ k _=>k
 | node _ _ b _ _=>b
def hi:Tr→Int
 | leaf _ k _=>k
 | node _ p b _ _=>b+2 * 2 ^ p - 1
def pairs:Tr→List (Int × Int)
 | leaf _ k v=>[(k,v)]
 | node _ _ _ l r=>l.pairs ++ r.pairs
def hs:Tr→List Int
 | leaf h _ _=>[h]
 | node h _ _ l r=>h :: (l.hs ++ r.hs)
def cnt (t:Tr):Nat:=t.pairs.length
def WF:Tr→Prop
 | leaf _ k _=>0≤k∧k≤4294967295
 | node _ p b l r=>p≤31∧0≤b∧b+2 * 2 ^ p≤4294967296∧b % (2 * 2 ^ p)=0∧b≤l.lo∧l.hi < b+2 ^ p∧b+2 ^ p≤r.lo∧r.hi < b+2 * 2 ^ p∧l.WF∧r.WF
theorem pow_pos' (p:Nat):(0:Int) < 2 ^ p:=Int.pow_pos (by omega)
theorem WF.span:∀ {t:Tr},t.WF→0≤t.lo∧t.lo≤t.hi∧t.hi≤4294967295
 | leaf _ k _,h=>⟨h.1,Int.le_refl _,h.2⟩
 | node _ p b l r,h=>by
  have:=pow_pos' p
  obtain ⟨_,h2,h3,_⟩:=h
  simp only [lo,hi]
  omega
theorem WF.mem:∀ {t:Tr},t.WF→∀ x∈t.pairs,t.lo≤x.1∧x.1≤t.hi
 | leaf _ k v,_,x,hx=>by simp only [pairs,List.mem_singleton] at hx; subst hx; exact ⟨Int.le_refl _,Int.le_refl _⟩
 | node _ p b l r,h,x,hx=>by
  obtain ⟨_,_,_,_,h5,h6,h7,h8,hl,hr⟩:=h
  have:=pow_pos' p
  simp only [lo,hi]
  rcases List.mem_append.1 hx with hx | hx
  ·have:=hl.mem x hx; omega
  ·have:=hr.mem x hx; omega
theorem WF.rise:∀ {t:Tr},t.WF→Rise t.pairs
 | leaf _ k v,_=>List.pairwise_singleton _ _
 | node _ p b l r,h=>by
  obtain ⟨_,_,_,_,h5,h6,h7,h8,hl,hr⟩:=h
  exact hl.rise.append hr.rise fun x hx y hy=>by have:=hl.mem x hx; have:=hr.mem y hy; omega
theorem pairs_ne (t:Tr):t.pairs≠[]:=by
 induction t with
 | leaf=>simp [pairs]
 | node _ _ _ l r ihl _=>simp [pairs,ihl]
theorem cnt_pos (t:Tr):1≤t.cnt:=List.length_pos_iff.2 t.pairs_ne
theorem hs_length (t:Tr):t.hs.length+1=2 * t.cnt:=by
 induction t with
 | leaf=>rfl
 | node _ _ _ l r ihl ihr =>
  simp only [hs,cnt,pairs,List.length_cons,List.length_append] at *
  omega

def deep:Tr→Nat
 | leaf _ _ _=>0
 | node _ p _ _ _=>p+1
theorem pow_mono {p q:Nat} (h:p≤q):(2:Int) ^ p≤2 ^ q:=by
 induction h with
 | refl=>exact Int.le_refl _
 | step _ ih=>have:=pow_pos' ‹Nat›; rw [Int.pow_succ]; omega
theorem WF.deep_lt {h:Int} {p:Nat} {b:Int} {l r:Tr} (hw:(node h p b l r).WF):l.deep≤p∧r.deep≤p:=by
 obtain ⟨_,_,_,_,h5,h6,h7,h8,hl,hr⟩:=hw
 have key:∀ {t:Tr} {a:Int},a≤t.lo→t.hi < a+2 ^ p→t.deep≤p:=by
  intro t a h1 h2
  cases t with
  | leaf=>exact Nat.zero_le _
  | node _ q c _ _ =>
   simp only [lo,hi,deep] at *
   have h3:(2:Int) ^ (q+1)≤2 ^ p:=by rw [Int.pow_succ]; omega
   refine Classical.byContradiction fun hn=>?_
   have h4:(2:Int) ^ p≤2 ^ q:=pow_mono (by omega)
   have:=pow_pos' q
   rw [Int.pow_succ] at h3
   omega
 exact ⟨key h5 (by omega),key h7 (by omega)⟩

structure Parts (k a:Int) (p:Nat) (b:Int):Prop where
 p31:p≤31
 b0:0≤b
 b1:b+2 * 2 ^ p≤4294967296
 low:b % (2 * 2 ^ p)=0
 apart:(b≤k∧k < b+2 ^ p∧b+2 ^ p≤a∧a < b+2 * 2 ^ p)∨(b≤a∧a < b+2 ^ p∧b+2 ^ p≤k∧k < b+2 * 2 ^ p)

def put (g:Nat→Int) (k v:Int) (p:Nat) (b:Int):Tr→Tr × Nat
 | leaf h k' v'=>if k'=k then (leaf (g 0) k v,1) else if k < k' then (node (g 1) p b (leaf (g 0) k v) (leaf h k' v'),2) else (node (g 1) p b (leaf h k' v') (leaf (g 0) k v),2)
 | node h q c l r =>
  if c≤k∧k < c+2 ^ q then (node (g (put g k v p b l).2) q c (put g k v p b l).1 r,(put g k v p b l).2+1)
  else if c+2 ^ q≤k∧k < c+2 * 2 ^ q then (node (g (put g k v p b r).2) q c l (put g k v p b r).1,(put g k v p b r).2+1)
  else if k < c then (node (g 1) p b (leaf (g 0) k v) (node h q c l r),2) else (node (g 1) p b (node h q c l r) (leaf (g 0) k v),2)
def stop (k:Int):Tr→Tr
 | leaf h k' v'=>leaf h k' v'
 | node h q c l r=>if c≤k∧k < c+2 ^ q then stop k l else if c+2 ^ q≤k∧k < c+2 * 2 ^ q then stop k r else node h q c l r
def gone (k:Int):Tr→List Int
 | leaf h k' _=>if k'=k then [h] else []
 | node h q c l r=>if c≤k∧k < c+2 ^ q then gone k l ++ [h] else if c+2 ^ q≤k∧k < c+2 * 2 ^ q then gone k r ++ [h] else []

theorem nest {i j:Nat} (hij:i≤j) {b d x:Int} (hb:(2:Int) ^ i ∣ b) (hd:(2:Int) ^ j ∣ d) (h1:b≤x) (h2:x < b+2 ^ i) (h3:d≤x) (h4:x < d+2 ^ j):d≤b∧b+2 ^ i≤d+2 ^ j:=by
 obtain ⟨m,rfl⟩:=hb
 obtain ⟨n,rfl⟩:=hd
 obtain ⟨e,rfl⟩:=Nat.exists_eq_add_of_le hij
 have hp:=pow_pos' i
 rw [Int.pow_add] at *
 generalize (2:Int) ^ i=s at *
 generalize (2:Int) ^ e=u at *
 have e1:s * u * n=s * (u * n):=Int.mul_assoc _ _ _
 rw [e1] at h3 h4 ⊢
 have a1:s * (u * n) < s * (m+1):=by rw [Int.mul_add,Int.mul_one]; omega
 have a2:s * m < s * (u * n+u):=by rw [Int.mul_add]; omega
 have b1:=Int.lt_of_mul_lt_mul_left a1 (Int.le_of_lt hp)
 have b2:=Int.lt_of_mul_lt_mul_left a2 (Int.le_of_lt hp)
 have c1:s * (u * n)≤s * m:=Int.mul_le_mul_of_nonneg_left (by omega) (Int.le_of_lt hp)
 have c2:s * (m+1)≤s * (u * n+u):=Int.mul_le_mul_of_nonneg_left (by omega) (Int.le_of_lt hp)
 rw [Int.mul_add,Int.mul_one,Int.mul_add] at c2
 exact ⟨c1,c2⟩
theorem dvd_half {p:Nat} {b:Int} (h:b % (2 * 2 ^ p)=0):(2:Int) ^ (p+1) ∣ b∧(2:Int) ^ p ∣ b∧(2:Int) ^ p ∣ b+2 ^ p:=by
 have h0:(2 * 2 ^ p:Int) ∣ b:=Int.dvd_of_emod_eq_zero h
 have h1:(2:Int) ^ p ∣ b:=Int.dvd_trans ⟨2,by rw [Int.mul_comm]⟩ h0
 exact ⟨by rw [Int.pow_succ,Int.mul_comm]; exact h0,h1,Int.dvd_add h1 (Int.dvd_refl _)⟩
theorem Parts.out {k a b:Int} {p:Nat} (h:Parts k a p b) {j:Nat} {d:Int} (hd:(2:Int) ^ j ∣ d) (k1:d≤k) (k2:k < d+2 ^ j) (a1:d≤a) (a2:a < d+2 ^ j):d≤b∧b+2 * 2 ^ p≤d+2 ^ j:=by
 obtain ⟨e1,e2,e3⟩:=dvd_half h.low
 have hap:=h.apart
 have hp:=pow_pos' p
 rcases Nat.lt_or_ge p j with z | z
 ·have:=nest (i:=p+1) (j:=j) z e1 hd (x:=k) (by omega) (by rw [Int.pow_succ]; omega) k1 k2
  rw [Int.pow_succ] at this
  omega
 ·exfalso
  rcases hap with q | q
  ·have:=nest z hd e2 (x:=k) k1 k2 (by omega) (by omega)
   omega
  ·have:=nest z hd e3 (x:=k) k1 k2 (by omega) (by omega)
   omega
theorem Parts.side {k b:Int} {p:Nat} {u:Tr} (hu:u.WF) (h:Parts k u.lo p b) (hk:k < u.lo∨u.hi < k):(b≤k∧k < b+2 ^ p∧b+2 ^ p≤u.lo∧u.hi < b+2 * 2 ^ p)∨(b≤u.lo∧u.hi < b+2 ^ p∧b+2 ^ p≤k∧k < b+2 * 2 ^ p):=by
 obtain ⟨e1,e2,e3⟩:=dvd_half h.low
 have hap:=h.apart
 have hp:=pow_pos' p
 cases u with
 | leaf h k' v=>simp only [lo,hi] at *; omega
 | node h0 q c l r =>
  obtain ⟨_,_,_,h4,_⟩:=hu
  obtain ⟨f1,f2,f3⟩:=dvd_half h4
  have hq:=pow_pos' q
  simp only [lo,hi] at *
  have hlt:q+1≤p:=by
   refine Classical.byContradiction fun hn=>?_
   have:=nest (i:=p+1) (j:=q+1) (by omega) e1 f1 (x:=c) (by omega) (by rw [Int.pow_succ]; omega) (by omega) (by rw [Int.pow_succ]; omega)
   rw [Int.pow_succ,Int.pow_succ] at this
   omega
  rcases hap with z | z
  ·have:=nest hlt f1 e3 (x:=c) (by omega) (by rw [Int.pow_succ]; omega) (by omega) (by omega)
   rw [Int.pow_succ] at this
   omega
  ·have:=nest hlt f1 e2 (x:=c) (by omega) (by rw [Int.pow_succ]; omega) (by omega) (by omega)
   rw [Int.pow_succ] at this
   omega

def Fits (k:Int) (p:Nat) (b:Int) (t:Tr):Prop:=k < (stop k t).lo∨(stop k t).hi < k→Parts k (stop k t).lo p b
theorem stop_span {k:Int}:∀ {t:Tr},t.WF→(∃ h v,stop k t=leaf h k v)∨(k < (stop k t).lo∨(stop k t).hi < k)
 | leaf h k' v,_=>by
  simp only [stop,lo,hi]
  rcases Int.lt_trichotomy k k' with z | z | z
  ·exact .inr (.inl z)
  ·subst z; exact .inl ⟨h,v,rfl⟩
  ·exact .inr (.inr z)
 | node h q c l r,hw=>by
  obtain ⟨_,_,_,_,_,_,_,_,hl,hr⟩:=hw
  simp only [stop]
  split
  ·exact stop_span hl
  ·split
   ·exact stop_span hr
   ·simp only [lo,hi]; omega
theorem put_ok {g:Nat→Int} {k v:Int} {p:Nat} {b:Int} (k0:0≤k) (k1:k≤4294967295):∀ {t:Tr},t.WF→Fits k p b t →
  (put g k v p b t).1.WF∧(put g k v p b t).1.pairs=insL t.pairs k v ∧
  ∀ {j:Nat} {d:Int},(2:Int) ^ j ∣ d→d≤k→k < d+2 ^ j→d≤t.lo→t.hi < d+2 ^ j→d≤(put g k v p b t).1.lo∧(put g k v p b t).1.hi < d+2 ^ j
 | leaf h k' v',hw,hf=>by
  simp only [put]
  by_cases e:k'=k
  ·subst e
   rw [if_pos rfl]
   refine ⟨hw,?_,fun _ _ _ h3 h4=>⟨h3,h4⟩⟩
   simp [pairs,insL]
  ·rw [if_neg e]
   have hp:=hf (by simp only [stop,lo,hi]; omega)
   simp only [stop] at hp
   have hsd:=hp.side hw (by simp only [lo,hi]; omega)
   have hps:=pow_pos' p
   simp only [lo,hi] at hsd
   have hout:=fun {j:Nat} {d:Int}=>hp.out (j:=j) (d:=d)
   simp only [lo] at hout
   split
   ·rename_i hlt
    refine ⟨⟨hp.p31,hp.b0,hp.b1,hp.low,by simp only [lo]; omega,by simp only [hi]; omega,by simp only [lo]; omega,by simp only [hi]; omega,⟨k0,k1⟩,hw⟩,?_,fun h1 h2 h3 h4 h5=>?_⟩
    ·simp [pairs,insL,e,Int.not_lt.2 (Int.le_of_lt hlt)]
    ·simp only [lo,hi] at *
     have:=hout h1 h2 h3 h4 h5
     omega
   ·rename_i hlt
    refine ⟨⟨hp.p31,hp.b0,hp.b1,hp.low,by simp only [lo]; omega,by simp only [hi]; omega,by simp only [lo]; omega,by simp only [hi]; omega,hw,⟨k0,k1⟩⟩,?_,fun h1 h2 h3 h4 h5=>?_⟩
    ·simp [pairs,insL,(by omega:k' < k)]
    ·simp only [lo,hi] at *
     have:=hout h1 h2 h3 h4 h5
     omega
 | node h q c l r,hw,hf=>by
  have hw0:=hw
  obtain ⟨h1,h2,h3,h4,h5,h6,h7,h8,hl,hr⟩:=hw
  obtain ⟨f1,f2,f3⟩:=dvd_half h4
  have hq:=pow_pos' q
  simp only [put]
  unfold Fits at hf
  simp only [stop] at hf
  split
  ·rename_i hk
   rw [if_pos hk] at hf
   obtain ⟨i1,i2,i3⟩:=put_ok (g:=g) (v:=v) k0 k1 hl hf
   have i4:=i3 f2 (by omega) (by omega) (by omega) (by omega)
   refine ⟨⟨h1,h2,h3,h4,i4.1,i4.2,h7,h8,i1,hr⟩,?_,fun _ _ _ h3 h4=>⟨h3,h4⟩⟩
   show (put g k v p b l).1.pairs ++ r.pairs=insL (l.pairs ++ r.pairs) k v
   rw [insL_left (fun x hx=>by have:=hr.mem x hx; omega) r.pairs_ne,i2]
  ·rename_i hk
   rw [if_neg hk] at hf
   split
   ·rename_i hk2
    rw [if_pos hk2] at hf
    obtain ⟨i1,i2,i3⟩:=put_ok (g:=g) (v:=v) k0 k1 hr hf
    have i4:=i3 f3 (by omega) (by omega) (by omega) (by omega)
    refine ⟨⟨h1,h2,h3,h4,h5,h6,i4.1,by omega,hl,i1⟩,?_,fun _ _ _ h3 h4=>⟨h3,h4⟩⟩
    show l.pairs ++ (put g k v p b r).1.pairs=insL (l.pairs ++ r.pairs) k v
    rw [insL_right (fun x hx=>by have:=hl.mem x hx; omega),i2]
   ·rename_i hk2
    rw [if_neg hk2] at hf
    have hp:=hf (by simp only [lo,hi]; omega)
    have hsd:=hp.side hw0 (by simp only [lo,hi]; omega)
    have hps:=pow_pos' p
    simp only [lo,hi] at hsd
    have hout:=fun {j:Nat} {d:Int}=>hp.out (j:=j) (d:=d)
    simp only [lo] at hout
    split
    ·rename_i hlt
     refine ⟨⟨hp.p31,hp.b0,hp.b1,hp.low,by simp only [lo]; omega,by simp only [hi]; omega,by simp only [lo]; omega,by simp only [hi]; omega,⟨k0,k1⟩,hw0⟩,?_,fun h1 h2 h3 h4 h5=>?_⟩
     ·show (k,v) :: (l.pairs ++ r.pairs)=insL ([] ++ (l.pairs ++ r.pairs)) k v
      rw [insL_left (l:=[]) (m:=l.pairs ++ r.pairs) (fun x hx=>by have:=hw0.mem x hx; simp only [lo] at this; omega) (by simp [l.pairs_ne])]
      rfl
     ·simp only [lo,hi] at *
      have:=hout h1 h2 h3 h4 (by omega)
      omega
    ·rename_i hlt
     refine ⟨⟨hp.p31,hp.b0,hp.b1,hp.low,by simp only [lo]; omega,by simp only [hi]; omega,by simp only [lo]; omega,by simp only [hi]; omega,hw0,⟨k0,k1⟩⟩,?_,fun h1 h2 h3 h4 h5=>?_⟩
     ·show (l.pairs ++ r.pairs) ++ [(k,v)]=insL (l.pairs ++ r.pairs) k v
      have:=insL_right (l:=l.pairs ++ r.pairs) (m:=[]) (k:=k) (v:=v) (fun x hx=>by have:=hw0.mem x hx; simp only [hi] at this; omega)
      rw [List.append_nil] at this
      rw [this]; rfl
     ·simp only [lo,hi] at *
      have:=hout h1 h2 h3 h4 (by omega)
      omega
end Tr
end Go.Proofs.YtloljphbdfjgdaaGreatDoor
/- Bits of keys, and the highest place at which two of them differ: nothing of the program. -/
namespace Go.Proofs.YtloljphbdfjgdaaGreatDoor
def p2 (i:Nat):Int:=((2 ^ i:Nat):Int)
def hv (A k:Nat):Int:=((A / 2 ^ k:Nat):Int)
def lg (x:Int):Int:=((x.toNat.log2:Nat):Int)
def plc (a b:Int):Int:=if a=b then -1 else (((a.toNat ^^^ b.toNat).log2:Nat):Int)
theorem p2_pos (i:Nat):1≤p2 i:=by
 have:1≤2 ^ i:=Nat.one_le_two_pow
 unfold p2; omega
theorem p2_32:p2 32=4294967296:=by decide
theorem p2_0:p2 0=1:=by decide
theorem lg_of (x:Int) (p:Nat) (h0:p2 p≤x) (h1:x < p2 (p+1)):(p:Int)=lg x:=by
 have hx:=p2_pos p
 unfold lg
 have:x.toNat.log2=p:=by
  rw [Nat.log2_eq_iff (by omega)]
  unfold p2 at h0 h1
  omega
 rw [this]
theorem xor_eq_zero {a b:Nat}:a ^^^ b=0↔a=b:=by
 constructor
 ·intro h
  have e:a ^^^ b ^^^ b=b:=by rw [h]; simp
  rwa [Nat.xor_assoc,Nat.xor_self,Nat.xor_zero] at e
 ·rintro rfl; simp
theorem xor_div (a b k:Nat):(a ^^^ b) / 2 ^ k=a / 2 ^ k ^^^ b / 2 ^ k:=by
 have:=@Nat.shiftRight_xor_distrib k a b
 simpa [Nat.shiftRight_eq_div_pow] using this
theorem plc_spec (a b:Int) (ha:(0≤a∧a≤4294967295)) (hb:(0≤b∧b≤4294967295)) (hne:a≠b):∃ k:Nat,k < 32∧plc a b=k∧a.toNat / 2 ^ (k+1)=b.toNat / 2 ^ (k+1)∧a.toNat / 2 ^ k≠b.toNat / 2 ^ k:=by
 have hx:a.toNat ^^^ b.toNat≠0:=by intro h; have:=xor_eq_zero.1 h; omega
 have hlt:a.toNat ^^^ b.toNat < 2 ^ 32:=Nat.xor_lt_two_pow (by omega) (by omega)
 obtain ⟨l1,l2⟩:=(Nat.log2_eq_iff hx).1 (rfl:(a.toNat ^^^ b.toNat).log2=_)
 refine ⟨(a.toNat ^^^ b.toNat).log2,(Nat.log2_lt hx).2 hlt,by simp [plc,hne],?_,?_⟩
 ·apply xor_eq_zero.1; rw [← xor_div]; exact Nat.div_eq_of_lt l2
 ·intro h
  have:=xor_eq_zero.2 h
  rw [← xor_div] at this
  have hp:0 < 2 ^ (a.toNat ^^^ b.toNat).log2:=Nat.two_pow_pos _
  rcases Nat.div_eq_zero_iff.1 this with h | h <;> omega
theorem plc_xor (a b:Int) (ha:(0≤a∧a≤4294967295)) (hb:(0≤b∧b≤4294967295)) (hne:a≠b):lg (bits .xor .i64 a b)=plc a b∧0 < bits .xor .i64 a b∧bits .xor .i64 a b < 4294967296:=by
 have e:bits .xor .i64 a b=((a.toNat ^^^ b.toNat:Nat):Int):=by
  have:=i64_xor_nat a.toNat b.toNat (by omega) (by omega)
  rwa [Int.toNat_of_nonneg ha.1,Int.toNat_of_nonneg hb.1] at this
 have hx:a.toNat ^^^ b.toNat≠0:=by intro h; have:=xor_eq_zero.1 h; omega
 have hlt:a.toNat ^^^ b.toNat < 2 ^ 32:=Nat.xor_lt_two_pow (by omega) (by omega)
 rw [e]
 refine ⟨?_,by omega,by omega⟩
 simp [lg,plc,hne]
theorem and_p2 (K i:Nat) (hK:K < 4294967296) (hi:i < 32):bits .and .i64 (K:Int) (p2 i)=if hv K i % 2=0 then 0 else p2 i:=by
 have hm:(2:Nat) ^ i≤2 ^ 31:=Nat.pow_le_pow_right (by omega) (by omega)
 unfold p2
 rw [i64_and_nat K (2 ^ i) (by omega) (by omega)]
 have hb:K.testBit i=decide (K / 2 ^ i % 2=1):=by rw [Nat.testBit_eq_decide_div_mod_eq]
 unfold hv
 by_cases h:K / 2 ^ i % 2=1
 ·have e:K &&& 2 ^ i=2 ^ i:=by
   apply Nat.eq_of_testBit_eq
   intro j
   rw [Nat.testBit_and,Nat.testBit_two_pow]
   by_cases hj:i=j
   ·subst hj; simp [hb,h]
   ·simp [hj]
  rw [if_neg (by omega),e]
 ·have e:K &&& 2 ^ i=0:=by
   apply Nat.eq_of_testBit_eq
   intro j
   rw [Nat.testBit_and,Nat.testBit_two_pow]
   by_cases hj:i=j
   ·subst hj; simp [hb,h]
   ·simp [hj]
  rw [if_pos (by omega),e]; rfl
theorem hv_int {k:Int} (h:0≤k) (p:Nat):hv k.toNat p=k / 2 ^ p:=by
 obtain ⟨K,rfl⟩:=Int.eq_ofNat_of_zero_le h
 simp [hv]
theorem div_is {k q s:Int} (hs:0 < s) (h1:q * s≤k) (h2:k < q * s+s):k / s=q:=by
 rw [Int.ediv_eq_iff_of_pos hs]
 exact ⟨by rw [Int.mul_comm] at h1; first | exact h1 | (rw [Int.mul_comm]; exact h1),by first | exact h2 | (rw [Int.mul_comm]; exact h2) | (rw [Int.mul_comm s q]; exact h2)⟩
theorem base_is {b s:Int} (h:b % (2 * s)=0):∃ m,b=2 * m * s:=by
 obtain ⟨m,hm⟩:=Int.dvd_of_emod_eq_zero h
 exact ⟨m,by rw [hm,Int.mul_comm 2 s,Int.mul_assoc,Int.mul_comm]⟩
theorem bit_low {k b:Int} {p:Nat} (hk:0≤k) (hb:b % (2 * 2 ^ p)=0) (h1:b≤k) (h2:k < b+2 ^ p):hv k.toNat p % 2=0:=by
 have hp:=Tr.pow_pos' p
 obtain ⟨m,rfl⟩:=base_is hb
 rw [hv_int hk,div_is hp h1 h2]
 omega
theorem bit_high {k b:Int} {p:Nat} (hk:0≤k) (hb:b % (2 * 2 ^ p)=0) (h1:b+2 ^ p≤k) (h2:k < b+2 * 2 ^ p):hv k.toNat p % 2=1:=by
 have hp:=Tr.pow_pos' p
 obtain ⟨m,rfl⟩:=base_is hb
 have e:(2 * m+1) * 2 ^ p=2 * m * 2 ^ p+2 ^ p:=by rw [Int.add_mul,Int.one_mul]
 rw [hv_int hk,div_is (q:=2 * m+1) hp (by rw [e]; exact h1) (by rw [e]; omega)]
 omega
def fstK (k:Int) (p:Nat):Int:=k / (2 * 2 ^ p) * (2 * 2 ^ p)
theorem fstK_bd {k:Int} (p:Nat):fstK k p≤k∧k < fstK k p+2 * 2 ^ p∧fstK k p % (2 * 2 ^ p)=0:=by
 have hp:=Tr.pow_pos' p
 have h1:=Int.ediv_mul_le k (b:=2 * 2 ^ p) (by omega)
 have h2:=Int.lt_ediv_add_one_mul_self k (b:=2 * 2 ^ p) (by omega)
 rw [Int.add_mul,Int.one_mul] at h2
 exact ⟨h1,h2,Int.mul_emod_left _ _⟩
theorem parts_of {k a:Int} (k0:0≤k) (k1:k≤4294967295) (a0:0≤a) (a1:a≤4294967295) (hne:k≠a):∃ p:Nat,plc k a=p∧p≤31∧Tr.Parts k a p (fstK k p):=by
 obtain ⟨p,hp,e,h1,h2⟩:=plc_spec k a ⟨k0,k1⟩ ⟨a0,a1⟩ hne
 refine ⟨p,e,by omega,?_⟩
 have hs:=Tr.pow_pos' p
 have g1:k / (2 * 2 ^ p)=a / (2 * 2 ^ p):=by
  have:=congrArg (fun n:Nat=>(n:Int)) h1
  simp only [Int.natCast_ediv,Int.toNat_of_nonneg k0,Int.toNat_of_nonneg a0,Int.natCast_pow] at this
  rw [show ((2:Nat):Int) ^ (p+1)=2 * 2 ^ p by rw [Int.pow_succ,Int.mul_comm]; rfl] at this
  exact this
 have g2:k / 2 ^ p≠a / 2 ^ p:=fun z=>h2 (by
  have z':((k.toNat / 2 ^ p:Nat):Int)=((a.toNat / 2 ^ p:Nat):Int):=by
   simp only [Int.natCast_ediv,Int.toNat_of_nonneg k0,Int.toNat_of_nonneg a0,Int.natCast_pow]
   exact z
  exact Int.ofNat_inj.1 z')
 obtain ⟨b1,b2,b3⟩:=fstK_bd (k:=k) p
 obtain ⟨c1,c2,-⟩:=fstK_bd (k:=a) p
 have e2:fstK a p=fstK k p:=by unfold fstK; rw [g1]
 rw [e2] at c1 c2
 have b0:0≤fstK k p:=Int.mul_nonneg (Int.ediv_nonneg k0 (by omega)) (by omega)
 generalize fstK k p=b at *
 obtain ⟨m,rfl⟩:=base_is b3
 have e3:(2 * m+1) * 2 ^ p=2 * m * 2 ^ p+2 ^ p:=by rw [Int.add_mul,Int.one_mul]
 refine ⟨by omega,b0,?_,b3,?_⟩
 ·have hd:(2:Int) ^ (p+1) ∣ 2 * m * 2 ^ p:=(Tr.dvd_half b3).1
  have:=Tr.nest (i:=p+1) (j:=32) (by omega) hd (Int.dvd_zero _) (x:=k) (by omega) (by rw [Int.pow_succ]; omega) (by omega) (by omega)
  rw [Int.pow_succ] at this
  omega
 ·rcases Int.lt_or_le k (2 * m * 2 ^ p+2 ^ p) with x | x <;> rcases Int.lt_or_le a (2 * m * 2 ^ p+2 ^ p) with y | y
  ·exact absurd ((div_is hs b1 x).trans (div_is hs c1 y).symm) g2
  ·exact .inl ⟨b1,x,y,c2⟩
  ·exact .inr ⟨c1,y,x,b2⟩
  ·exact absurd ((div_is (q:=2 * m+1) hs (by rw [e3]; exact x) (by rw [e3]; omega)).trans (div_is (q:=2 * m+1) hs (by rw [e3]; exact y) (by rw [e3]; omega)).symm) g2
theorem Tr.Parts.one {k a b c:Int} {p q:Nat} (h:Tr.Parts k a p b) (g:Tr.Parts k a q c):p=q∧b=c:=by
 have key:∀ {p q:Nat} {b c:Int},Tr.Parts k a p b→Tr.Parts k a q c→p≤q∧c≤b:=by
  intro p q b c h g
  obtain ⟨e1,-,-⟩:=Tr.dvd_half g.low
  have hq:=Tr.pow_pos' q
  have ga:=g.apart
  have z:=h.out (j:=q+1) (d:=c) e1 (by omega) (by rw [Int.pow_succ]; omega) (by omega) (by rw [Int.pow_succ]; omega)
  refine ⟨?_,z.1⟩
  refine Classical.byContradiction fun hn=>?_
  have:=Tr.pow_mono (p:=q+1) (q:=p) (by omega)
  rw [Int.pow_succ] at this z
  have:=Tr.pow_pos' p
  omega
 have x:=key h g
 have y:=key g h
 exact ⟨by omega,by omega⟩
end Go.Proofs.YtloljphbdfjgdaaGreatDoor

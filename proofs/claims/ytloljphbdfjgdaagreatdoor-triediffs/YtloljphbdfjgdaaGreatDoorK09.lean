/- Package word's Bit and Place, alone, by contract, where the table of bits is laid. -/
import Derived.Test.YtloljphbdfjgdaaGreatDoorRows
import Derived.Test.YtloljphbdfjgdaaGreatDoorK08
import Derived.WalkKit
import Derived.WalkSpells
import Derived.WalkLawsBesides
namespace Go.Proofs.YtloljphbdfjgdaaGreatDoor
open Go.RowKit
def Tab (w:World):Prop:=∀ i:Nat,i < 32→w.cell? ⟨0,i,none⟩=some (.int .i64 (p2 i))
theorem and_zero (K P:Nat) (hK:K < 4294967296) (hP:P < 32):(bits .and .i64 (K:Int) (p2 P) == 0)=decide (hv K P % 2=0):=by
 have hp:=p2_pos P
 rw [and_p2 K P hK hP]
 by_cases h:hv K P % 2=0
 ·simp [h]
 ·rw [if_neg h,decide_eq_false h]; simp; omega
set_option maxHeartbeats 400000 in
theorem cBit {k:Int} {p:Nat} {w:World} (ht:Tab w) (h0:0≤k) (h1:k≤4294967295) (h3:p≤31) {v:Int} (hb:hv k.toNat p % 2=v) :
  Calls Tryz.prog 107 #[.int .i64 k,.int .i64 p] w fun e w'=>e=.returned (.tuple #[.int .i64 v,.int .i64 0])∧w'=w:=by
 obtain ⟨K,rfl⟩:=Int.eq_ofNat_of_zero_le h0
 rw [Int.toNat_natCast] at hb
 have h31:(p:Int)≤31:=by omega
 have hc:=ht p (by omega)
 clear ht
 have ha:=and_zero K p (by omega) (by omega)
 by_cases hz0:hv K p % 2=0
 ·have hz:(bits .and .i64 (K:Int) (p2 p) == 0)=true:=by rw [ha]; simp [hz0]
  obtain rfl:v=0:=by omega
  clear ha hb hz0
  go_enter Tryz.func107,Tryz.ntmps107
  go_wp2
  go_ret2
  exact ⟨rfl,rfl⟩
 ·have hz:(bits .and .i64 (K:Int) (p2 p) == 0)=false:=by rw [ha]; simp [hz0]
  obtain rfl:v=1:=by omega
  clear ha hb hz0
  go_enter Tryz.func107,Tryz.ntmps107
  go_wp2
  go_ret2
  exact ⟨rfl,rfl⟩
set_option maxHeartbeats 400000 in
theorem cHighest (x:Int) (w:World) (ht:Tab w) (h0:0 < x) (h1:x < 4294967296) :
  Calls Tryz.prog 109 #[.int .i64 x] w fun e w'=>e=.returned (.int .i64 (lg x))∧w'=w:=by
 have HT:Hid (Tab w):=ht
 clear ht
 go_enter Tryz.func109,Tryz.ntmps109
 go_wp2
 go_loop [3,4] (fun a i=>∃ p h wd:Nat,((h=0∧wd=1)∨(wd=2 * h∧(h=1∨h=2∨h=4∨h=8∨h=16)))∧p+wd≤32∧p2 p≤x∧x < p2 (p+wd)∧a=.int .i64 p∧i=.int .i64 h) (fun _ i=>(intOf i).toNat)
 case atStart=>exact ⟨0,16,32,by omega,by omega,by rw [p2_0]; omega,by rw [Nat.zero_add,p2_32]; omega,rfl,rfl⟩
 case round =>
  obtain ⟨p,h,wd,hq,hp,hlo,hhi,rfl,rfl⟩:=hrel
  have HQ:Hid ((h=0∧wd=1)∨(wd=2 * h∧(h=1∨h=2∨h=4∨h=8∨h=16))):=hq
  by_cases hz:h=0
  ·have HZ:Hid (wd=1):=by show wd=1; omega
   clear hq
   subst hz
   go_wp2
   go_ret
   exact ⟨ret_int (lg_of x p hlo (by rw [HZ.out] at hhi; exact hhi)),rfl⟩
  ·have hh:0 < h:=by omega
   have h16:h≤16:=by omega
   have HW:Hid (wd=h+h):=by show wd=h+h; omega
   have hph:p+h < 32:=by omega
   have HN:Hid ((h / 2=0∧h=1)∨(h=2 * (h / 2)∧(h / 2=1∨h / 2=2∨h / 2=4∨h / 2=8∨h / 2=16))):=by show _∨_; omega
   have hpp:p+h+h≤32:=by omega
   have HH:Hid (x < p2 (p+wd)):=hhi
   clear hq hz hhi hp
   have hc:=HT.out (p+h) hph
   by_cases ht:p2 (p+h)≤x
   ·go_wp2
    go_round
    case rel=>exact ⟨p+h,h / 2,h,HN.out,by omega,ht,by have:=HH.out; rw [HW.out,← Nat.add_assoc] at this; exact this,by go_num,by go_num⟩
    case measure=>simp [intOf]; omega
   ·go_wp2
    go_round
    case rel=>exact ⟨p,h / 2,h,HN.out,by omega,hlo,by omega,by go_num,by go_num⟩
    case measure=>simp [intOf]; omega
set_option maxHeartbeats 400000 in
theorem cPlace {a b:Int} {w:World} (ht:Tab w) (h0:0≤a) (h1:a≤4294967295) (h2:0≤b) (h3:b≤4294967295) (hab:a≠b) :
  Calls Tryz.prog 81 #[.int .i64 a,.int .i64 b] w fun e w'=>e=.returned (.tuple #[.int .i64 (plc a b),.int .i64 0])∧w'=w:=by
 have HT:Hid (Tab w):=ht
 clear ht
 obtain ⟨x1,x2,x3⟩:=plc_xor a b ⟨h0,h1⟩ ⟨h2,h3⟩ hab
 have hne:(a == b)=false:=by simpa using hab
 rw [← x1]
 clear x1 hab
 go_enter Tryz.func81,Tryz.ntmps81
 go_wp2_with (first | (go_at_call 109; refine (cHighest _ _ HT.out x2 x3).mono ?_; rintro e w' ⟨rfl,rfl⟩) | go_in)
 go_ret2
 exact ⟨ret_two rfl rfl,rfl⟩
end Go.Proofs.YtloljphbdfjgdaaGreatDoor

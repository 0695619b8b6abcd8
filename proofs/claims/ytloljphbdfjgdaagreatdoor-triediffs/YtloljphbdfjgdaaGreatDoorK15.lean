/-
 What the program's and the reference's Pack, Index, Tag and Next answer, at every input: the document's numbers; the world stays.
-/
import Derived.Test.YtloljphbdfjgdaaGreatDoorRows
import Derived.Test.YtloljphbdfjgdaaGreatDoorK08
import Derived.WalkKit
import Derived.WalkSpells
import Derived.WalkLawsBesides
namespace Go.Proofs.YtloljphbdfjgdaaGreatDoor
open Go.RowKit
set_option maxHeartbeats 400000 in
theorem cPack (i t:Int) (w:World) :
  Calls Tryz.prog 20 #[.int .i64 i,.int .i64 t] w fun e w'=>e=.returned (.tuple #[.int .i64 (packV i t),.int .i64 (packE i t)])∧w'=w:=by
 rcases (by omega:i < 0∨1048575 < i∨(0≤i∧i≤1048575∧t < 0)∨(0≤i∧i≤1048575∧1099511627775 < t)∨(0≤i∧i≤1048575∧0≤t∧t≤1099511627775)) with h | h | ⟨h0,h1,h⟩ | ⟨h0,h1,h⟩ | ⟨h0,h1,h2,h3⟩
 ·rw [(pack_badI i t (.inl h)).1,(pack_badI i t (.inl h)).2]
  go_enter Tryz.func20,Tryz.ntmps20
  go_wp2
  go_ret2
  exact ⟨rfl,rfl⟩
 ·rw [(pack_badI i t (.inr h)).1,(pack_badI i t (.inr h)).2]
  have hd:decide (i≤1048575)=false:=decide_eq_false (by omega)
  go_enter Tryz.func20,Tryz.ntmps20
  go_wp2
  go_ret2
  exact ⟨rfl,rfl⟩
 ·rw [(pack_badT i t h0 h1 (.inl h)).1,(pack_badT i t h0 h1 (.inl h)).2]
  go_enter Tryz.func20,Tryz.ntmps20
  go_wp2
  go_ret2
  exact ⟨rfl,rfl⟩
 ·rw [(pack_badT i t h0 h1 (.inr h)).1,(pack_badT i t h0 h1 (.inr h)).2]
  have hd:decide (t≤1099511627775)=false:=decide_eq_false (by omega)
  go_enter Tryz.func20,Tryz.ntmps20
  go_wp2
  go_ret2
  exact ⟨rfl,rfl⟩
 ·rw [(pack_ok i t h0 h1 h2 h3).1,(pack_ok i t h0 h1 h2 h3).2]
  go_enter Tryz.func20,Tryz.ntmps20
  go_wp2
  go_ret2
  exact ⟨ret_two (i64_or_join i t h0 h1 h2 h3) rfl,rfl⟩
set_option maxHeartbeats 400000 in
theorem cIndex (x:Int) (w:World) :
  Calls Tryz.prog 90 #[.int .i64 x] w fun e w'=>e=.returned (.int .i64 (idxV x))∧w'=w:=by
 rcases (by omega:x < 0∨1152921504606846975 < x∨(0≤x∧x≤1152921504606846975)) with h | h | ⟨h0,h1⟩
 ·rw [idx_bad x (.inl h)]
  go_enter Tryz.func90,Tryz.ntmps90
  go_wp2
  go_ret
  exact ⟨rfl,rfl⟩
 ·rw [idx_bad x (.inr h)]
  have hd:decide (x≤1152921504606846975)=false:=decide_eq_false (by omega)
  go_enter Tryz.func90,Tryz.ntmps90
  go_wp2
  go_ret
  exact ⟨rfl,rfl⟩
 ·rw [idx_ok x h0 h1]
  go_enter Tryz.func90,Tryz.ntmps90
  go_wp2
  go_ret
  exact ⟨ret_int (i64_and_index x h0 h1),rfl⟩
set_option maxHeartbeats 400000 in
theorem cTag (x:Int) (w:World) :
  Calls Tryz.prog 110 #[.int .i64 x] w fun e w'=>e=.returned (.int .i64 (tagV x))∧w'=w:=by
 rcases (by omega:x < 0∨1152921504606846975 < x∨(0≤x∧x≤1152921504606846975)) with h | h | ⟨h0,h1⟩
 ·rw [tag_bad x (.inl h)]
  go_enter Tryz.func110,Tryz.ntmps110
  go_wp2
  go_ret
  exact ⟨rfl,rfl⟩
 ·rw [tag_bad x (.inr h)]
  have hd:decide (x≤1152921504606846975)=false:=decide_eq_false (by omega)
  go_enter Tryz.func110,Tryz.ntmps110
  go_wp2
  go_ret
  exact ⟨rfl,rfl⟩
 ·rw [tag_ok x h0 h1]
  go_enter Tryz.func110,Tryz.ntmps110
  go_wp2
  go_ret
  exact ⟨ret_int (i64_and_tag x h0 (by omega)),rfl⟩
theorem cTag_ok (x:Int) (w:World) (h0:0≤x) (h1:x≤1152921504606846975) :
  Calls Tryz.prog 110 #[.int .i64 x] w fun e w'=>e=.returned (.int .i64 (x % 1099511627776))∧w'=w:=by
 have:=cTag x w; rwa [tag_ok x h0 h1] at this
theorem join_and (x i:Int) (h0:0≤i) (h1:i≤1048575) :
  bits .or .i64 (i * 1099511627776) (bits .and .i64 (x % 1099511627776+1) 1099511627775)=i * 1099511627776+(x % 1099511627776+1) % 1099511627776:=by
 rw [i64_and_tag _ (by omega) (by omega),i64_or_join _ _ h0 h1 (by omega) (by omega)]
set_option maxHeartbeats 400000 in
theorem cNext (x i:Int) (w:World) :
  Calls Tryz.prog 119 #[.int .i64 x,.int .i64 i] w fun e w'=>e=.returned (.tuple #[.int .i64 (nextV x i),.int .i64 (nextE x i)])∧w'=w:=by
 rcases (by omega:i < 0∨1048575 < i∨(0≤i∧i≤1048575∧x < 0)∨(0≤i∧i≤1048575∧1152921504606846975 < x)∨(0≤i∧i≤1048575∧0≤x∧x≤1152921504606846975)) with h | h | ⟨h0,h1,h⟩ | ⟨h0,h1,h⟩ | ⟨h0,h1,h2,h3⟩
 ·rw [(next_badI x i (.inl h)).1,(next_badI x i (.inl h)).2]
  go_enter Tryz.func119,Tryz.ntmps119
  go_wp2
  go_ret2
  exact ⟨rfl,rfl⟩
 ·rw [(next_badI x i (.inr h)).1,(next_badI x i (.inr h)).2]
  have hd:decide (i≤1048575)=false:=decide_eq_false (by omega)
  go_enter Tryz.func119,Tryz.ntmps119
  go_wp2
  go_ret2
  exact ⟨rfl,rfl⟩
 ·rw [(next_badW x i h0 h1 (.inl h)).1,(next_badW x i h0 h1 (.inl h)).2]
  go_enter Tryz.func119,Tryz.ntmps119
  go_wp2
  go_ret2
  exact ⟨rfl,rfl⟩
 ·rw [(next_badW x i h0 h1 (.inr h)).1,(next_badW x i h0 h1 (.inr h)).2]
  have hd:decide (x≤1152921504606846975)=false:=decide_eq_false (by omega)
  go_enter Tryz.func119,Tryz.ntmps119
  go_wp2
  go_ret2
  exact ⟨rfl,rfl⟩
 ·rw [(next_ok x i h0 h1 h2 h3).1,(next_ok x i h0 h1 h2 h3).2]
  go_enter Tryz.func119,Tryz.ntmps119
  go_wp2_with (first | (go_at_call 110; refine (cTag_ok _ _ h2 h3).mono ?_; rintro e w' ⟨rfl,rfl⟩) | go_in)
  go_ret2
  exact ⟨ret_two (join_and x i h0 h1) rfl,rfl⟩
end Go.Proofs.YtloljphbdfjgdaaGreatDoor

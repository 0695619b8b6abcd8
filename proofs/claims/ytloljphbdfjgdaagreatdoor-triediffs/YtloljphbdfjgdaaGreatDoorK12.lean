/- A pool by its laws. -/
import Derived.Test.YtloljphbdfjgdaaGreatDoorRows
import Derived.Test.YtloljphbdfjgdaaGreatDoorK08
import Derived.Test.YtloljphbdfjgdaaGreatDoorK11
import Derived.WalkSmall
import Derived.Laws.OwnMore
namespace Go.Proofs.YtloljphbdfjgdaaGreatDoor
open Go.RowKit
def sfld (s:Slot):Nat→Value
 | 0=>.int .i64 s.gen
 | 1=>.int .i64 s.a
 | 2=>.int .i64 s.b
 | 3=>.int .i64 s.c
 | 4=>.int .i64 s.d
 | 5=>.int .i64 s.mark
 | _=>.int .i64 s.link
def Wider (F F':List Nat) (w:World):Prop:=∀ x,x∈F'→x∈F∨w.heap.size≤x
structure PoolLaws (At:World→Nat→List Nat→PSt→Prop):Prop where
 keep:∀ {w w':World} {p:Nat} {F l:List Nat} {s:PSt},At w p F s→Turned l w w'→(∀ x,x∈l→x∉F)→At w' p F s
 lt:∀ {w:World} {p:Nat} {F:List Nat} {s:PSt},At w p F s→∀ x,x∈F→x < w.heap.size
 new:∀ (w:World) (n:Nat),1≤n→n≤4096→0 < w.heap.size→Calls Tryz.prog 6 #[.int .i64 n] w fun e w'=>∃ p F,e=.returned (.tuple #[.pointer (some ⟨p,0,none⟩),.int .i64 0])∧Turned [] w w'∧At w' p F (PSt.new n)∧∀ x,x∈F→w.heap.size≤x
 take:∀ {w:World} {p:Nat} {F:List Nat} {s:PSt} {i:Nat},At w p F s→s.Ok→idxV s.h=i→i≠0→0≤(s.slot i).gen→(s.slot i).gen≤1099511627774→∀ a b c d link:Int,
  Calls Tryz.prog 72 #[.pointer (some ⟨p,0,none⟩),.pointer none,.agg #[.int .i64 a,.int .i64 b,.int .i64 c,.int .i64 d],.int .i64 link] w fun e w'=>e=.returned (.tuple #[.int .i64 (hnd i ((s.slot i).gen+1)),.int .i64 0])∧Turned F w w'∧∃ F',At w' p F' (s.take i a b c d link)∧Wider F F' w
 takeFull:∀ {w:World} {p:Nat} {F:List Nat} {s:PSt},At w p F s→s.Ok→idxV s.h=0→∀ a b c d link:Int,
  Calls Tryz.prog 72 #[.pointer (some ⟨p,0,none⟩),.pointer none,.agg #[.int .i64 a,.int .i64 b,.int .i64 c,.int .i64 d],.int .i64 link] w fun e w'=>e=.returned (.tuple #[.int .i64 0,.int .i64 102])∧Turned F w w'∧At w' p F s
 give:∀ {w:World} {p:Nat} {F:List Nat} {s:PSt} {i:Nat} {g:Int},At w p F s→s.Ok→1≤i→i≤s.n→0≤g→g≤1099511627774→g % 2=1→(s.slot i).gen=g →
  Calls Tryz.prog 75 #[.pointer (some ⟨p,0,none⟩),.pointer none,.int .i64 (hnd i g)] w fun e w'=>e=.returned (.int .i64 0)∧Turned F w w'∧∃ F',At w' p F' (s.give i (-7777777))∧Wider F F' w
 giveGone:∀ {w:World} {p:Nat} {F:List Nat} {s:PSt} {i:Nat} {g:Int},At w p F s→s.Ok→1≤i→i≤s.n→0≤g→g≤1099511627775→g % 2=1→(s.slot i).gen≠g →
  Calls Tryz.prog 75 #[.pointer (some ⟨p,0,none⟩),.pointer none,.int .i64 (hnd i g)] w fun e w'=>e=.returned (.int .i64 104)∧Turned F w w'∧At w' p F s
 read:∀ {w:World} {p:Nat} {F:List Nat} {s:PSt} {i:Nat} {g:Int},At w p F s→s.Ok→1≤i→i≤s.n→0≤g→g≤1099511627775→g % 2=1→(s.slot i).gen=g →
  Calls Tryz.prog 21 #[.pointer (some ⟨p,0,none⟩),.pointer none,.int .i64 (hnd i g)] w fun e w'=>e=.returned (.tuple #[.agg #[.int .i64 (s.slot i).a,.int .i64 (s.slot i).b,.int .i64 (s.slot i).c,.int .i64 (s.slot i).d],.int .i64 0])∧Turned F w w'∧At w' p F s
 readGone:∀ {w:World} {p:Nat} {F:List Nat} {s:PSt} {i:Nat} {g:Int},At w p F s→s.Ok→1≤i→i≤s.n→0≤g→g≤1099511627775→g % 2=1→(s.slot i).gen≠g→0≤s.faults→s.faults≤1000000 →
  Calls Tryz.prog 21 #[.pointer (some ⟨p,0,none⟩),.pointer none,.int .i64 (hnd i g)] w fun e w'=>e=.returned (.tuple #[.agg #[.int .i64 0,.int .i64 0,.int .i64 0,.int .i64 0],.int .i64 104])∧Turned F w w'∧At w' p F s.fault
 readBad:∀ {w:World} {p:Nat} {F:List Nat} {s:PSt} {x:Int},At w p F s→s.Ok→(idxV x < 1∨s.n < idxV x∨tagV x % 2=0) →
  Calls Tryz.prog 21 #[.pointer (some ⟨p,0,none⟩),.pointer none,.int .i64 x] w fun e w'=>e=.returned (.tuple #[.agg #[.int .i64 0,.int .i64 0,.int .i64 0,.int .i64 0],.int .i64 103])∧Turned F w w'∧At w' p F s
 faults:∀ {w:World} {p:Nat} {F:List Nat} {s:PSt},At w p F s→Calls Tryz.prog 12 #[.pointer (some ⟨p,0,none⟩)] w fun e w'=>e=.returned (.int .i64 s.faults)∧Turned F w w'∧At w' p F s
 free:∀ {w:World} {p:Nat} {F:List Nat} {s:PSt} {St:List Nat},At w p F s→s.Ok→Linked s.f (idxV s.h).toNat St→St.Nodup→(∀ x,x∈St→1≤x∧x≤s.n)→Calls Tryz.prog 29 #[.pointer (some ⟨p,0,none⟩)] w fun e w'=>(∃ a c,e=.returned (.slice a St.length c))∧Turned F w w'∧At w' p F s
end Go.Proofs.YtloljphbdfjgdaaGreatDoor

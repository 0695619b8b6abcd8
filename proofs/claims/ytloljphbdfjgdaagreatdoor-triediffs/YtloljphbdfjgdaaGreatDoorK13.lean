/- A slice of pairs that is one's own: where a key is, its value. -/
import Derived.Test.YtloljphbdfjgdaaGreatDoorRows
import Derived.Test.YtloljphbdfjgdaaGreatDoorK08
import Derived.Test.YtloljphbdfjgdaaGreatDoorK11
import Derived.WalkSmall
import Derived.Laws.OwnMore
import Derived.Deep.QuietTactic
import Derived.BigQuiet
namespace Go.Proofs.YtloljphbdfjgdaaGreatDoor
open Go.RowKit
def flat:List (Int × Int)→List Value
 | []=>[]
 | x :: l=>.int .i64 x.1 :: .int .i64 x.2 :: flat l
theorem flat_length:∀ l:List (Int × Int),(flat l).length=l.length * 2
 | []=>rfl
 | x :: l=>by simp only [flat,List.length_cons,flat_length l]; omega
theorem flat_append:∀ l m:List (Int × Int),flat (l ++ m)=flat l ++ flat m
 | [],m=>rfl
 | x :: l,m=>by simp only [List.cons_append,flat,flat_append l m]
theorem flat_key:∀ (l:List (Int × Int)) (i:Nat) (h:i < l.length),(flat l)[i * 2]?=some (.int .i64 l[i].1)∧(flat l)[i * 2+1]?=some (.int .i64 l[i].2)
 | x :: l,0,_=>⟨rfl,rfl⟩
 | x :: l,i+1,h=>by
  have:=flat_key l i (by simpa using h)
  rw [show (i+1) * 2=i * 2+2 by omega]
  simp only [flat,List.getElem?_cons_succ,List.getElem_cons_succ]
  exact this
theorem flat_one (l:List (Int × Int)):∀ u∈flat l,u.oneCell'=true:=by
 induction l with
 | nil=>intro u hu; cases hu
 | cons x l ih =>
  intro u hu
  simp only [flat,List.mem_cons] at hu
  rcases hu with rfl | rfl | hu
  ·rfl
  ·rfl
  ·exact ih u hu
structure PR (B:Nat) (w:World) (v:Value) (l:List (Int × Int)):Prop where
 own:w.ownsRow B 60 2 v l.length (flat l)
theorem PR.nil (B:Nat) (w:World):PR B w (.slice none 0 0) []:=⟨World.ownsRow_nil _ _ _ _⟩
theorem PR.form {B:Nat} {w:World} {v:Value} {l:List (Int × Int)} (h:PR B w v l):(v=.slice none 0 0∧l=[])∨∃ g c cs,v=.slice (some ⟨g,0,none⟩) l.length c∧B≤g∧g < w.heap.size∧w.heap[g]?=some (.cells cs 60 (0,0))∧l.length≤c∧∀ i (hi:i < l.length),w.cell? ⟨g,i * 2,none⟩=some (.int .i64 l[i].1)∧w.cell? ⟨g,i * 2+1,none⟩=some (.int .i64 l[i].2):=by
 rcases h.own.2 with ⟨rfl,h0⟩ | ⟨g,c,cs,rfl,hb,hg,hc,_,_,_⟩
 ·exact .inl ⟨rfl,List.eq_nil_of_length_eq_zero h0⟩
 ·refine .inr ⟨g,c,cs,rfl,hb,lt_of_heap hg,hg,hc,fun i hi=>?_⟩
  obtain ⟨f1,f2⟩:=flat_key l i hi
  exact ⟨(h.own.cellAt _ (by omega)).trans f1,(h.own.cellAt _ (by omega)).trans f2⟩
theorem PR.keep {B:Nat} {w w':World} {v:Value} {l:List (Int × Int)} {F:List Nat} (h:PR B w v l) (ht:Turned F w w') (hF:∀ g,v.ownBlock=some g→g∉F):PR B w' v l:=by
 refine ⟨h.own.1,?_⟩
 rcases h.own.2 with h0 | ⟨g,c,cs,rfl,hb,hg,h3⟩
 ·exact .inl h0
 ·exact .inr ⟨g,c,cs,rfl,hb,ht.heap hg (hF g rfl),h3⟩
theorem rank_lt {l:List (Int × Int)} {k:Int}:∀ i (hi:i < l.length),i < rankL l k→l[i].1 < k:=by
 unfold rankL
 induction l with
 | nil=>intro i hi; simp at hi
 | cons x l ih =>
  intro i hi h
  simp only [List.takeWhile] at h
  split at h
  ·rename_i hx
   simp only [List.length_cons] at h
   cases i with
   | zero=>simpa using hx
   | succ i=>exact ih i (by simpa using hi) (by omega)
  ·simp at h
theorem rank_at {l:List (Int × Int)} {k:Int}:∀ (hi:rankL l k < l.length),¬ l[rankL l k].1 < k:=by
 induction l with
 | nil=>intro hi; simp at hi
 | cons x l ih =>
  intro hi
  by_cases hx:x.1 < k
  ·have e:rankL (x :: l) k=rankL l k+1:=by simp [rankL,List.takeWhile,hx]
   simp only [e,List.getElem_cons_succ]
   exact ih (by rw [e] at hi; simpa using hi)
  ·have e:rankL (x :: l) k=0:=by simp [rankL,List.takeWhile,hx]
   simp only [e,List.getElem_cons_zero]
   exact hx
theorem rank_le (l:List (Int × Int)) (k:Int):rankL l k≤l.length:=by
 unfold rankL
 exact (List.takeWhile_sublist _).length_le
theorem get_rank (l:List (Int × Int)) (k:Int):getL l k=if h:rankL l k < l.length then (if l[rankL l k].1=k then some l[rankL l k].2 else none) else none:=by
 induction l with
 | nil=>rfl
 | cons x l ih =>
  simp only [getL]
  by_cases hx:x.1 < k
  ·have e:rankL (x :: l) k=rankL l k+1:=by simp [rankL,List.takeWhile,hx]
   rw [if_pos hx,ih]
   by_cases z:rankL l k < l.length
   ·rw [dif_pos z,dif_pos (by rw [e]; simpa using z)]
    simp only [e,List.getElem_cons_succ]
   ·rw [dif_neg z,dif_neg (by rw [e]; simpa using z)]
  ·have e:rankL (x :: l) k=0:=by simp [rankL,List.takeWhile,hx]
   rw [if_neg hx,dif_pos (by rw [e]; simp)]
   simp only [e,List.getElem_cons_zero]
theorem Turned.drewN {l:List Nat} {a w:World} (h:Turned l a w) (n:Nat):Turned l a (w.drewN n):=⟨h.os,h.tape,h.output,h.size,h.block⟩
section
variable {B:Nat} {w:World} {v:Value} {l:List (Int × Int)}
set_option maxRecDepth 100000 in
set_option maxHeartbeats 1600000 in
theorem cWhere (h:PR B w v l) (hl:l.length≤1000000) (k:Int):Calls Tryz.prog 40 #[v,.int .i64 k] w fun e w'=>e=.returned (.tuple #[.int .i64 (rankL l k),.bool (getL l k).isSome])∧Turned [] w w':=by
 have H0:Hid (Turned [] w w):=Turned.refl _ _
 rcases h.form with ⟨rfl,rfl⟩ | ⟨g,c,cs,rfl,hb,hg,hh,hc,hcell⟩
 ·go_enter Tryz.func40,Tryz.ntmps40
  go_wp2
  go_loopw [6] (fun i wx=>i=.int .i64 0∧Hid (Turned [] w wx)) (fun _ _=>0)
  case atStart=>exact ⟨rfl,H0⟩
  case round =>
   obtain ⟨rfl,HT⟩:=hrel
   go_wp2
   go_quiet (fail)
   go_wp2
   go_ret2
   exact ⟨rfl,HT.out.drewN _⟩
 ·have hr:=rank_le l k
  have HG:Hid _:=get_rank l k
  have HC:Hid _:=hcell
  have HH:Hid _:=hh
  have HA:Hid (∀ hi:rankL l k < l.length,¬ l[rankL l k].1 < k):=rank_at
  clear hcell hh h
  go_enter Tryz.func40,Tryz.ntmps40
  go_wp2
  go_loopw [6] (fun i wx=>∃ t:Nat,t≤rankL l k∧i=.int .i64 t∧Hid (Turned [] w wx)) (fun i _=>l.length - (intOf i).toNat)
  case atStart=>exact ⟨0,Nat.zero_le _,rfl,H0⟩
  case round =>
   obtain ⟨t,ht,rfl,HT⟩:=hrel
   have z:=froz_at (HT.out.heap HH.out (by simp))
   by_cases hlt:t < rankL l k
   ·have hll:t < l.length:=by omega
    have q0:wr.cell? ⟨g,t * 2,none⟩=some (.int .i64 l[t].1):=HT.out.cell (HC.out t hll).1 (by simp)
    have hk:=rank_lt (k:=k) t hll hlt
    have hlt2:(t:Int) < (l.length:Int):=by omega
    generalize l[t].1=x at q0 hk
    go_wp2
    exact ⟨⟨t+1,by omega,by go_num,HT⟩,by simp [intOf]; omega⟩
   ·have e:t=rankL l k:=by omega
    subst e
    by_cases hll:rankL l k < l.length
    ·have q0:wr.cell? ⟨g,rankL l k * 2,none⟩=some (.int .i64 l[rankL l k].1):=HT.out.cell (HC.out _ hll).1 (by simp)
     have hk:=HA.out hll
     have hlt2:(rankL l k:Int) < (l.length:Int):=by omega
     have hG:=HG.out
     rw [dif_pos hll] at hG
     have hd:decide (l[rankL l k].1 < k)=false:=by simpa using hk
     have HB:Hid ((getL l k).isSome=decide (l[rankL l k].1=k)):=by
      show _=_
      rw [hG]
      by_cases z:l[rankL l k].1=k <;> simp [z]
     clear hG
     generalize l[rankL l k].1=x at q0 hk HB hd
     go_wp2
     go_quiet (fail)
     go_wp2
     go_ret2
     exact ⟨by rw [HB.out]; rfl,HT.out.drewN _⟩
    ·have hlt2:¬ (rankL l k:Int) < (l.length:Int):=by omega
     have hd:decide ((rankL l k:Int) < (l.length:Int))=false:=by simpa using hlt2
     have hG:=HG.out
     rw [dif_neg hll] at hG
     have HB:Hid ((getL l k).isSome=false):=by
      show _=_
      rw [hG]; rfl
     clear hG
     go_wp2
     go_quiet (fail)
     go_wp2
     go_ret2
     exact ⟨by rw [HB.out]; rfl,HT.out.drewN _⟩

set_option maxRecDepth 100000 in
set_option maxHeartbeats 1600000 in
theorem cValue (h:PR B w v l) (hl:l.length≤1000000) (k:Int):Calls Tryz.prog 15 #[v,.int .i64 k] w fun e w'=>e=.returned (.tuple #[.int .i64 ((getL l k).getD 0),.bool (getL l k).isSome])∧Turned [] w w':=by
 have HW:=cWhere h hl k
 have HG:Hid _:=get_rank l k
 rcases h.form with ⟨rfl,rfl⟩ | ⟨g,c,cs,rfl,hb,hg,hh,hc,hcell⟩
 ·have e:getL [] k=none:=rfl
  rw [e] at HW ⊢
  simp only [Option.isSome_none,Option.getD_none] at HW ⊢
  go_enter Tryz.func15,Tryz.ntmps15
  go_wp2_with ((go_at_call 40; refine HW.mono ?_; rintro e w' ⟨rfl,HT⟩))
  go_ret2
  exact ⟨rfl,HT⟩
 ·have HC:Hid _:=hcell
  have HH:Hid _:=hh
  clear hcell hh h
  have hG:=HG.out
  clear HG
  by_cases hll:rankL l k < l.length
  ·rw [dif_pos hll] at hG
   by_cases hk:l[rankL l k].1=k
   ·rw [if_pos hk] at hG
    rw [hG] at HW ⊢
    simp only [Option.isSome_some,Option.getD_some] at HW ⊢
    have hlt2:(rankL l k:Int) < (l.length:Int):=by omega
    have HQ:Hid (w.cell? ⟨g,rankL l k * 2+1,none⟩=some (.int .i64 l[rankL l k].2)):=(HC.out _ hll).2
    generalize l[rankL l k].2=x at HQ ⊢
    clear hk hG HC
    go_enter Tryz.func15,Tryz.ntmps15
    go_wp2_with ((go_at_call 40; refine HW.mono ?_; rintro e w' ⟨rfl,HT⟩; have q0:=HT.cell HQ.out (by simp); have z:=froz_at (HT.heap HH.out (by simp))))
    go_ret2
    exact ⟨rfl,HT⟩
   ·rw [if_neg hk] at hG
    rw [hG] at HW ⊢
    simp only [Option.isSome_none,Option.getD_none] at HW ⊢
    go_enter Tryz.func15,Tryz.ntmps15
    go_wp2_with ((go_at_call 40; refine HW.mono ?_; rintro e w' ⟨rfl,HT⟩))
    go_ret2
    exact ⟨rfl,HT⟩
  ·rw [dif_neg hll] at hG
   rw [hG] at HW ⊢
   simp only [Option.isSome_none,Option.getD_none] at HW ⊢
   go_enter Tryz.func15,Tryz.ntmps15
   go_wp2_with ((go_at_call 40; refine HW.mono ?_; rintro e w' ⟨rfl,HT⟩))
   go_ret2
   exact ⟨rfl,HT⟩
end
end Go.Proofs.YtloljphbdfjgdaaGreatDoor

/- A change of a map, as the statements make it: it is dropped. -/
import Derived.Test.YtloljphbdfjgdaaGreatDoorK38
import Derived.Test.YtloljphbdfjgdaaGreatDoorK03
import Derived.Test.YtloljphbdfjgdaaGreatDoorK14
namespace Go.Proofs.YtloljphbdfjgdaaGreatDoor
open Go.RowKit
section
variable {At:World→Nat→List Nat→PSt→Prop} {Tb:World→Nat→Nat→Prop} (PL:PoolLaws At) (TL:TrieLaws At Tb) {w:World} {tb p:Nat} {F:List Nat} {s:PSt} {St:List Nat} {it B:Nat} {o:Option Tr} {lv:Value}
include PL TL
set_option maxRecDepth 100000 in
set_option maxHeartbeats 3200000 in
theorem cChangedDrop (hA:At w p F s) (hT:Tb w tb p) (htF:tb∉F) (hV:PV s St it) (hit:it≤900000000) (hO:Holds s o) (hR:PR B w lv (prs o)) (hRF:∀ g,lv.ownBlock=some g→g∉F) (hlen:(prs o).length≤1000000) (of key val:Int) :
  Calls Tryz.prog 9 #[pt p,pt tb,.agg #[.int .i64 (rootO o),lv],.agg #[.int .i64 of,.int .i64 key,.int .i64 val,.bool true]] w (ChgPost At w p tb F s St it o (delL (prs o) key)):=by
 have HF:Hid (∀ w1,Turned [] w w1→Calls Tryz.prog 29 #[pt p] w1 fun e w'=>(∃ a c,e=.returned (.slice a St.length c))∧Turned F w1 w'∧At w' p F s):=fun w1 h1=>PL.free (PL.keep hA h1 (by simp)) hV.ok hV.top hV.nodup hV.small
 have HV:Hid (∀ w1,Turned [] w w1→Calls Tryz.prog 15 #[lv,.int .i64 key] w1 fun e w'=>e=.returned (.tuple #[.int .i64 ((getL (prs o) key).getD 0),.bool (getL (prs o) key).isSome])∧Turned [] w1 w'):=fun w1 h1=>cValue (hR.keep h1 (by simp)) hlen key
 have HL:Hid (∀ x,x∈F→x < w.heap.size):=PL.lt hA
 have HP:Hid (∀ w1,At w1 p F s→Tb w1 tb p→_):=fun w1 a1 a2=>TL.drop (w:=w1) a1 a2 htF hV hit hO key
 go_enter Tryz.func9,Tryz.ntmps9
 go_wp2_with (first
  | (go_at_call 15; refine (HV.out _ ((((Turned.refl _ _).alloc _).alloc _).alloc _)).mono ?_; rintro e w1 ⟨rfl,ht1⟩; have hT1:Turned [] w w1:=((((Turned.refl _ _).alloc _).alloc _).alloc _).trans ht1; have hB1:Bx w.heap.size w1 (rootO o) lv of key val true:=Bx.keep (l:=[]) ⟨(al3 _ _ _ _).1,(al3 _ _ _ _).2.1,(al3 _ _ _ _).2.2⟩ ht1 (by simp); clear ht1; have k0:w1.cell? ⟨w.heap.size,0,none⟩=some (.int .i64 (rootO o)):=cell_at hB1.bv 0; have k1:w1.cell? ⟨w.heap.size+1,1,none⟩=some (.int .i64 key):=cell_at hB1.bc 1; have HT1:Hid _:=hT1; have HB1:Hid _:=hB1; clear hT1 hB1)
  | (go_at_call 29; refine (HF.out _ HT1.out).mono ?_; rintro e w2 ⟨⟨a2,c2,rfl⟩,ht2,hA2⟩; have HB2:Hid (Bx w.heap.size w2 (rootO o) lv of key val true):=HB1.out.keep ht2 (fun x hx=>.inl (HL.out x hx)); have HT2:Hid (Turned F w w2):=(HT1.out.mono (by simp)).trans ht2; have HA2:Hid _:=hA2; clear ht2 hA2 k0 k1; have k3:w2.cell? ⟨w.heap.size+1,3,none⟩=some (.bool true):=cell_at HB2.out.bc 3; have k0:w2.cell? ⟨w.heap.size,0,none⟩=some (.int .i64 (rootO o)):=cell_at HB2.out.bv 0; have k1:w2.cell? ⟨w.heap.size+1,1,none⟩=some (.int .i64 key):=cell_at HB2.out.bc 1; have k2:w2.cell? ⟨w.heap.size+1,2,none⟩=some (.int .i64 val):=cell_at HB2.out.bc 2; have l0:w.heap.size < w2.heap.size:=lt_of_heap HB2.out.bv; have l1:w.heap.size+1 < w2.heap.size:=lt_of_heap HB2.out.bc; have l2:w.heap.size+1+1 < w2.heap.size:=lt_of_heap HB2.out.be; have n0:¬ w.heap.size=w2.heap.size:=(by omega); have n1:¬ w.heap.size+1=w2.heap.size:=(by omega); have n2:¬ w.heap.size+1+1=w2.heap.size:=(by omega)))
 have HT2':Hid _:=HT2.out.alloc (.cells #[.int .i64 0,.int .i64 0,.bool false,.slice none 0 0,.slice none 0 0] 40)
 have HC2:=HP.out _ (PL.keep HA2.out ((Turned.refl [] _).alloc _) (by simp)) (TL.keepT hT HT2'.out htF (TL.outT hT hA))
 clear HP HT2' k0 k1 k2 k3
 refine HC2.mono ?_
 clear HC2
 rintro e w3 ⟨er,root,old,had,gv,mv,gone,made,s',F',St',it',o',rfl,ht3,hA3,hW3,htF3,hg3,hm3,hgF,hmF,hC3,hP3⟩
 have HB3:Hid (Bx w.heap.size w3 (rootO o) lv of key val true):=(HB2.out.keep ((Turned.refl [] _).alloc _) (by simp)).keep ht3 (fun x hx=>.inl (HL.out x hx))
 have b14:w3.heap[w2.heap.size]?=some (.cells #[.int .i64 0,.int .i64 0,.bool false,.slice none 0 0,.slice none 0 0] 40 (0,0)):=ht3.heap (blk_new _ _) (fun hm=>by have:=HL.out _ hm; omega)
 have q0:w3.cell? ⟨w2.heap.size,0,none⟩=some (.int .i64 0):=cell_at b14 0
 have q1:w3.cell? ⟨w2.heap.size,1,none⟩=some (.int .i64 0):=cell_at b14 1
 have q2:w3.cell? ⟨w2.heap.size,2,none⟩=some (.bool false):=cell_at b14 2
 have q3:w3.cell? ⟨w2.heap.size,3,none⟩=some (.slice none 0 0):=cell_at b14 3
 have q4:w3.cell? ⟨w2.heap.size,4,none⟩=some (.slice none 0 0):=cell_at b14 4
 have z4:=froz_at b14
 have m3:w2.heap.size < w3.heap.size:=lt_of_heap b14
 have k1:w3.cell? ⟨w.heap.size+1,1,none⟩=some (.int .i64 key):=cell_at HB3.out.bc 1
 have k2:w3.cell? ⟨w.heap.size+1,2,none⟩=some (.int .i64 val):=cell_at HB3.out.bc 2
 have k3:w3.cell? ⟨w.heap.size+1,3,none⟩=some (.bool true):=cell_at HB3.out.bc 3
 have k4:w3.cell? ⟨w.heap.size,1,none⟩=some lv:=cell_at HB3.out.bv 1
 have zc:=froz_at HB3.out.bc
 have zv:=froz_at HB3.out.bv
 have n0':¬ w2.heap.size=w.heap.size:=by omega
 have n1':¬ w2.heap.size=w.heap.size+1:=by omega
 have n2':¬ w2.heap.size=w.heap.size+1+1:=by omega
 cases hP3 with
 | bad hk hn =>
  obtain ⟨ga,gc,rfl⟩:=hg3.form
  obtain ⟨ma,mc,rfl⟩:=hm3.form
  obtain ⟨h1,h2,h3,h4⟩:=hn
  subst h1 h2 h3
  simp only [List.length_nil] at *
  rcases hgl:getL (prs o) key with _ | yy
  all_goals simp only [Option.isSome_none,Option.isSome_some,Option.getD_none,Option.getD_some]
  all_goals have hk2:key < 0∨(¬ key < 0∧4294967295 < key):=by unfold isKey at hk; omega
  all_goals rcases hk2 with hk2 | ⟨hk2,hk3⟩
  all_goals (
   go_wp2_with (first
    | (go_at_call 7; refine (cNum _ _).mono ?_; rintro e w' ⟨rfl,hw⟩; obtain rfl:=hw.symm))
   have hE4:=edit_set (y0:=.int .i64 0) (y1:=.int .i64 old) (y2:=.bool had) (y3:=.slice ga 0 gc) (y4:=.slice ma 0 mc) b14
   have hT4:=edit_turned w3 w2.heap.size (.int .i64 0) (.int .i64 old) (.bool had) (.slice ga 0 gc) (.slice ma 0 mc)
   generalize hw4:(World.setCell (World.setCell (World.setCell (World.setCell (World.setCell w3 _ _) _ _) _ _) _ _) _ _)=w4 at hE4 hT4 ⊢
   clear hw4 q0 q1 q2 q3 q4 z4 k1 k2 k3 k4 zc zv
   have hb2:w2.heap.size∉F':=fun hm=>(hW3 _ hm).elim (fun h1=>by have:=HL.out _ h1; omega) (fun h1=>by simp at h1; omega)
   have hA4:At w4 p F' s':=PL.keep hA3 hT4 (by simp; exact hb2)
   have HB4:Hid (Bx w.heap.size w4 (rootO o) lv of key val true):=HB3.out.keep hT4 (by simp; omega)
   have hS2:w.heap.size+2∉F':=fun hm=>(hW3 _ hm).elim (fun h1=>by have:=HL.out _ h1; omega) (fun h1=>by simp at h1; omega)
   refine chg_r13 PL rfl rfl rfl rfl rfl (by first | rfl | (show Value.bool _=Value.bool true; simp [hk2,hk3])) hA4 hC3.pv HB4.out.be hE4 hS2 hb2 (by omega) (by omega) ?_
   intro a5 w5 hsz hdf hoff f8 f10 hA5 hT5 hE5
   have f9:a5.eval (.tmp 9)=pa (w.heap.size+1+1) 0:=hoff 9 (by decide)
   have hsz':a5.tmps.size=178:=hsz
   have hdf':a5.defers=[]:=hdf
   clear hsz hdf hoff
   obtain ⟨cc,hcc,hce⟩:=expand178 hsz' hdf'
   have g8:=(hce 8).trans f8
   have g9:=(hce 9).trans f9
   have g10:=(hce 10).trans f10
   clear f8 f9 f10 hce hsz' hdf'
   subst hcc
   simp only [lit178,g8,g9,g10]
   clear g8 g9 g10
   go_wp2
   have r0:w5.cell? ⟨w.heap.size+1+1,0,none⟩=some (.int .i64 0):=cell_at hE5 0
   have r1:w5.cell? ⟨w.heap.size+1+1,1,none⟩=some (.int .i64 old):=cell_at hE5 1
   have r2:w5.cell? ⟨w.heap.size+1+1,2,none⟩=some (.bool had):=cell_at hE5 2
   have r3:w5.cell? ⟨w.heap.size+1+1,3,none⟩=some (.slice ga 0 gc):=cell_at hE5 3
   have r4:w5.cell? ⟨w.heap.size+1+1,4,none⟩=some (.slice ma 0 mc):=cell_at hE5 4
   refine ⟨rfl,.tuple #[.pointer none,.agg #[.int .i64 0,.int .i64 old,.bool had,.slice ga 0 gc,.slice ma 0 mc],.bool true],?_,?_⟩
   ·unfold results pa
    go_simp
   ·refine ⟨_,_,s',F',St',it',rfl,(((HT2.out.alloc _).trans ht3).inner hT4 (by simp; omega)).inner hT5 (fun x hx=>?_),hA5,fun x hx=>(hW3 x hx).imp id (fun h1=>by simp at h1; omega),htF3,hC3,.inl ⟨rfl,h4,_,_,_,_,_,_,_,_,_,rfl⟩⟩
    simp only [List.mem_append,List.mem_singleton] at hx
    rcases hx with hx | rfl
    ·exact (hW3 x hx).elim .inl (fun h1=>.inr (by simp at h1; omega))
    ·exact .inr (by omega))
 | none hk hgl hn =>
  simp only [hgl,Option.isSome_none,Option.getD_none]
  obtain ⟨ga,gc,rfl⟩:=hg3.form
  obtain ⟨ma,mc,rfl⟩:=hm3.form
  obtain ⟨h1,h2,h3,h4⟩:=hn
  subst h1 h2 h3
  simp only [List.length_nil] at *
  have hk2:¬ key < 0:=by unfold isKey at hk; omega
  have hk3:¬ 4294967295 < key:=by unfold isKey at hk; omega
  all_goals (
   go_wp2_with (first
    | (go_at_call 7; refine (cNum _ _).mono ?_; rintro e w' ⟨rfl,hw⟩; obtain rfl:=hw.symm))
   have hE4:=edit_set (y0:=.int .i64 0) (y1:=.int .i64 old) (y2:=.bool had) (y3:=.slice ga 0 gc) (y4:=.slice ma 0 mc) b14
   have hT4:=edit_turned w3 w2.heap.size (.int .i64 0) (.int .i64 old) (.bool had) (.slice ga 0 gc) (.slice ma 0 mc)
   generalize hw4:(World.setCell (World.setCell (World.setCell (World.setCell (World.setCell w3 _ _) _ _) _ _) _ _) _ _)=w4 at hE4 hT4 ⊢
   clear hw4 q0 q1 q2 q3 q4 z4 k1 k2 k3 k4 zc zv
   have hb2:w2.heap.size∉F':=fun hm=>(hW3 _ hm).elim (fun h1=>by have:=HL.out _ h1; omega) (fun h1=>by simp at h1; omega)
   have hA4:At w4 p F' s':=PL.keep hA3 hT4 (by simp; exact hb2)
   have HB4:Hid (Bx w.heap.size w4 (rootO o) lv of key val true):=HB3.out.keep hT4 (by simp; omega)
   have hS2:w.heap.size+2∉F':=fun hm=>(hW3 _ hm).elim (fun h1=>by have:=HL.out _ h1; omega) (fun h1=>by simp at h1; omega)
   refine chg_r13 PL rfl rfl rfl rfl rfl (by first | rfl | (show Value.bool _=Value.bool true; simp [hk2,hk3])) hA4 hC3.pv HB4.out.be hE4 hS2 hb2 (by omega) (by omega) ?_
   intro a5 w5 hsz hdf hoff f8 f10 hA5 hT5 hE5
   have f9:a5.eval (.tmp 9)=pa (w.heap.size+1+1) 0:=hoff 9 (by decide)
   have hsz':a5.tmps.size=178:=hsz
   have hdf':a5.defers=[]:=hdf
   clear hsz hdf hoff
   obtain ⟨cc,hcc,hce⟩:=expand178 hsz' hdf'
   have g8:=(hce 8).trans f8
   have g9:=(hce 9).trans f9
   have g10:=(hce 10).trans f10
   clear f8 f9 f10 hce hsz' hdf'
   subst hcc
   simp only [lit178,g8,g9,g10]
   clear g8 g9 g10
   go_wp2
   have r0:w5.cell? ⟨w.heap.size+1+1,0,none⟩=some (.int .i64 0):=cell_at hE5 0
   have r1:w5.cell? ⟨w.heap.size+1+1,1,none⟩=some (.int .i64 old):=cell_at hE5 1
   have r2:w5.cell? ⟨w.heap.size+1+1,2,none⟩=some (.bool had):=cell_at hE5 2
   have r3:w5.cell? ⟨w.heap.size+1+1,3,none⟩=some (.slice ga 0 gc):=cell_at hE5 3
   have r4:w5.cell? ⟨w.heap.size+1+1,4,none⟩=some (.slice ma 0 mc):=cell_at hE5 4
   refine ⟨rfl,.tuple #[.pointer none,.agg #[.int .i64 0,.int .i64 old,.bool had,.slice ga 0 gc,.slice ma 0 mc],.bool true],?_,?_⟩
   ·unfold results pa
    go_simp
   ·refine ⟨_,_,s',F',St',it',rfl,(((HT2.out.alloc _).trans ht3).inner hT4 (by simp; omega)).inner hT5 (fun x hx=>?_),hA5,fun x hx=>(hW3 x hx).imp id (fun h1=>by simp at h1; omega),htF3,hC3,.inl ⟨rfl,h4,_,_,_,_,_,_,_,_,_,rfl⟩⟩
    simp only [List.mem_append,List.mem_singleton] at hx
    rcases hx with hx | rfl
    ·exact (hW3 x hx).elim .inl (fun h1=>.inr (by simp at h1; omega))
    ·exact .inr (by omega))
 | full hk hsm hn =>
  obtain ⟨yy,hgl⟩:=Option.isSome_iff_exists.1 hsm
  clear hsm
  simp only [hgl,Option.isSome_some,Option.getD_some]
  obtain ⟨ga,gc,rfl⟩:=hg3.form
  obtain ⟨ma,mc,rfl⟩:=hm3.form
  obtain ⟨h1,h2,h3,h4⟩:=hn
  subst h1 h2 h3
  simp only [List.length_nil] at *
  have hk2:¬ key < 0:=by unfold isKey at hk; omega
  have hk3:¬ 4294967295 < key:=by unfold isKey at hk; omega
  all_goals (
   go_wp2_with (first
    | (go_at_call 7; refine (cNum _ _).mono ?_; rintro e w' ⟨rfl,hw⟩; obtain rfl:=hw.symm))
   have hE4:=edit_set (y0:=.int .i64 0) (y1:=.int .i64 old) (y2:=.bool had) (y3:=.slice ga 0 gc) (y4:=.slice ma 0 mc) b14
   have hT4:=edit_turned w3 w2.heap.size (.int .i64 0) (.int .i64 old) (.bool had) (.slice ga 0 gc) (.slice ma 0 mc)
   generalize hw4:(World.setCell (World.setCell (World.setCell (World.setCell (World.setCell w3 _ _) _ _) _ _) _ _) _ _)=w4 at hE4 hT4 ⊢
   clear hw4 q0 q1 q2 q3 q4 z4 k1 k2 k3 k4 zc zv
   have hb2:w2.heap.size∉F':=fun hm=>(hW3 _ hm).elim (fun h1=>by have:=HL.out _ h1; omega) (fun h1=>by simp at h1; omega)
   have hA4:At w4 p F' s':=PL.keep hA3 hT4 (by simp; exact hb2)
   have HB4:Hid (Bx w.heap.size w4 (rootO o) lv of key val true):=HB3.out.keep hT4 (by simp; omega)
   have hS2:w.heap.size+2∉F':=fun hm=>(hW3 _ hm).elim (fun h1=>by have:=HL.out _ h1; omega) (fun h1=>by simp at h1; omega)
   refine chg_r13 PL rfl rfl rfl rfl rfl (by first | rfl | (show Value.bool _=Value.bool true; simp [hk2,hk3])) hA4 hC3.pv HB4.out.be hE4 hS2 hb2 (by omega) (by omega) ?_
   intro a5 w5 hsz hdf hoff f8 f10 hA5 hT5 hE5
   have f9:a5.eval (.tmp 9)=pa (w.heap.size+1+1) 0:=hoff 9 (by decide)
   have hsz':a5.tmps.size=178:=hsz
   have hdf':a5.defers=[]:=hdf
   clear hsz hdf hoff
   obtain ⟨cc,hcc,hce⟩:=expand178 hsz' hdf'
   have g8:=(hce 8).trans f8
   have g9:=(hce 9).trans f9
   have g10:=(hce 10).trans f10
   clear f8 f9 f10 hce hsz' hdf'
   subst hcc
   simp only [lit178,g8,g9,g10]
   clear g8 g9 g10
   go_wp2
   have r0:w5.cell? ⟨w.heap.size+1+1,0,none⟩=some (.int .i64 0):=cell_at hE5 0
   have r1:w5.cell? ⟨w.heap.size+1+1,1,none⟩=some (.int .i64 old):=cell_at hE5 1
   have r2:w5.cell? ⟨w.heap.size+1+1,2,none⟩=some (.bool had):=cell_at hE5 2
   have r3:w5.cell? ⟨w.heap.size+1+1,3,none⟩=some (.slice ga 0 gc):=cell_at hE5 3
   have r4:w5.cell? ⟨w.heap.size+1+1,4,none⟩=some (.slice ma 0 mc):=cell_at hE5 4
   refine ⟨rfl,.tuple #[.pointer none,.agg #[.int .i64 0,.int .i64 old,.bool had,.slice ga 0 gc,.slice ma 0 mc],.bool true],?_,?_⟩
   ·unfold results pa
    go_simp
   ·refine ⟨_,_,s',F',St',it',rfl,(((HT2.out.alloc _).trans ht3).inner hT4 (by simp; omega)).inner hT5 (fun x hx=>?_),hA5,fun x hx=>(hW3 x hx).imp id (fun h1=>by simp at h1; omega),htF3,hC3,.inl ⟨rfl,h4,_,_,_,_,_,_,_,_,_,rfl⟩⟩
    simp only [List.mem_append,List.mem_singleton] at hx
    rcases hx with hx | rfl
    ·exact (hW3 x hx).elim .inl (fun h1=>.inr (by simp at h1; omega))
    ·exact .inr (by omega))
 | done hk hsm hd hp hh ho =>
  obtain ⟨yy,hgl⟩:=Option.isSome_iff_exists.1 hsm
  clear hsm
  rw [hgl] at ho
  simp only [Option.getD_some] at ho
  subst hh ho
  simp only [hgl,Option.isSome_some,Option.getD_some]
  obtain ⟨ga,gc,rfl⟩:=hg3.form
  obtain ⟨ma,mc,rfl⟩:=hm3.form
  go_wp2_with (first
   | (go_at_call 7; refine (cNum _ _).mono ?_; rintro e w' ⟨rfl,hw⟩; obtain rfl:=hw.symm))
  have hE4:=edit_set (y0:=.int .i64 root) (y1:=.int .i64 (old)) (y2:=.bool true) (y3:=.slice ga gone.length gc) (y4:=.slice ma made.length mc) b14
  have hT4:=edit_turned w3 w2.heap.size (.int .i64 root) (.int .i64 (old)) (.bool true) (.slice ga gone.length gc) (.slice ma made.length mc)
  generalize hw4:(World.setCell (World.setCell (World.setCell (World.setCell (World.setCell w3 _ _) _ _) _ _) _ _) _ _)=w4 at hE4 hT4 ⊢
  clear hw4 q0 q1 q2 q3 q4 z4 k1 k2 k3 k4 zc zv
  have hb2:w2.heap.size∉F':=fun hm=>(hW3 _ hm).elim (fun h1=>by have:=HL.out _ h1; omega) (fun h1=>by simp at h1; omega)
  have hA4:At w4 p F' s':=PL.keep hA3 hT4 (by simp; exact hb2)
  have HB4:Hid (Bx w.heap.size w4 (rootO o) lv of key val true):=HB3.out.keep hT4 (by simp; omega)
  have HF4:=PL.free hA4 hC3.pv.ok hC3.pv.top hC3.pv.nodup hC3.pv.small
  have e0:w4.cell? ⟨w2.heap.size,0,none⟩=some (.int .i64 root):=cell_at hE4 0
  have e1:w4.cell? ⟨w2.heap.size,1,none⟩=some (.int .i64 (old)):=cell_at hE4 1
  have e2:w4.cell? ⟨w2.heap.size,2,none⟩=some (.bool true):=cell_at hE4 2
  have e3:w4.cell? ⟨w2.heap.size,3,none⟩=some (.slice ga gone.length gc):=cell_at hE4 3
  have e4:w4.cell? ⟨w2.heap.size,4,none⟩=some (.slice ma made.length mc):=cell_at hE4 4
  have k1:w4.cell? ⟨w.heap.size+1,1,none⟩=some (.int .i64 key):=cell_at HB4.out.bc 1
  have k2:w4.cell? ⟨w.heap.size+1,2,none⟩=some (.int .i64 val):=cell_at HB4.out.bc 2
  have k3:w4.cell? ⟨w.heap.size+1,3,none⟩=some (.bool true):=cell_at HB4.out.bc 3
  have k4:w4.cell? ⟨w.heap.size,1,none⟩=some lv:=cell_at HB4.out.bv 1
  have hroom:=hd.room
  have hr2:(St'.length:Int)=(St.length:Int) - (made.length:Int):=by omega
  have hn2:=hC3.pv.ok.n2
  have hst:St.length≤s.n:=nodup_len hV.nodup hV.small
  have hn3:=hV.ok.n2
  have hmo:=hd.most
  refine chg_r14d PL rfl rfl rfl rfl rfl rfl rfl hA4 hC3.pv HB4.out.bc hE4 (fun hm=>(hW3 _ hm).elim (fun h1=>by have:=HL.out _ h1; omega) (fun h1=>by simp at h1; omega)) hb2 hr2 (by omega) (by omega) (by omega) ?_
  intro a5 w5 hsz hdf hoff f156 hA5 hT5
  clear e0 e1 e2 e3 e4 k1 k2 k3 k4
  have f6:a5.eval (.tmp 6)=pa w.heap.size 0:=hoff 6 (by decide)
  have f7:a5.eval (.tmp 7)=pa (w.heap.size+1) 0:=hoff 7 (by decide)
  have f9:a5.eval (.tmp 9)=pa (w.heap.size+1+1) 0:=hoff 9 (by decide)
  have f14:a5.eval (.tmp 14)=pa w2.heap.size 0:=hoff 14 (by decide)
  have hsz':a5.tmps.size=178:=hsz
  have hdf':a5.defers=[]:=hdf
  clear hsz hdf hoff
  obtain ⟨cc,hcc,hce⟩:=expand178 hsz' hdf'
  have g6:=(hce 6).trans f6
  have g7:=(hce 7).trans f7
  have g9:=(hce 9).trans f9
  have g14:=(hce 14).trans f14
  have g156:=(hce 156).trans f156
  clear f6 f7 f9 f14 f156 hce hsz' hdf'
  subst hcc
  simp only [lit178,g6,g7,g9,g14,g156]
  clear g6 g7 g9 g14 g156
  have HB5:Hid (Bx w.heap.size w5 (rootO o) lv of key val true):=HB4.out.keep hT5 (fun x hx=>(hW3 x hx).elim (fun h1=>.inl (HL.out x h1)) (fun h1=>.inr (by simp at h1; omega)))
  have hE5:=hT5.heap hE4 hb2
  have hT25:Turned F w w5:=(((HT2.out.alloc _).trans ht3).inner hT4 (by simp; omega)).inner hT5 (fun x hx=>(hW3 x hx).elim .inl (fun h1=>.inr (by simp at h1; omega)))
  have hR5:PR B w5 lv (prs o):=hR.keep hT25 hRF
  go_wp2
  refine chg_r16 rfl rfl rfl rfl HB5.out.bv HB5.out.bc hE5 hR5 hlen ?_
  intro a6 w6 v6 nb hsz hdf hoff f20 hT6 hnb6 hR6 hnl
  have f6:a6.eval (.tmp 6)=pa w.heap.size 0:=hoff 6 (by decide)
  have f7:a6.eval (.tmp 7)=pa (w.heap.size+1) 0:=hoff 7 (by decide)
  have f9:a6.eval (.tmp 9)=pa (w.heap.size+1+1) 0:=hoff 9 (by decide)
  have f14:a6.eval (.tmp 14)=pa w2.heap.size 0:=hoff 14 (by decide)
  have hsz':a6.tmps.size=178:=hsz
  have hdf':a6.defers=[]:=hdf
  clear hsz hdf hoff
  obtain ⟨cd,hcc,hce⟩:=expand178 hsz' hdf'
  have g6:=(hce 6).trans f6
  have g7:=(hce 7).trans f7
  have g9:=(hce 9).trans f9
  have g14:=(hce 14).trans f14
  have g20:=(hce 20).trans f20
  clear f6 f7 f9 f14 f20 hce hsz' hdf'
  subst hcc
  simp only [lit178,g6,g7,g9,g14,g20]
  clear g6 g7 g9 g14 g20
  have HB6:Hid (Bx w.heap.size w6 (rootO o) lv of key val true):=HB5.out.keep hT6 (by simp)
  have hE6:=hT6.heap hE5 (by simp)
  have k4:w6.cell? ⟨w.heap.size,1,none⟩=some lv:=cell_at HB6.out.bv 1
  have k1:w6.cell? ⟨w.heap.size+1,1,none⟩=some (.int .i64 key):=cell_at HB6.out.bc 1
  have k3:w6.cell? ⟨w.heap.size+1,3,none⟩=some (.bool true):=cell_at HB6.out.bc 3
  have HWo:=cWithout (hR5.keep hT6 (by simp)) hlen key
  have s5x:=hT25.size
  have l7:w2.heap.size < w6.heap.size:=lt_of_heap hE6
  have n7:¬ nb=w2.heap.size:=fun e=>by have:=lt_of_heap hE5; omega
  have n8:¬ nb=w.heap.size+2:=fun e=>by have:=lt_of_heap HB5.out.be; omega
  have n8':¬ nb=w.heap.size+1+1:=n8
  have n9:¬ nb=w.heap.size+1:=fun e=>by have:=lt_of_heap HB5.out.bc; omega
  have n10:¬ nb=w.heap.size:=fun e=>by have:=lt_of_heap HB5.out.bv; omega
  unfold pa
  go_wp2_with ((go_at_call 16; refine HWo.mono ?_; rintro e w7 ⟨v7,rfl,hR7,hT7⟩; obtain ⟨a7,c7,rfl⟩:=hR7.isSl; have hnb7:=hT7.heap hnb6 (by simp); have q1:w7.cell? ⟨nb,1,none⟩=some v6:=cell_at hnb7 1; have zq:=froz_at hnb7))
  have hT8:Turned [nb] w7 (w7.setCell ⟨nb,1,none⟩ (.slice a7 (delL (prs o) key).length c7)):=(Turned.refl _ _).set (.inl (by simp)) _ _
  have hnb8:(w7.setCell ⟨nb,1,none⟩ (.slice a7 (delL (prs o) key).length c7)).heap[nb]?=some (verObj root (.slice a7 (delL (prs o) key).length c7)):=by rw [blk_set hnb7 1 _]; rfl
  generalize hw8:World.setCell w7 _ _=w8 at hT8 hnb8 ⊢
  clear hw8
  have HB8:Hid (Bx w.heap.size w8 (rootO o) lv of key val true):=(HB6.out.keep hT7 (by simp)).keep hT8 (by simp; omega)
  have hE8:=hT8.heap (hT7.heap hE6 (by simp)) (by simp; omega)
  have hR8:PR w6.heap.size w8 (.slice a7 (delL (prs o) key).length c7) (delL (prs o) key):=hR7.keep hT8 fun g hg=>by
   obtain ⟨cs,hc⟩:=ownPair hR7 hg
   simp only [List.mem_singleton]
   exact type_ne hc hnb7 (by decide)
  have hT58:Turned [] w5 w8:=(hT6.trans hT7).inner hT8 (by simp; omega)
  have e0:w8.cell? ⟨w2.heap.size,0,none⟩=some (.int .i64 root):=cell_at hE8 0
  have e1:w8.cell? ⟨w2.heap.size,1,none⟩=some (.int .i64 (old)):=cell_at hE8 1
  have e2:w8.cell? ⟨w2.heap.size,2,none⟩=some (.bool true):=cell_at hE8 2
  have e3:w8.cell? ⟨w2.heap.size,3,none⟩=some (.slice ga gone.length gc):=cell_at hE8 3
  have e4:w8.cell? ⟨w2.heap.size,4,none⟩=some (.slice ma made.length mc):=cell_at hE8 4
  have d0:w8.cell? ⟨w.heap.size+1+1,0,none⟩=some (.int .i64 0):=cell_at HB8.out.be 0
  have d1:w8.cell? ⟨w.heap.size+1+1,1,none⟩=some (.int .i64 0):=cell_at HB8.out.be 1
  have d2:w8.cell? ⟨w.heap.size+1+1,2,none⟩=some (.bool false):=cell_at HB8.out.be 2
  have d3:w8.cell? ⟨w.heap.size+1+1,3,none⟩=some (.slice none 0 0):=cell_at HB8.out.be 3
  have d4:w8.cell? ⟨w.heap.size+1+1,4,none⟩=some (.slice none 0 0):=cell_at HB8.out.be 4
  have ze:=froz_at HB8.out.be
  go_wp2
  go_region
  go_wp2
  have hE9:=edit_set (y0:=.int .i64 root) (y1:=.int .i64 (old)) (y2:=.bool true) (y3:=.slice ga gone.length gc) (y4:=.slice ma made.length mc) HB8.out.be
  have hT9:=edit_turned w8 (w.heap.size+2) (.int .i64 root) (.int .i64 (old)) (.bool true) (.slice ga gone.length gc) (.slice ma made.length mc)
  generalize hw9:(World.setCell (World.setCell (World.setCell (World.setCell (World.setCell w8 _ _) _ _) _ _) _ _) _ _)=w9 at hE9 hT9 ⊢
  clear hw9
  have r0:w9.cell? ⟨w.heap.size+1+1,0,none⟩=some (.int .i64 root):=cell_at hE9 0
  have r1:w9.cell? ⟨w.heap.size+1+1,1,none⟩=some (.int .i64 (old)):=cell_at hE9 1
  have r2:w9.cell? ⟨w.heap.size+1+1,2,none⟩=some (.bool true):=cell_at hE9 2
  have r3:w9.cell? ⟨w.heap.size+1+1,3,none⟩=some (.slice ga gone.length gc):=cell_at hE9 3
  have r4:w9.cell? ⟨w.heap.size+1+1,4,none⟩=some (.slice ma made.length mc):=cell_at hE9 4
  refine ⟨rfl,.tuple #[pa nb 0,.agg #[.int .i64 root,.int .i64 (old),.bool true,.slice ga gone.length gc,.slice ma made.length mc],.bool true],?_,?_⟩
  ·unfold results pa
   go_simp
  ·have s5:=hT25.size
   have s6:=hT6.size
   have s58:=hT58.size
   have hS2:w.heap.size+2∉F':=fun hm=>(hW3 _ hm).elim (fun h1=>by have:=HL.out _ h1; omega) (fun h1=>by simp at h1; omega)
   have l5:=PL.lt hA5
   have gb:∀ g,(Value.slice ga gone.length gc).ownBlock=some g→w2.heap.size+1≤g:=fun g hg=>by have:=(hg3.fresh hg).1; simp at this; omega
   have mb:∀ g,(Value.slice ma made.length mc).ownBlock=some g→w2.heap.size+1≤g:=fun g hg=>by have:=(hm3.fresh hg).1; simp at this; omega
   have s3:=ht3.size
   have s4:=hT4.size
   have s45:=hT5.size
   simp at s3
   refine ⟨pa nb 0,_,s',F',St',it',rfl,((hT25.trans (hT58.mono (by simp))).inner hT9 (fun x hx=>.inr (by simp at hx; omega))).drew,PL.keep (PL.keep (PL.keep hA5 hT58 (by simp)) hT9 (by simpa using hS2)) (Turned.refl [] _).drew (by simp),fun x hx=>(hW3 x hx).imp id (fun h1=>by simp at h1; omega),htF3,hC3,.inr ⟨nb,root,_,_,_,_,gone,made,o',_,rfl,rfl,hT9.heap hnb8 (by simp; omega),by omega,fun hm=>by have:=l5 _ hm; omega,?_,fun g hg hm=>by have:=(hR8.fresh hg).1; have:=l5 _ hm; omega,?_,hgF,hd,hp,?_,hmF,_,_,_,rfl⟩⟩
   ·rw [hp]
    exact ((hR8.keep hT9 fun g hg=>by have:=(hR8.fresh hg).1; simp; omega).lower (by omega)).keep (F:=[]) (Turned.refl [] _).drew (by simp)
   ·exact (((((hg3.keep hT4 fun g hg=>by have:=gb g hg; simp; omega).keep hT5 hgF).keep hT58 (by simp)).keep hT9 fun g hg=>by have:=gb g hg; simp; omega).lower (by simp; omega)).keep (F:=[]) (Turned.refl [] _).drew (by simp)
   ·exact (((((hm3.keep hT4 fun g hg=>by have:=mb g hg; simp; omega).keep hT5 hmF).keep hT58 (by simp)).keep hT9 fun g hg=>by have:=mb g hg; simp; omega).lower (by simp; omega)).keep (F:=[]) (Turned.refl [] _).drew (by simp)
end
end Go.Proofs.YtloljphbdfjgdaaGreatDoor
/- A frame, spelled out. -/
namespace Go.Proofs.YtloljphbdfjgdaaGreatDoor
open Go.RowKit
def lit299 (c:Nat→Value):Array Value:=#[c 0,c 1,c 2,c 3,c 4,c 5,c 6,c 7,c 8,c 9,c 10,c 11,c 12,c 13,c 14,c 15,c 16,c 17,c 18,c 19,c 20,c 21,c 22,c 23,c 24,c 25,c 26,c 27,c 28,c 29,c 30,c 31,c 32,c 33,c 34,c 35,c 36,c 37,c 38,c 39,c 40,c 41,c 42,c 43,c 44,c 45,c 46,c 47,c 48,c 49,c 50,c 51,c 52,c 53,c 54,c 55,c 56,c 57,c 58,c 59,c 60,c 61,c 62,c 63,c 64,c 65,c 66,c 67,c 68,c 69,c 70,c 71,c 72,c 73,c 74,c 75,c 76,c 77,c 78,c 79,c 80,c 81,c 82,c 83,c 84,c 85,c 86,c 87,c 88,c 89,c 90,c 91,c 92,c 93,c 94,c 95,c 96,c 97,c 98,c 99,c 100,c 101,c 102,c 103,c 104,c 105,c 106,c 107,c 108,c 109,c 110,c 111,c 112,c 113,c 114,c 115,c 116,c 117,c 118,c 119,c 120,c 121,c 122,c 123,c 124,c 125,c 126,c 127,c 128,c 129,c 130,c 131,c 132,c 133,c 134,c 135,c 136,c 137,c 138,c 139,c 140,c 141,c 142,c 143,c 144,c 145,c 146,c 147,c 148,c 149,c 150,c 151,c 152,c 153,c 154,c 155,c 156,c 157,c 158,c 159,c 160,c 161,c 162,c 163,c 164,c 165,c 166,c 167,c 168,c 169,c 170,c 171,c 172,c 173,c 174,c 175,c 176,c 177,c 178,c 179,c 180,c 181,c 182,c 183,c 184,c 185,c 186,c 187,c 188,c 189,c 190,c 191,c 192,c 193,c 194,c 195,c 196,c 197,c 198,c 199,c 200,c 201,c 202,c 203,c 204,c 205,c 206,c 207,c 208,c 209,c 210,c 211,c 212,c 213,c 214,c 215,c 216,c 217,c 218,c 219,c 220,c 221,c 222,c 223,c 224,c 225,c 226,c 227,c 228,c 229,c 230,c 231,c 232,c 233,c 234,c 235,c 236,c 237,c 238,c 239,c 240,c 241,c 242,c 243,c 244,c 245,c 246,c 247,c 248,c 249,c 250,c 251,c 252,c 253,c 254,c 255,c 256,c 257,c 258,c 259,c 260,c 261,c 262,c 263,c 264,c 265,c 266,c 267,c 268,c 269,c 270,c 271,c 272,c 273,c 274,c 275,c 276,c 277,c 278,c 279,c 280,c 281,c 282,c 283,c 284,c 285,c 286,c 287,c 288,c 289,c 290,c 291,c 292,c 293,c 294,c 295,c 296,c 297,c 298]
end Go.Proofs.YtloljphbdfjgdaaGreatDoor
/- Drawn regions of the statements' 'tells'. (Written by tools/gen/gentells.py.) -/
namespace Go.Proofs.YtloljphbdfjgdaaGreatDoor
open Go.RowKit
structure TW (At:World→Nat→List Nat→PSt→Prop) (Tb:World→Nat→Nat→Prop) (W:World) (S p tb:Nat) (F:List Nat) (s:PSt) (tr:Option Tr) (lg lc:Nat) (x:World):Prop where
 at_:At x p F s
 tb_:Tb x tb p
 ntb:tb∉F
 box:x.heap[S]?=some (verObj (rootO tr) (.slice (some ⟨lg,0,none⟩) (prs tr).length lc))
 nS:S∉F
 row:PR 0 x (.slice (some ⟨lg,0,none⟩) (prs tr).length lc) (prs tr)
 nl:lg∉F
 turned:Turned F W x
section
variable {At:World→Nat→List Nat→PSt→Prop} {Tb:World→Nat→Nat→Prop} (PL:PoolLaws At) (TL:TrieLaws At Tb) {K:Act→World→Prop} {Q:Exit→Act→World→Prop} {a0:Act} {W w x y:World} {S p tb lg lc i:Nat} {F:List Nat} {s:PSt} {tr:Option Tr} {k v:Int}
include PL TL
omit PL in
theorem TW.step (h:TW At Tb W S p tb F s tr lg lc x) (ht:Turned F x y) (hA:At y p F s):TW At Tb W S p tb F s tr lg lc y :=
 ⟨hA,TL.keepT h.tb_ ht h.ntb (TL.outT h.tb_ h.at_),h.ntb,ht.heap h.box h.nS,h.nS,h.row.keep ht (fun g hg=>by simp only [Value.ownBlock,Option.some.injEq] at hg; subst hg; exact h.nl),h.nl,h.turned.trans ht⟩
theorem TW.fresh (h:TW At Tb W S p tb F s tr lg lc x) (ht:Turned [] x y):TW At Tb W S p tb F s tr lg lc y:=h.step TL (ht.mono (by simp)) (PL.keep h.at_ ht (by simp))
omit PL TL in
theorem TW.cells (h:TW At Tb W S p tb F s tr lg lc x) (hi:i < (prs tr).length):x.cell? ⟨lg,i * 2,none⟩=some (.int .i64 (prs tr)[i].1)∧x.cell? ⟨lg,i * 2+1,none⟩=some (.int .i64 (prs tr)[i].2):=by
 rcases h.row.form with ⟨e,_⟩ | ⟨g,c,cs,e,_,_,_,_,hc⟩
 ·cases e
 ·cases e; exact hc i hi
omit PL TL in
def telV11 (tb S lg lc i:Nat) (tr:Option Tr) (k v:Int):Nat→Value:=fun j=>match j with | 0=>(pt tb) | 1=>(pa S 0) | 2=>(Value.int IntKind.i64 (rootO tr)) | 3=>(Value.slice (some ⟨lg,0,none⟩) (prs tr).length lc) | 4=>(Value.int IntKind.i64 i) | 5=>(pa lg (i * 2)) | 6=>(pa lg (i * 2)) | 7=>(Value.int IntKind.i64 k) | 8=>(Value.tuple #[.int .i64 v,.bool true,.int .i64 0]) | 9=>(Value.tuple #[.int .i64 v,.bool true,.int .i64 0]) | 10=>(Value.int IntKind.i64 v) | 11=>(Value.bool true) | 12=>(Value.int IntKind.i64 0) | 13=>(Value.int IntKind.i64 v) | 14=>(Value.bool true) | 15=>(Value.int IntKind.i64 0) | _=>undef
def telV12 (tb S lg lc i:Nat) (tr:Option Tr) (k:Int):Nat→Value:=fun j=>match j with | 0=>(pt tb) | 1=>(pa S 0) | 2=>(Value.int IntKind.i64 (rootO tr)) | 3=>(Value.slice (some ⟨lg,0,none⟩) (prs tr).length lc) | 4=>(Value.int IntKind.i64 i) | 5=>(pa lg (i * 2)) | 6=>(pa lg (i * 2)) | 7=>(Value.int IntKind.i64 k) | 8=>(Value.tuple #[.int .i64 i,.int .i64 0]) | 9=>(Value.tuple #[.int .i64 i,.int .i64 0]) | 10=>(Value.int IntKind.i64 i) | 11=>(Value.int IntKind.i64 0) | 12=>(Value.int IntKind.i64 i) | 13=>(Value.int IntKind.i64 0) | _=>undef
end
end Go.Proofs.YtloljphbdfjgdaaGreatDoor
/- A drawn region of the statements' 'tells': the next pair. (Written by tools/gen/gentells14.py.) -/
namespace Go.Proofs.YtloljphbdfjgdaaGreatDoor
open Go.RowKit
structure G14 where
 ca:Bool
 nb:Option Nat
 st:Bool
def done14 (g:G14):Nat→Bool
 | 8=>g.ca
 | 12=>g.nb.isSome
 | 13=>g.st
 | _=>false
def pairObj (u v:Int):Obj:=.cells #[.int .i64 u,.int .i64 v] 60 (0,0)
structure S14 (At:World→Nat→List Nat→PSt→Prop) (Tb:World→Nat→Nat→Prop) (W:World) (S p tb:Nat) (F:List Nat) (s:PSt) (tr:Option Tr) (lg lc B:Nat) (u1 u2:Int) (g:G14) (x:World):Prop where
 tw:TW At Tb W S p tb F s tr lg lc x
 size:B≤x.heap.size
 nb:∀ nb,g.nb=some nb→B≤nb∧x.heap[nb]?=some (if g.st=true then pairObj u1 u2 else pairObj 0 0)
section
variable {At:World→Nat→List Nat→PSt→Prop} {Tb:World→Nat→Nat→Prop} (PL:PoolLaws At) (TL:TrieLaws At Tb) {K:Act→World→Prop} {Q:Exit→Act→World→Prop} {a0:Act} {W w x y:World} {S p tb lg lc i B nb:Nat} {F:List Nat} {s:PSt} {tr:Option Tr} {k u1 u2 er:Int}
include PL TL
theorem TW.other (h:TW At Tb W S p tb F s tr lg lc x) (ht:Turned [nb] x y) (hb:B≤nb) (hF:∀ z,z∈F→z < B) (hW:W.heap.size≤B) (hlt:tb < B∧S < B∧lg < B):TW At Tb W S p tb F s tr lg lc y :=
 ⟨PL.keep h.at_ ht (by simp; exact fun hm=>by have:=hF nb hm; omega),TL.keepT h.tb_ ht (by simp; omega) (by have:=TL.ltT h.tb_; simp; omega),h.ntb,ht.heap h.box (by simp; omega),h.nS,h.row.keep ht (fun g hg=>by simp only [Value.ownBlock,Option.some.injEq] at hg; simp; omega),h.nl,h.turned.inner ht (by simp; omega)⟩
def telV14 (tb S lg lc i:Nat) (tr:Option Tr) (k u1 u2 er:Int) (g:G14):Nat→Value:=fun j=>match j with | 0=>(pt tb) | 1=>(pa S 0) | 2=>(Value.int IntKind.i64 (rootO tr)) | 3=>(Value.slice (some ⟨lg,0,none⟩) (prs tr).length lc) | 4=>(Value.int IntKind.i64 i) | 5=>(pa lg (i * 2)) | 6=>(pa lg (i * 2)) | 7=>(Value.int IntKind.i64 k) | 8=>(Value.tuple #[.agg #[.int .i64 u1,.int .i64 u2],.int .i64 er]) | 9=>(Value.tuple #[.agg #[.int .i64 u1,.int .i64 u2],.int .i64 er]) | 10=>(Value.agg #[.int .i64 u1,.int .i64 u2]) | 11=>(Value.int IntKind.i64 er) | 12=>(pa (g.nb.getD 0) 0) | 13=>undef | 14=>(Value.int IntKind.i64 er) | _=>undef
end
end Go.Proofs.YtloljphbdfjgdaaGreatDoor
/- Drawn regions of the statements' 'tells' that only read. (Written by tools/gen/gentells15.py.) -/
namespace Go.Proofs.YtloljphbdfjgdaaGreatDoor
open Go.RowKit
section
variable {At:World→Nat→List Nat→PSt→Prop} {Tb:World→Nat→Nat→Prop} (PL:PoolLaws At) (TL:TrieLaws At Tb) {K:Act→World→Prop} {Q:Exit→Act→World→Prop} {a0:Act} {W w:World} {S p tb lg lc i b24 b26:Nat} {F:List Nat} {s:PSt} {tr:Option Tr} {k v u1 u2:Int}
include PL TL
def telr15V (lg lc i:Nat) (tr:Option Tr) (k v:Int):Nat→Value:=fun j=>match j with | 0=>(Value.bool true) | 1=>(Value.bool false) | 2=>(Value.bool false) | 3=>(Value.int IntKind.i64 v) | 4=>(Value.slice (some ⟨lg,0,none⟩) (prs tr).length lc) | 5=>(Value.int IntKind.i64 i) | 6=>(pa lg (i * 2)) | 7=>(pa lg (i * 2+1)) | 8=>(Value.int IntKind.i64 v) | 9=>(Value.bool false) | 10=>(Value.bool false) | 11=>(Value.bool false) | 12=>(Value.int IntKind.i64 0) | 13=>(Value.int IntKind.i64 0) | 14=>(Value.int IntKind.i64 0) | 15=>(Value.int IntKind.i64 0) | 16=>(Value.int IntKind.i64 0) | 17=>(Value.int IntKind.i64 0) | 18=>(Value.int IntKind.i64 0) | 19=>(Value.int IntKind.i64 0) | 20=>(Value.bool false) | 21=>(Value.bool false) | 22=>(Value.bool false) | 23=>(Value.int IntKind.i64 i) | 24=>(Value.int IntKind.i64 i) | 25=>(Value.bool false) | 26=>(Value.bool false) | 27=>(Value.bool false) | 28=>(Value.agg #[.int .i64 k,.int .i64 v]) | 29=>(Value.slice (some ⟨lg,0,none⟩) (prs tr).length lc) | 30=>(Value.int IntKind.i64 i) | 31=>(pa lg (i * 2)) | 32=>(Value.agg #[.int .i64 k,.int .i64 v]) | 33=>(Value.bool false) | 34=>(Value.bool false) | _=>undef
def telr17aV (lg lc i:Nat) (tr:Option Tr) (u1 u2:Int):Nat→Value:=fun j=>match j with | 0=>(Value.int IntKind.i64 i) | 1=>(Value.int IntKind.i64 ((i:Int)+1)) | 2=>(Value.slice (some ⟨lg,0,none⟩) (prs tr).length lc) | 3=>(Value.int IntKind.i64 (prs tr).length) | 4=>(Value.bool true) | 5=>(Value.bool true) | 6=>(Value.int IntKind.i64 0) | 7=>(Value.int IntKind.i64 0) | 8=>(Value.bool false) | 9=>(Value.bool false) | 10=>(Value.agg #[.int .i64 u1,.int .i64 u2]) | 11=>(Value.slice (some ⟨lg,0,none⟩) (prs tr).length lc) | 12=>(Value.int IntKind.i64 i) | 13=>(Value.int IntKind.i64 ((i:Int)+1)) | 14=>(pa lg ((i+1) * 2)) | 15=>(Value.agg #[.int .i64 u1,.int .i64 u2]) | 16=>(Value.bool false) | 17=>(Value.bool false) | 18=>(Value.bool false) | 19=>(Value.bool false) | 20=>(Value.int IntKind.i64 i) | 21=>(Value.int IntKind.i64 ((i:Int)+1)) | 22=>(Value.slice (some ⟨lg,0,none⟩) (prs tr).length lc) | 23=>(Value.int IntKind.i64 (prs tr).length) | 24=>(Value.bool false) | 25=>(Value.bool false) | 26=>undef | 27=>undef | 28=>undef | 29=>(Value.bool false) | 30=>(Value.bool false) | _=>undef
def telr17bV (lg lc i:Nat) (tr:Option Tr):Nat→Value:=fun j=>match j with | 0=>(Value.int IntKind.i64 i) | 1=>(Value.int IntKind.i64 ((i:Int)+1)) | 2=>(Value.slice (some ⟨lg,0,none⟩) (prs tr).length lc) | 3=>(Value.int IntKind.i64 (prs tr).length) | 4=>(Value.bool false) | 5=>(Value.bool false) | 6=>undef | 7=>undef | 8=>undef | 9=>undef | 10=>undef | 11=>undef | 12=>undef | 13=>undef | 14=>undef | 15=>undef | 16=>undef | 17=>undef | 18=>(Value.bool false) | 19=>(Value.bool false) | 20=>(Value.int IntKind.i64 i) | 21=>(Value.int IntKind.i64 ((i:Int)+1)) | 22=>(Value.slice (some ⟨lg,0,none⟩) (prs tr).length lc) | 23=>(Value.int IntKind.i64 (prs tr).length) | 24=>(Value.bool true) | 25=>(Value.bool true) | 26=>(Value.int IntKind.i64 122) | 27=>(Value.int IntKind.i64 122) | 28=>(Value.bool false) | 29=>(Value.bool false) | 30=>(Value.bool false) | _=>undef
end
end Go.Proofs.YtloljphbdfjgdaaGreatDoor
/- Two lists of pairs that are alike. -/
namespace Go.Proofs.YtloljphbdfjgdaaGreatDoor
open Go.RowKit
section
variable {B B':Nat} {w:World} {v v':Value} {l:List (Int × Int)}
set_option maxRecDepth 100000 in
set_option maxHeartbeats 1600000 in
theorem cPairs (h:PR B w v l) (h':PR B' w v' l) (hl:l.length≤1000000):Calls Tryz.prog 18 #[v,v'] w fun e w'=>e=.returned (.bool true)∧Turned [] w w':=by
 have H0:Hid (Turned [] w w):=Turned.refl _ _
 rcases h.form with ⟨rfl,rfl⟩ | ⟨g,c,cs,rfl,hb,hg,hh,hc,hcell⟩
 ·have hlen:∃ a c,v'=.slice a 0 c:=by
   rcases h'.form with ⟨rfl,_⟩ | ⟨g,c,cs,rfl,_⟩
   ·exact ⟨_,_,rfl⟩
   ·exact ⟨_,_,rfl⟩
  obtain ⟨a,c,rfl⟩:=hlen
  clear h h'
  go_enter Tryz.func18,Tryz.ntmps18
  go_wp2
  go_loopw [5] (fun i wx=>i=.int .i64 0∧Hid (Turned [] w wx)) (fun _ _=>0)
  case atStart=>exact ⟨rfl,H0⟩
  case round =>
   obtain ⟨rfl,HT⟩:=hrel
   go_wp2
   go_ret
   exact ⟨rfl,HT.out⟩
 ·rcases h'.form with ⟨rfl,rfl⟩ | ⟨g',c',cs',rfl,hb',hg',hh',hc',hcell'⟩
  ·clear h h'
   go_enter Tryz.func18,Tryz.ntmps18
   go_wp2
   go_loopw [5] (fun i wx=>i=.int .i64 0∧Hid (Turned [] w wx)) (fun _ _=>0)
   case atStart=>exact ⟨rfl,H0⟩
   case round =>
    obtain ⟨rfl,HT⟩:=hrel
    go_wp2
    go_ret
    exact ⟨rfl,HT.out⟩
  ·have HC:Hid _:=hcell
   have HH:Hid _:=hh
   have HC':Hid _:=hcell'
   have HH':Hid _:=hh'
   clear hcell hh h hcell' hh' h'
   go_enter Tryz.func18,Tryz.ntmps18
   go_wp2
   go_loopw [5] (fun i wx=>∃ t:Nat,t≤l.length∧i=.int .i64 t∧Hid (Turned [] w wx)) (fun i _=>l.length - (intOf i).toNat)
   case atStart=>exact ⟨0,Nat.zero_le _,rfl,H0⟩
   case round =>
    obtain ⟨t,ht,rfl,HT⟩:=hrel
    by_cases hlt:t < l.length
    ·have hlt2:(t:Int) < (l.length:Int):=by omega
     have q0:wr.cell? ⟨g,t * 2,none⟩=some (.int .i64 l[t].1):=HT.out.cell (HC.out t hlt).1 (by simp)
     have q1:wr.cell? ⟨g,t * 2+1,none⟩=some (.int .i64 l[t].2):=HT.out.cell (HC.out t hlt).2 (by simp)
     have r0:wr.cell? ⟨g',t * 2,none⟩=some (.int .i64 l[t].1):=HT.out.cell (HC'.out t hlt).1 (by simp)
     have r1:wr.cell? ⟨g',t * 2+1,none⟩=some (.int .i64 l[t].2):=HT.out.cell (HC'.out t hlt).2 (by simp)
     generalize l[t].1=x at q0 r0
     generalize l[t].2=y at q1 r1
     go_wp2
     go_quiet (fail)
     go_wp2
     exact ⟨⟨t+1,by omega,by go_num,HT.out.drewN _⟩,by simp [intOf]; omega⟩
    ·have e:t=l.length:=by omega
     subst e
     go_wp2
     go_ret
     exact ⟨rfl,HT.out⟩
end
end Go.Proofs.YtloljphbdfjgdaaGreatDoor
/- A map tells what it must: the statements' 'tells', of a list that lies somewhere. -/
namespace Go.Proofs.YtloljphbdfjgdaaGreatDoor
open Go.RowKit
theorem TW.join {At:World→Nat→List Nat→PSt→Prop} {Tb:World→Nat→Nat→Prop} {W x y:World} {S p tb lg lc:Nat} {F:List Nat} {s:PSt} {tr:Option Tr} (h:TW At Tb W S p tb F s tr lg lc x) (k:TW At Tb x S p tb F s tr lg lc y):TW At Tb W S p tb F s tr lg lc y:=⟨k.at_,k.tb_,k.ntb,k.box,k.nS,k.row,k.nl,h.turned.trans k.turned⟩
structure TI (At:World→Nat→List Nat→PSt→Prop) (Tb:World→Nat→Nat→Prop) (W:World) (S p tb:Nat) (F:List Nat) (s:PSt) (tr:Option Tr) (lg lc B:Nat) (lo hi:Int) (i:Nat) (vs:Value) (a:Act) (x:World):Prop where
 size:a.tmps.size=299
 defers:a.defers=[]
 e0:a.eval (.tmp 0)=pt tb
 e2:a.eval (.tmp 2)=.int .i64 lo
 e3:a.eval (.tmp 3)=.int .i64 hi
 e5:a.eval (.tmp 5)=pa S 0
 e9:a.eval (.tmp 9)=.slice (some ⟨lg,0,none⟩) (prs tr).length lc
 e17:a.eval (.tmp 17)=vs
 e18:a.eval (.tmp 18)=.int .i64 i
 tw:TW At Tb W S p tb F s tr lg lc x
 row:PR B x vs (midL ((prs tr).take i) lo hi)
 base:B≤x.heap.size
structure TX (At:World→Nat→List Nat→PSt→Prop) (Tb:World→Nat→Nat→Prop) (W:World) (S p tb:Nat) (F:List Nat) (s:PSt) (tr:Option Tr) (lg lc B:Nat) (lo hi:Int) (a:Act) (x:World):Prop where
 ex:∃ i vs,i≤(prs tr).length∧TI At Tb W S p tb F s tr lg lc B lo hi i vs a x
section
variable {At:World→Nat→List Nat→PSt→Prop} {Tb:World→Nat→Nat→Prop} (PL:PoolLaws At) (TL:TrieLaws At Tb) {w:World} {p tb lg lc B:Nat} {F:List Nat} {s:PSt} {tr:Option Tr}
include PL TL
end
end Go.Proofs.YtloljphbdfjgdaaGreatDoor
/- A map tells what it must: the statements' 'tells', of the empty map. -/
namespace Go.Proofs.YtloljphbdfjgdaaGreatDoor
open Go.RowKit
structure TZ (At:World→Nat→List Nat→PSt→Prop) (Tb:World→Nat→Nat→Prop) (W:World) (S p tb:Nat) (F:List Nat) (s:PSt) (la:Option Addr) (lc:Nat) (x:World):Prop where
 at_:At x p F s
 tb_:Tb x tb p
 ntb:tb∉F
 box:x.heap[S]?=some (verObj 0 (.slice la 0 lc))
 nS:S∉F
 row:PR 0 x (.slice la 0 lc) []
 nl:∀ g,(Value.slice la 0 lc).ownBlock=some g→g∉F
 turned:Turned F W x
section
variable {At:World→Nat→List Nat→PSt→Prop} {Tb:World→Nat→Nat→Prop} (PL:PoolLaws At) (TL:TrieLaws At Tb) {W w x y:World} {S p tb lc B:Nat} {la:Option Addr} {F:List Nat} {s:PSt}
include PL TL
omit PL in
theorem TZ.step (h:TZ At Tb W S p tb F s la lc x) (ht:Turned F x y) (hA:At y p F s):TZ At Tb W S p tb F s la lc y :=
 ⟨hA,TL.keepT h.tb_ ht h.ntb (TL.outT h.tb_ h.at_),h.ntb,ht.heap h.box h.nS,h.nS,h.row.keep ht h.nl,h.nl,h.turned.trans ht⟩
theorem TZ.fresh (h:TZ At Tb W S p tb F s la lc x) (ht:Turned [] x y):TZ At Tb W S p tb F s la lc y:=h.step TL (ht.mono (by simp)) (PL.keep h.at_ ht (by simp))
end
end Go.Proofs.YtloljphbdfjgdaaGreatDoor
/- The statements' 'tells' of any map, and 'changed' of any change. -/
namespace Go.Proofs.YtloljphbdfjgdaaGreatDoor
open Go.RowKit
section
variable {At:World→Nat→List Nat→PSt→Prop} {Tb:World→Nat→Nat→Prop} (PL:PoolLaws At) (TL:TrieLaws At Tb) {w:World} {p tb B it:Nat} {F St:List Nat} {s:PSt} {tr:Option Tr} {lv:Value}
include PL TL
def chgL (l:List (Int × Int)) (key val:Int) (d:Bool):List (Int × Int):=if d then delL l key else insL l key val
theorem cChanged (hA:At w p F s) (hT:Tb w tb p) (htF:tb∉F) (hV:PV s St it) (hit:it≤900000000) (hO:Holds s tr) (hR:PR B w lv (prs tr)) (hRF:∀ g,lv.ownBlock=some g→g∉F) (hlen:(prs tr).length≤1000000) (of key val:Int) (d:Bool) :
  Calls Tryz.prog 9 #[pt p,pt tb,.agg #[.int .i64 (rootO tr),lv],.agg #[.int .i64 of,.int .i64 key,.int .i64 val,.bool d]] w (ChgPost At w p tb F s St it tr (chgL (prs tr) key val d)):=by
 cases d with
 | false=>exact cChangedPut PL TL hA hT htF hV hit hO hR hRF hlen of key val
 | true=>exact cChangedDrop PL TL hA hT htF hV hit hO hR hRF hlen of key val
end
end Go.Proofs.YtloljphbdfjgdaaGreatDoor
/- A long row of changes: what stands ahead of every change, and how a change keeps it. -/
namespace Go.Proofs.YtloljphbdfjgdaaGreatDoor
open Go.RowKit
structure LR (At:World→Nat→List Nat→PSt→Prop) (Tb:World→Nat→Nat→Prop) (n p tb i:Nat) (F:List Nat) (s:PSt) (St:List Nat) (it:Nat) (o:Option Tr) (lv:Value) (x:World):Prop where
 at_:At x p F s
 tb_:Tb x tb p
 ntb:tb∉F
 pv:PV s St it
 it_:it≤8300 * i
 hO:Holds s o
 row:PR 0 x lv (prs o)
 nl:∀ g,lv.ownBlock=some g→g∉F
 len:(prs o).length≤i
 room:St.length+(hsx o).length=n
 faults:s.faults=0
theorem Done.apart {s s':PSt} {St St':List Nat} {o o':Option Tr} {root:Int} {gone made:List Int} (hO:Holds s o) (hD:Done s s' St St' o o' root gone made):∀ h,h∈hsx o'→h∉gone:=by
 intro h h1 h2
 have hm:h∉made:=fun hm=>by
  obtain ⟨n,hn⟩:=hO.alive h (hD.of h h2)
  exact hD.fresh h hm n hn
 have hc:=hD.perm.count_eq h
 rw [List.count_append,List.count_append,List.count_eq_zero.2 hm] at hc
 have c1:=List.count_pos_iff.2 h1
 have c2:=List.count_pos_iff.2 h2
 have c3:=List.nodup_iff_count.1 hO.nodup h
 omega
theorem Done.len {s s':PSt} {St St':List Nat} {o o':Option Tr} {root:Int} {gone made:List Int} (hD:Done s s' St St' o o' root gone made):(prs o').length≤(prs o).length+1:=by
 have h1:=hD.perm.length_eq
 have h2:=hD.most.2
 have h3:=Holds.count o
 have h4:=Holds.count o'
 rw [List.length_append,List.length_append] at h1
 omega
section
variable {At:World→Nat→List Nat→PSt→Prop} {Tb:World→Nat→Nat→Prop} (TL:TrieLaws At Tb) {n p tb i it it':Nat} {F F' F'' St St' St'':List Nat} {s s' s'':PSt} {o o':Option Tr} {lv v:Value} {x y z:World} {root:Int} {gone made:List Int}
include TL
theorem LR.not (h:LR At Tb n p tb i F s St it o lv x) (ht:Turned F x y) (hA:At y p F' s') (hW:Wider F F' x) (htb:tb∉F') (hC:Chg s s' St' it it') (hS:St'.length=St.length):LR At Tb n p tb (i+1) F' s' St' it' o lv y :=
 ⟨hA,TL.keepT h.tb_ ht h.ntb (TL.outT h.tb_ h.at_),htb,hC.pv,by have:=hC.it; have:=h.it_; omega,h.hO.keep fun a b _ hc=>hC.ct a b hc,h.row.keep ht h.nl,fun g hg hm=>by
  rcases hW g hm with h1 | h1
  ·exact h.nl g hg h1
  ·have:=(h.row.fresh hg).2; omega,Nat.le_succ_of_le h.len,by rw [hS]; exact h.room,by rw [hC.faults]; exact h.faults⟩
theorem LR.done (hi:i≤4000) (h:LR At Tb n p tb i F s St it o lv x) (ht:Turned F x y) (hA1:At y p F' s') (htb:tb∉F') (hC:Chg s s' St' it it') (hD:Done s s' St St' o o' root gone made) (hR:PR x.heap.size y v (prs o')) (hRF:∀ g,v.ownBlock=some g→g∉F')
  (ht2:Turned F' y z) (hA2:At z p F'' s'') (hW2:Wider F' F'' y) (htb2:tb∉F'') (hV2:PV s'' St'' (it' + gone.length)) (hf2:s''.faults=s'.faults) (hS2:St''.length=St'.length+gone.length) (hk:∀ h x,Ct s' h x→h∉gone→Ct s'' h x):LR At Tb n p tb (i+1) F'' s'' St'' (it' + gone.length) o' v z:=by
 have hp:=hD.perm.length_eq
 rw [List.length_append,List.length_append] at hp
 have hr:=hD.room
 have hm:=hD.most
 have hl:=hD.len
 have hc:=Holds.count o
 have hg:gone.length≤(hsx o).length+made.length:=by omega
 refine ⟨hA2,TL.keepT (TL.keepT h.tb_ ht h.ntb (TL.outT h.tb_ h.at_)) ht2 htb (TL.outT (TL.keepT h.tb_ ht h.ntb (TL.outT h.tb_ h.at_)) hA1),htb2,hV2,?_,hD.holds.keep fun a b ha hb=>hk a b hb (hD.apart h.hO a ha),(hR.keep ht2 hRF).lower (Nat.zero_le _),fun g hg hm=>?_,by have:=h.len; omega,by have:=h.room; omega,by rw [hf2,hC.faults]; exact h.faults⟩
 ·have:=hC.it; have:=h.it_; have:=h.len; omega
 ·rcases hW2 g hm with h1 | h1
  ·exact hRF g hg h1
  ·have:=(hR.fresh hg).2; omega
omit TL in
end
end Go.Proofs.YtloljphbdfjgdaaGreatDoor

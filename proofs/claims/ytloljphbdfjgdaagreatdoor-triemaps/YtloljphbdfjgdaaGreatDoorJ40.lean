/- A change of a map, as the statements make it: it is dropped. -/
import Derived.Test.YtloljphbdfjgdaaGreatDoorJ39
import Derived.Test.YtloljphbdfjgdaaGreatDoorJ03
namespace Go.Proofs.YtloljphbdfjgdaaGreatDoor
open Go.RowKit
section
variable {At:World→Nat→List Nat→PSt→Prop} {Tb:World→Nat→Nat→Prop} (PL:PoolLaws At) (TL:TrieLaws At Tb) {w:World} {tb p:Nat} {F:List Nat} {s:PSt} {St:List Nat} {it B:Nat} {o:Option Tr} {lv:Value}
include PL TL
set_option maxRecDepth 100000 in
set_option maxHeartbeats 3200000 in
theorem cChangedDrop (hA:At w p F s) (hT:Tb w tb p) (htF:tb∉F) (hV:PV s St it) (hit:it≤900000000) (hO:Holds s o) (hR:PR B w lv (prs o)) (hRF:∀ g,lv.ownBlock=some g→g∉F) (hlen:(prs o).length≤1000000) (of key val:Int) :
  Calls Tryz.prog 9 #[pt p,pt tb,.agg #[.int .i64 (rootO o),lv],.agg #[.int .i64 of,.int .i64 key,.int .i64 val,.bool true]] w (ChgPost At w p tb F s St it o (delL (prs o) key)):=by
 have HF:Hid (∀ w1,Turned [] w w1→Calls Tryz.prog 29 #[pt p] w1 fun e w'=>(∃ a c,e=.returned (.slice a St.length c))∧Turned F w1 w'∧At w' p F s):=fun w1 h1=>PL.free (PL.keep hA h1 (by simp)) hV.ok hV.top hV.nodup hV.small
 have HV:Hid (∀ w1,Turned [] w w1→Calls Tryz.prog 15 #[lv,.int .i64 key] w1 fun e w'=>e=.returned (.tuple #[.int .i64 ((getL (prs o) key).getD 0),.bool (getL (prs o) key).isSome])∧Turned [] w1 w'):=fun w1 h1=>cValue (hR.keep h1 (by simp)) hlen key
 have HL:Hid (∀ x,x∈F→x < w.heap.size):=PL.lt hA
 have HP:Hid (∀ w1,At w1 p F s→Tb w1 tb p→_):=fun w1 a1 a2=>TL.drop (w:=w1) a1 a2 htF hV hit hO key
 go_enter Tryz.func9,Tryz.ntmps9
 go_wp2_with (first
  | (go_at_call 15; refine (HV.out _ ((((Turned.refl _ _).alloc _).alloc _).alloc _)).mono ?_; rintro e w1 ⟨rfl,ht1⟩; have hT1:Turned [] w w1:=((((Turned.refl _ _).alloc _).alloc _).alloc _).trans ht1; have hB1:Bx w.heap.size w1 (rootO o) lv of key val true:=Bx.keep (l:=[]) ⟨(al3 _ _ _ _).1,(al3 _ _ _ _).2.1,(al3 _ _ _ _).2.2⟩ ht1 (by simp); clear ht1; have k0:w1.cell? ⟨w.heap.size,0,none⟩=some (.int .i64 (rootO o)):=cell_at hB1.bv 0; have k1:w1.cell? ⟨w.heap.size+1,1,none⟩=some (.int .i64 key):=cell_at hB1.bc 1; have HT1:Hid _:=hT1; have HB1:Hid _:=hB1; clear hT1 hB1)
  | (go_at_call 29; refine (HF.out _ HT1.out).mono ?_; rintro e w2 ⟨⟨a2,c2,rfl⟩,ht2,hA2⟩; have HB2:Hid (Bx w.heap.size w2 (rootO o) lv of key val true):=HB1.out.keep ht2 (fun x hx=>.inl (HL.out x hx)); have HT2:Hid (Turned F w w2):=(HT1.out.mono (by simp)).trans ht2; have HA2:Hid _:=hA2; clear ht2 hA2 k0 k1; have k3:w2.cell? ⟨w.heap.size+1,3,none⟩=some (.bool true):=cell_at HB2.out.bc 3; have k0:w2.cell? ⟨w.heap.size,0,none⟩=some (.int .i64 (rootO o)):=cell_at HB2.out.bv 0; have k1:w2.cell? ⟨w.heap.size+1,1,none⟩=some (.int .i64 key):=cell_at HB2.out.bc 1; have k2:w2.cell? ⟨w.heap.size+1,2,none⟩=some (.int .i64 val):=cell_at HB2.out.bc 2; have l0:w.heap.size < w2.heap.size:=lt_of_heap HB2.out.bv; have l1:w.heap.size+1 < w2.heap.size:=lt_of_heap HB2.out.bc; have l2:w.heap.size+1+1 < w2.heap.size:=lt_of_heap HB2.out.be; have n0:¬ w.heap.size=w2.heap.size:=(by omega); have n1:¬ w.heap.size+1=w2.heap.size:=(by omega); have n2:¬ w.heap.size+1+1=w2.heap.size:=(by omega)))
 have HT2':Hid _:=HT2.out.alloc (.cells #[.int .i64 0,.int .i64 0,.bool false,.slice none 0 0,.slice none 0 0] 40)
 have HC2:=HP.out _ (PL.keep HA2.out ((Turned.refl [] _).alloc _) (by simp)) (TL.keepT hT HT2'.out htF (TL.outT hT hA))
 clear HP HT2' k0 k1 k2 k3
 refine HC2.mono ?_
 clear HC2
 rintro e w3 ⟨er,root,old,had,gv,mv,gone,made,s',F',St',it',o',rfl,ht3,hA3,hW3,htF3,hg3,hm3,hgF,hmF,hC3,hP3⟩
 have HB3:Hid (Bx w.heap.size w3 (rootO o) lv of key val true):=(HB2.out.keep ((Turned.refl [] _).alloc _) (by simp)).keep ht3 (fun x hx=>.inl (HL.out x hx))
 have b14:w3.heap[w2.heap.size]?=some (.cells #[.int .i64 0,.int .i64 0,.bool false,.slice none 0 0,.slice none 0 0] 40 (0,0)):=ht3.heap (blk_new _ _) (fun hm=>by have:=HL.out _ hm; omega)
 have q0:w3.cell? ⟨w2.heap.size,0,none⟩=some (.int .i64 0):=cell_at b14 0
 have q1:w3.cell? ⟨w2.heap.size,1,none⟩=some (.int .i64 0):=cell_at b14 1
 have q2:w3.cell? ⟨w2.heap.size,2,none⟩=some (.bool false):=cell_at b14 2
 have q3:w3.cell? ⟨w2.heap.size,3,none⟩=some (.slice none 0 0):=cell_at b14 3
 have q4:w3.cell? ⟨w2.heap.size,4,none⟩=some (.slice none 0 0):=cell_at b14 4
 have z4:=froz_at b14
 have m3:w2.heap.size < w3.heap.size:=lt_of_heap b14
 have k1:w3.cell? ⟨w.heap.size+1,1,none⟩=some (.int .i64 key):=cell_at HB3.out.bc 1
 have k2:w3.cell? ⟨w.heap.size+1,2,none⟩=some (.int .i64 val):=cell_at HB3.out.bc 2
 have k3:w3.cell? ⟨w.heap.size+1,3,none⟩=some (.bool true):=cell_at HB3.out.bc 3
 have k4:w3.cell? ⟨w.heap.size,1,none⟩=some lv:=cell_at HB3.out.bv 1
 have zc:=froz_at HB3.out.bc
 have zv:=froz_at HB3.out.bv
 have n0':¬ w2.heap.size=w.heap.size:=by omega
 have n1':¬ w2.heap.size=w.heap.size+1:=by omega
 have n2':¬ w2.heap.size=w.heap.size+1+1:=by omega
 cases hP3 with
 | bad hk hn =>
  obtain ⟨ga,gc,rfl⟩:=hg3.form
  obtain ⟨ma,mc,rfl⟩:=hm3.form
  obtain ⟨h1,h2,h3,h4⟩:=hn
  subst h1 h2 h3
  simp only [List.length_nil] at *
  rcases hgl:getL (prs o) key with _ | yy
  all_goals simp only [Option.isSome_none,Option.isSome_some,Option.getD_none,Option.getD_some]
  all_goals have hk2:key < 0∨(¬ key < 0∧4294967295 < key):=by unfold isKey at hk; omega
  all_goals rcases hk2 with hk2 | ⟨hk2,hk3⟩
  all_goals (
   go_wp2_with (first
    | (go_at_call 7; refine (cNum _ _).mono ?_; rintro e w' ⟨rfl,hw⟩; obtain rfl:=hw.symm))
   have hE4:=edit_set (y0:=.int .i64 0) (y1:=.int .i64 old) (y2:=.bool had) (y3:=.slice ga 0 gc) (y4:=.slice ma 0 mc) b14
   have hT4:=edit_turned w3 w2.heap.size (.int .i64 0) (.int .i64 old) (.bool had) (.slice ga 0 gc) (.slice ma 0 mc)
   generalize hw4:(World.setCell (World.setCell (World.setCell (World.setCell (World.setCell w3 _ _) _ _) _ _) _ _) _ _)=w4 at hE4 hT4 ⊢
   clear hw4 q0 q1 q2 q3 q4 z4 k1 k2 k3 k4 zc zv
   have hb2:w2.heap.size∉F':=fun hm=>(hW3 _ hm).elim (fun h1=>by have:=HL.out _ h1; omega) (fun h1=>by simp at h1; omega)
   have hA4:At w4 p F' s':=PL.keep hA3 hT4 (by simp; exact hb2)
   have HB4:Hid (Bx w.heap.size w4 (rootO o) lv of key val true):=HB3.out.keep hT4 (by simp; omega)
   have hS2:w.heap.size+2∉F':=fun hm=>(hW3 _ hm).elim (fun h1=>by have:=HL.out _ h1; omega) (fun h1=>by simp at h1; omega)
   refine chg_r13 PL rfl rfl rfl rfl rfl (by first | rfl | (show Value.bool _=Value.bool true; simp [hk2,hk3])) hA4 hC3.pv HB4.out.be hE4 hS2 hb2 (by omega) (by omega) ?_
   intro a5 w5 hsz hdf hoff f8 f10 hA5 hT5 hE5
   have f9:a5.eval (.tmp 9)=pa (w.heap.size+1+1) 0:=hoff 9 (by decide)
   have hsz':a5.tmps.size=178:=hsz
   have hdf':a5.defers=[]:=hdf
   clear hsz hdf hoff
   obtain ⟨cc,hcc,hce⟩:=expand178 hsz' hdf'
   have g8:=(hce 8).trans f8
   have g9:=(hce 9).trans f9
   have g10:=(hce 10).trans f10
   clear f8 f9 f10 hce hsz' hdf'
   subst hcc
   simp only [lit178,g8,g9,g10]
   clear g8 g9 g10
   go_wp2
   have r0:w5.cell? ⟨w.heap.size+1+1,0,none⟩=some (.int .i64 0):=cell_at hE5 0
   have r1:w5.cell? ⟨w.heap.size+1+1,1,none⟩=some (.int .i64 old):=cell_at hE5 1
   have r2:w5.cell? ⟨w.heap.size+1+1,2,none⟩=some (.bool had):=cell_at hE5 2
   have r3:w5.cell? ⟨w.heap.size+1+1,3,none⟩=some (.slice ga 0 gc):=cell_at hE5 3
   have r4:w5.cell? ⟨w.heap.size+1+1,4,none⟩=some (.slice ma 0 mc):=cell_at hE5 4
   refine ⟨rfl,.tuple #[.pointer none,.agg #[.int .i64 0,.int .i64 old,.bool had,.slice ga 0 gc,.slice ma 0 mc],.bool true],?_,?_⟩
   ·unfold results pa
    go_simp
   ·refine ⟨_,_,s',F',St',it',rfl,(((HT2.out.alloc _).trans ht3).inner hT4 (by simp; omega)).inner hT5 (fun x hx=>?_),hA5,fun x hx=>(hW3 x hx).imp id (fun h1=>by simp at h1; omega),htF3,hC3,.inl ⟨rfl,h4,_,_,_,_,_,_,_,_,_,rfl⟩⟩
    simp only [List.mem_append,List.mem_singleton] at hx
    rcases hx with hx | rfl
    ·exact (hW3 x hx).elim .inl (fun h1=>.inr (by simp at h1; omega))
    ·exact .inr (by omega))
 | none hk hgl hn =>
  simp only [hgl,Option.isSome_none,Option.getD_none]
  obtain ⟨ga,gc,rfl⟩:=hg3.form
  obtain ⟨ma,mc,rfl⟩:=hm3.form
  obtain ⟨h1,h2,h3,h4⟩:=hn
  subst h1 h2 h3
  simp only [List.length_nil] at *
  have hk2:¬ key < 0:=by unfold isKey at hk; omega
  have hk3:¬ 4294967295 < key:=by unfold isKey at hk; omega
  all_goals (
   go_wp2_with (first
    | (go_at_call 7; refine (cNum _ _).mono ?_; rintro e w' ⟨rfl,hw⟩; obtain rfl:=hw.symm))
   have hE4:=edit_set (y0:=.int .i64 0) (y1:=.int .i64 old) (y2:=.bool had) (y3:=.slice ga 0 gc) (y4:=.slice ma 0 mc) b14
   have hT4:=edit_turned w3 w2.heap.size (.int .i64 0) (.int .i64 old) (.bool had) (.slice ga 0 gc) (.slice ma 0 mc)
   generalize hw4:(World.setCell (World.setCell (World.setCell (World.setCell (World.setCell w3 _ _) _ _) _ _) _ _) _ _)=w4 at hE4 hT4 ⊢
   clear hw4 q0 q1 q2 q3 q4 z4 k1 k2 k3 k4 zc zv
   have hb2:w2.heap.size∉F':=fun hm=>(hW3 _ hm).elim (fun h1=>by have:=HL.out _ h1; omega) (fun h1=>by simp at h1; omega)
   have hA4:At w4 p F' s':=PL.keep hA3 hT4 (by simp; exact hb2)
   have HB4:Hid (Bx w.heap.size w4 (rootO o) lv of key val true):=HB3.out.keep hT4 (by simp; omega)
   have hS2:w.heap.size+2∉F':=fun hm=>(hW3 _ hm).elim (fun h1=>by have:=HL.out _ h1; omega) (fun h1=>by simp at h1; omega)
   refine chg_r13 PL rfl rfl rfl rfl rfl (by first | rfl | (show Value.bool _=Value.bool true; simp [hk2,hk3])) hA4 hC3.pv HB4.out.be hE4 hS2 hb2 (by omega) (by omega) ?_
   intro a5 w5 hsz hdf hoff f8 f10 hA5 hT5 hE5
   have f9:a5.eval (.tmp 9)=pa (w.heap.size+1+1) 0:=hoff 9 (by decide)
   have hsz':a5.tmps.size=178:=hsz
   have hdf':a5.defers=[]:=hdf
   clear hsz hdf hoff
   obtain ⟨cc,hcc,hce⟩:=expand178 hsz' hdf'
   have g8:=(hce 8).trans f8
   have g9:=(hce 9).trans f9
   have g10:=(hce 10).trans f10
   clear f8 f9 f10 hce hsz' hdf'
   subst hcc
   simp only [lit178,g8,g9,g10]
   clear g8 g9 g10
   go_wp2
   have r0:w5.cell? ⟨w.heap.size+1+1,0,none⟩=some (.int .i64 0):=cell_at hE5 0
   have r1:w5.cell? ⟨w.heap.size+1+1,1,none⟩=some (.int .i64 old):=cell_at hE5 1
   have r2:w5.cell? ⟨w.heap.size+1+1,2,none⟩=some (.bool had):=cell_at hE5 2
   have r3:w5.cell? ⟨w.heap.size+1+1,3,none⟩=some (.slice ga 0 gc):=cell_at hE5 3
   have r4:w5.cell? ⟨w.heap.size+1+1,4,none⟩=some (.slice ma 0 mc):=cell_at hE5 4
   refine ⟨rfl,.tuple #[.pointer none,.agg #[.int .i64 0,.int .i64 old,.bool had,.slice ga 0 gc,.slice ma 0 mc],.bool true],?_,?_⟩
   ·unfold results pa
    go_simp
   ·refine ⟨_,_,s',F',St',it',rfl,(((HT2.out.alloc _).trans ht3).inner hT4 (by simp; omega)).inner hT5 (fun x hx=>?_),hA5,fun x hx=>(hW3 x hx).imp id (fun h1=>by simp at h1; omega),htF3,hC3,.inl ⟨rfl,h4,_,_,_,_,_,_,_,_,_,rfl⟩⟩
    simp only [List.mem_append,List.mem_singleton] at hx
    rcases hx with hx | rfl
    ·exact (hW3 x hx).elim .inl (fun h1=>.inr (by simp at h1; omega))
    ·exact .inr (by omega))
 | full hk hsm hn =>
  obtain ⟨yy,hgl⟩:=Option.isSome_iff_exists.1 hsm
  clear hsm
  simp only [hgl,Option.isSome_some,Option.getD_some]
  obtain ⟨ga,gc,rfl⟩:=hg3.form
  obtain ⟨ma,mc,rfl⟩:=hm3.form
  obtain ⟨h1,h2,h3,h4⟩:=hn
  subst h1 h2 h3
  simp only [List.length_nil] at *
  have hk2:¬ key < 0:=by unfold isKey at hk; omega
  have hk3:¬ 4294967295 < key:=by unfold isKey at hk; omega
  all_goals (
   go_wp2_with (first
    | (go_at_call 7; refine (cNum _ _).mono ?_; rintro e w' ⟨rfl,hw⟩; obtain rfl:=hw.symm))
   have hE4:=edit_set (y0:=.int .i64 0) (y1:=.int .i64 old) (y2:=.bool had) (y3:=.slice ga 0 gc) (y4:=.slice ma 0 mc) b14
   have hT4:=edit_turned w3 w2.heap.size (.int .i64 0) (.int .i64 old) (.bool had) (.slice ga 0 gc) (.slice ma 0 mc)
   generalize hw4:(World.setCell (World.setCell (World.setCell (World.setCell (World.setCell w3 _ _) _ _) _ _) _ _) _ _)=w4 at hE4 hT4 ⊢
   clear hw4 q0 q1 q2 q3 q4 z4 k1 k2 k3 k4 zc zv
   have hb2:w2.heap.size∉F':=fun hm=>(hW3 _ hm).elim (fun h1=>by have:=HL.out _ h1; omega) (fun h1=>by simp at h1; omega)
   have hA4:At w4 p F' s':=PL.keep hA3 hT4 (by simp; exact hb2)
   have HB4:Hid (Bx w.heap.size w4 (rootO o) lv of key val true):=HB3.out.keep hT4 (by simp; omega)
   have hS2:w.heap.size+2∉F':=fun hm=>(hW3 _ hm).elim (fun h1=>by have:=HL.out _ h1; omega) (fun h1=>by simp at h1; omega)
   refine chg_r13 PL rfl rfl rfl rfl rfl (by first | rfl | (show Value.bool _=Value.bool true; simp [hk2,hk3])) hA4 hC3.pv HB4.out.be hE4 hS2 hb2 (by omega) (by omega) ?_
   intro a5 w5 hsz hdf hoff f8 f10 hA5 hT5 hE5
   have f9:a5.eval (.tmp 9)=pa (w.heap.size+1+1) 0:=hoff 9 (by decide)
   have hsz':a5.tmps.size=178:=hsz
   have hdf':a5.defers=[]:=hdf
   clear hsz hdf hoff
   obtain ⟨cc,hcc,hce⟩:=expand178 hsz' hdf'
   have g8:=(hce 8).trans f8
   have g9:=(hce 9).trans f9
   have g10:=(hce 10).trans f10
   clear f8 f9 f10 hce hsz' hdf'
   subst hcc
   simp only [lit178,g8,g9,g10]
   clear g8 g9 g10
   go_wp2
   have r0:w5.cell? ⟨w.heap.size+1+1,0,none⟩=some (.int .i64 0):=cell_at hE5 0
   have r1:w5.cell? ⟨w.heap.size+1+1,1,none⟩=some (.int .i64 old):=cell_at hE5 1
   have r2:w5.cell? ⟨w.heap.size+1+1,2,none⟩=some (.bool had):=cell_at hE5 2
   have r3:w5.cell? ⟨w.heap.size+1+1,3,none⟩=some (.slice ga 0 gc):=cell_at hE5 3
   have r4:w5.cell? ⟨w.heap.size+1+1,4,none⟩=some (.slice ma 0 mc):=cell_at hE5 4
   refine ⟨rfl,.tuple #[.pointer none,.agg #[.int .i64 0,.int .i64 old,.bool had,.slice ga 0 gc,.slice ma 0 mc],.bool true],?_,?_⟩
   ·unfold results pa
    go_simp
   ·refine ⟨_,_,s',F',St',it',rfl,(((HT2.out.alloc _).trans ht3).inner hT4 (by simp; omega)).inner hT5 (fun x hx=>?_),hA5,fun x hx=>(hW3 x hx).imp id (fun h1=>by simp at h1; omega),htF3,hC3,.inl ⟨rfl,h4,_,_,_,_,_,_,_,_,_,rfl⟩⟩
    simp only [List.mem_append,List.mem_singleton] at hx
    rcases hx with hx | rfl
    ·exact (hW3 x hx).elim .inl (fun h1=>.inr (by simp at h1; omega))
    ·exact .inr (by omega))
 | done hk hsm hd hp hh ho =>
  obtain ⟨yy,hgl⟩:=Option.isSome_iff_exists.1 hsm
  clear hsm
  rw [hgl] at ho
  simp only [Option.getD_some] at ho
  subst hh ho
  simp only [hgl,Option.isSome_some,Option.getD_some]
  obtain ⟨ga,gc,rfl⟩:=hg3.form
  obtain ⟨ma,mc,rfl⟩:=hm3.form
  go_wp2_with (first
   | (go_at_call 7; refine (cNum _ _).mono ?_; rintro e w' ⟨rfl,hw⟩; obtain rfl:=hw.symm))
  have hE4:=edit_set (y0:=.int .i64 root) (y1:=.int .i64 (old)) (y2:=.bool true) (y3:=.slice ga gone.length gc) (y4:=.slice ma made.length mc) b14
  have hT4:=edit_turned w3 w2.heap.size (.int .i64 root) (.int .i64 (old)) (.bool true) (.slice ga gone.length gc) (.slice ma made.length mc)
  generalize hw4:(World.setCell (World.setCell (World.setCell (World.setCell (World.setCell w3 _ _) _ _) _ _) _ _) _ _)=w4 at hE4 hT4 ⊢
  clear hw4 q0 q1 q2 q3 q4 z4 k1 k2 k3 k4 zc zv
  have hb2:w2.heap.size∉F':=fun hm=>(hW3 _ hm).elim (fun h1=>by have:=HL.out _ h1; omega) (fun h1=>by simp at h1; omega)
  have hA4:At w4 p F' s':=PL.keep hA3 hT4 (by simp; exact hb2)
  have HB4:Hid (Bx w.heap.size w4 (rootO o) lv of key val true):=HB3.out.keep hT4 (by simp; omega)
  have HF4:=PL.free hA4 hC3.pv.ok hC3.pv.top hC3.pv.nodup hC3.pv.small
  have e0:w4.cell? ⟨w2.heap.size,0,none⟩=some (.int .i64 root):=cell_at hE4 0
  have e1:w4.cell? ⟨w2.heap.size,1,none⟩=some (.int .i64 (old)):=cell_at hE4 1
  have e2:w4.cell? ⟨w2.heap.size,2,none⟩=some (.bool true):=cell_at hE4 2
  have e3:w4.cell? ⟨w2.heap.size,3,none⟩=some (.slice ga gone.length gc):=cell_at hE4 3
  have e4:w4.cell? ⟨w2.heap.size,4,none⟩=some (.slice ma made.length mc):=cell_at hE4 4
  have k1:w4.cell? ⟨w.heap.size+1,1,none⟩=some (.int .i64 key):=cell_at HB4.out.bc 1
  have k2:w4.cell? ⟨w.heap.size+1,2,none⟩=some (.int .i64 val):=cell_at HB4.out.bc 2
  have k3:w4.cell? ⟨w.heap.size+1,3,none⟩=some (.bool true):=cell_at HB4.out.bc 3
  have k4:w4.cell? ⟨w.heap.size,1,none⟩=some lv:=cell_at HB4.out.bv 1
  have hroom:=hd.room
  have hr2:(St'.length:Int)=(St.length:Int) - (made.length:Int):=by omega
  have hn2:=hC3.pv.ok.n2
  have hst:St.length≤s.n:=nodup_len hV.nodup hV.small
  have hn3:=hV.ok.n2
  have hmo:=hd.most
  refine chg_r14d PL rfl rfl rfl rfl rfl rfl rfl hA4 hC3.pv HB4.out.bc hE4 (fun hm=>(hW3 _ hm).elim (fun h1=>by have:=HL.out _ h1; omega) (fun h1=>by simp at h1; omega)) hb2 hr2 (by omega) (by omega) (by omega) ?_
  intro a5 w5 hsz hdf hoff f156 hA5 hT5
  clear e0 e1 e2 e3 e4 k1 k2 k3 k4
  have f6:a5.eval (.tmp 6)=pa w.heap.size 0:=hoff 6 (by decide)
  have f7:a5.eval (.tmp 7)=pa (w.heap.size+1) 0:=hoff 7 (by decide)
  have f9:a5.eval (.tmp 9)=pa (w.heap.size+1+1) 0:=hoff 9 (by decide)
  have f14:a5.eval (.tmp 14)=pa w2.heap.size 0:=hoff 14 (by decide)
  have hsz':a5.tmps.size=178:=hsz
  have hdf':a5.defers=[]:=hdf
  clear hsz hdf hoff
  obtain ⟨cc,hcc,hce⟩:=expand178 hsz' hdf'
  have g6:=(hce 6).trans f6
  have g7:=(hce 7).trans f7
  have g9:=(hce 9).trans f9
  have g14:=(hce 14).trans f14
  have g156:=(hce 156).trans f156
  clear f6 f7 f9 f14 f156 hce hsz' hdf'
  subst hcc
  simp only [lit178,g6,g7,g9,g14,g156]
  clear g6 g7 g9 g14 g156
  have HB5:Hid (Bx w.heap.size w5 (rootO o) lv of key val true):=HB4.out.keep hT5 (fun x hx=>(hW3 x hx).elim (fun h1=>.inl (HL.out x h1)) (fun h1=>.inr (by simp at h1; omega)))
  have hE5:=hT5.heap hE4 hb2
  have hT25:Turned F w w5:=(((HT2.out.alloc _).trans ht3).inner hT4 (by simp; omega)).inner hT5 (fun x hx=>(hW3 x hx).elim .inl (fun h1=>.inr (by simp at h1; omega)))
  have hR5:PR B w5 lv (prs o):=hR.keep hT25 hRF
  go_wp2
  refine chg_r16 rfl rfl rfl rfl HB5.out.bv HB5.out.bc hE5 hR5 hlen ?_
  intro a6 w6 v6 nb hsz hdf hoff f20 hT6 hnb6 hR6 hnl
  have f6:a6.eval (.tmp 6)=pa w.heap.size 0:=hoff 6 (by decide)
  have f7:a6.eval (.tmp 7)=pa (w.heap.size+1) 0:=hoff 7 (by decide)
  have f9:a6.eval (.tmp 9)=pa (w.heap.size+1+1) 0:=hoff 9 (by decide)
  have f14:a6.eval (.tmp 14)=pa w2.heap.size 0:=hoff 14 (by decide)
  have hsz':a6.tmps.size=178:=hsz
  have hdf':a6.defers=[]:=hdf
  clear hsz hdf hoff
  obtain ⟨cd,hcc,hce⟩:=expand178 hsz' hdf'
  have g6:=(hce 6).trans f6
  have g7:=(hce 7).trans f7
  have g9:=(hce 9).trans f9
  have g14:=(hce 14).trans f14
  have g20:=(hce 20).trans f20
  clear f6 f7 f9 f14 f20 hce hsz' hdf'
  subst hcc
  simp only [lit178,g6,g7,g9,g14,g20]
  clear g6 g7 g9 g14 g20
  have HB6:Hid (Bx w.heap.size w6 (rootO o) lv of key val true):=HB5.out.keep hT6 (by simp)
  have hE6:=hT6.heap hE5 (by simp)
  have k4:w6.cell? ⟨w.heap.size,1,none⟩=some lv:=cell_at HB6.out.bv 1
  have k1:w6.cell? ⟨w.heap.size+1,1,none⟩=some (.int .i64 key):=cell_at HB6.out.bc 1
  have k3:w6.cell? ⟨w.heap.size+1,3,none⟩=some (.bool true):=cell_at HB6.out.bc 3
  have HWo:=cWithout (hR5.keep hT6 (by simp)) hlen key
  have s5x:=hT25.size
  have l7:w2.heap.size < w6.heap.size:=lt_of_heap hE6
  have n7:¬ nb=w2.heap.size:=fun e=>by have:=lt_of_heap hE5; omega
  have n8:¬ nb=w.heap.size+2:=fun e=>by have:=lt_of_heap HB5.out.be; omega
  have n8':¬ nb=w.heap.size+1+1:=n8
  have n9:¬ nb=w.heap.size+1:=fun e=>by have:=lt_of_heap HB5.out.bc; omega
  have n10:¬ nb=w.heap.size:=fun e=>by have:=lt_of_heap HB5.out.bv; omega
  unfold pa
  go_wp2_with ((go_at_call 16; refine HWo.mono ?_; rintro e w7 ⟨v7,rfl,hR7,hT7⟩; obtain ⟨a7,c7,rfl⟩:=hR7.isSl; have hnb7:=hT7.heap hnb6 (by simp); have q1:w7.cell? ⟨nb,1,none⟩=some v6:=cell_at hnb7 1; have zq:=froz_at hnb7))
  have hT8:Turned [nb] w7 (w7.setCell ⟨nb,1,none⟩ (.slice a7 (delL (prs o) key).length c7)):=(Turned.refl _ _).set (.inl (by simp)) _ _
  have hnb8:(w7.setCell ⟨nb,1,none⟩ (.slice a7 (delL (prs o) key).length c7)).heap[nb]?=some (verObj root (.slice a7 (delL (prs o) key).length c7)):=by rw [blk_set hnb7 1 _]; rfl
  generalize hw8:World.setCell w7 _ _=w8 at hT8 hnb8 ⊢
  clear hw8
  have HB8:Hid (Bx w.heap.size w8 (rootO o) lv of key val true):=(HB6.out.keep hT7 (by simp)).keep hT8 (by simp; omega)
  have hE8:=hT8.heap (hT7.heap hE6 (by simp)) (by simp; omega)
  have hR8:PR w6.heap.size w8 (.slice a7 (delL (prs o) key).length c7) (delL (prs o) key):=hR7.keep hT8 fun g hg=>by
   obtain ⟨cs,hc⟩:=ownPair hR7 hg
   simp only [List.mem_singleton]
   exact type_ne hc hnb7 (by decide)
  have hT58:Turned [] w5 w8:=(hT6.trans hT7).inner hT8 (by simp; omega)
  have e0:w8.cell? ⟨w2.heap.size,0,none⟩=some (.int .i64 root):=cell_at hE8 0
  have e1:w8.cell? ⟨w2.heap.size,1,none⟩=some (.int .i64 (old)):=cell_at hE8 1
  have e2:w8.cell? ⟨w2.heap.size,2,none⟩=some (.bool true):=cell_at hE8 2
  have e3:w8.cell? ⟨w2.heap.size,3,none⟩=some (.slice ga gone.length gc):=cell_at hE8 3
  have e4:w8.cell? ⟨w2.heap.size,4,none⟩=some (.slice ma made.length mc):=cell_at hE8 4
  have d0:w8.cell? ⟨w.heap.size+1+1,0,none⟩=some (.int .i64 0):=cell_at HB8.out.be 0
  have d1:w8.cell? ⟨w.heap.size+1+1,1,none⟩=some (.int .i64 0):=cell_at HB8.out.be 1
  have d2:w8.cell? ⟨w.heap.size+1+1,2,none⟩=some (.bool false):=cell_at HB8.out.be 2
  have d3:w8.cell? ⟨w.heap.size+1+1,3,none⟩=some (.slice none 0 0):=cell_at HB8.out.be 3
  have d4:w8.cell? ⟨w.heap.size+1+1,4,none⟩=some (.slice none 0 0):=cell_at HB8.out.be 4
  have ze:=froz_at HB8.out.be
  go_wp2
  go_region
  go_wp2
  have hE9:=edit_set (y0:=.int .i64 root) (y1:=.int .i64 (old)) (y2:=.bool true) (y3:=.slice ga gone.length gc) (y4:=.slice ma made.length mc) HB8.out.be
  have hT9:=edit_turned w8 (w.heap.size+2) (.int .i64 root) (.int .i64 (old)) (.bool true) (.slice ga gone.length gc) (.slice ma made.length mc)
  generalize hw9:(World.setCell (World.setCell (World.setCell (World.setCell (World.setCell w8 _ _) _ _) _ _) _ _) _ _)=w9 at hE9 hT9 ⊢
  clear hw9
  have r0:w9.cell? ⟨w.heap.size+1+1,0,none⟩=some (.int .i64 root):=cell_at hE9 0
  have r1:w9.cell? ⟨w.heap.size+1+1,1,none⟩=some (.int .i64 (old)):=cell_at hE9 1
  have r2:w9.cell? ⟨w.heap.size+1+1,2,none⟩=some (.bool true):=cell_at hE9 2
  have r3:w9.cell? ⟨w.heap.size+1+1,3,none⟩=some (.slice ga gone.length gc):=cell_at hE9 3
  have r4:w9.cell? ⟨w.heap.size+1+1,4,none⟩=some (.slice ma made.length mc):=cell_at hE9 4
  refine ⟨rfl,.tuple #[pa nb 0,.agg #[.int .i64 root,.int .i64 (old),.bool true,.slice ga gone.length gc,.slice ma made.length mc],.bool true],?_,?_⟩
  ·unfold results pa
   go_simp
  ·have s5:=hT25.size
   have s6:=hT6.size
   have s58:=hT58.size
   have hS2:w.heap.size+2∉F':=fun hm=>(hW3 _ hm).elim (fun h1=>by have:=HL.out _ h1; omega) (fun h1=>by simp at h1; omega)
   have l5:=PL.lt hA5
   have gb:∀ g,(Value.slice ga gone.length gc).ownBlock=some g→w2.heap.size+1≤g:=fun g hg=>by have:=(hg3.fresh hg).1; simp at this; omega
   have mb:∀ g,(Value.slice ma made.length mc).ownBlock=some g→w2.heap.size+1≤g:=fun g hg=>by have:=(hm3.fresh hg).1; simp at this; omega
   have s3:=ht3.size
   have s4:=hT4.size
   have s45:=hT5.size
   simp at s3
   refine ⟨pa nb 0,_,s',F',St',it',rfl,((hT25.trans (hT58.mono (by simp))).inner hT9 (fun x hx=>.inr (by simp at hx; omega))).drew,PL.keep (PL.keep (PL.keep hA5 hT58 (by simp)) hT9 (by simpa using hS2)) (Turned.refl [] _).drew (by simp),fun x hx=>(hW3 x hx).imp id (fun h1=>by simp at h1; omega),htF3,hC3,.inr ⟨nb,root,_,_,_,_,gone,made,o',_,rfl,rfl,hT9.heap hnb8 (by simp; omega),by omega,fun hm=>by have:=l5 _ hm; omega,?_,fun g hg hm=>by have:=(hR8.fresh hg).1; have:=l5 _ hm; omega,?_,hgF,hd,hp,?_,hmF,_,_,_,rfl⟩⟩
   ·rw [hp]
    exact ((hR8.keep hT9 fun g hg=>by have:=(hR8.fresh hg).1; simp; omega).lower (by omega)).keep (F:=[]) (Turned.refl [] _).drew (by simp)
   ·exact (((((hg3.keep hT4 fun g hg=>by have:=gb g hg; simp; omega).keep hT5 hgF).keep hT58 (by simp)).keep hT9 fun g hg=>by have:=gb g hg; simp; omega).lower (by simp; omega)).keep (F:=[]) (Turned.refl [] _).drew (by simp)
   ·exact (((((hm3.keep hT4 fun g hg=>by have:=mb g hg; simp; omega).keep hT5 hmF).keep hT58 (by simp)).keep hT9 fun g hg=>by have:=mb g hg; simp; omega).lower (by simp; omega)).keep (F:=[]) (Turned.refl [] _).drew (by simp)
end
end Go.Proofs.YtloljphbdfjgdaaGreatDoor
/- A frame, spelled out. -/
namespace Go.Proofs.YtloljphbdfjgdaaGreatDoor
open Go.RowKit
def lit299 (c:Nat→Value):Array Value:=#[c 0,c 1,c 2,c 3,c 4,c 5,c 6,c 7,c 8,c 9,c 10,c 11,c 12,c 13,c 14,c 15,c 16,c 17,c 18,c 19,c 20,c 21,c 22,c 23,c 24,c 25,c 26,c 27,c 28,c 29,c 30,c 31,c 32,c 33,c 34,c 35,c 36,c 37,c 38,c 39,c 40,c 41,c 42,c 43,c 44,c 45,c 46,c 47,c 48,c 49,c 50,c 51,c 52,c 53,c 54,c 55,c 56,c 57,c 58,c 59,c 60,c 61,c 62,c 63,c 64,c 65,c 66,c 67,c 68,c 69,c 70,c 71,c 72,c 73,c 74,c 75,c 76,c 77,c 78,c 79,c 80,c 81,c 82,c 83,c 84,c 85,c 86,c 87,c 88,c 89,c 90,c 91,c 92,c 93,c 94,c 95,c 96,c 97,c 98,c 99,c 100,c 101,c 102,c 103,c 104,c 105,c 106,c 107,c 108,c 109,c 110,c 111,c 112,c 113,c 114,c 115,c 116,c 117,c 118,c 119,c 120,c 121,c 122,c 123,c 124,c 125,c 126,c 127,c 128,c 129,c 130,c 131,c 132,c 133,c 134,c 135,c 136,c 137,c 138,c 139,c 140,c 141,c 142,c 143,c 144,c 145,c 146,c 147,c 148,c 149,c 150,c 151,c 152,c 153,c 154,c 155,c 156,c 157,c 158,c 159,c 160,c 161,c 162,c 163,c 164,c 165,c 166,c 167,c 168,c 169,c 170,c 171,c 172,c 173,c 174,c 175,c 176,c 177,c 178,c 179,c 180,c 181,c 182,c 183,c 184,c 185,c 186,c 187,c 188,c 189,c 190,c 191,c 192,c 193,c 194,c 195,c 196,c 197,c 198,c 199,c 200,c 201,c 202,c 203,c 204,c 205,c 206,c 207,c 208,c 209,c 210,c 211,c 212,c 213,c 214,c 215,c 216,c 217,c 218,c 219,c 220,c 221,c 222,c 223,c 224,c 225,c 226,c 227,c 228,c 229,c 230,c 231,c 232,c 233,c 234,c 235,c 236,c 237,c 238,c 239,c 240,c 241,c 242,c 243,c 244,c 245,c 246,c 247,c 248,c 249,c 250,c 251,c 252,c 253,c 254,c 255,c 256,c 257,c 258,c 259,c 260,c 261,c 262,c 263,c 264,c 265,c 266,c 267,c 268,c 269,c 270,c 271,c 272,c 273,c 274,c 275,c 276,c 277,c 278,c 279,c 280,c 281,c 282,c 283,c 284,c 285,c 286,c 287,c 288,c 289,c 290,c 291,c 292,c 293,c 294,c 295,c 296,c 297,c 298]
set_option maxRecDepth 100000 in
theorem lit299_eq (c:Nat→Value):lit299 c=((List.range 299).map c).toArray:=by rfl
theorem expand299 {a:Act} (hs:a.tmps.size=299) (hd:a.defers=[]):∃ c:Nat→Value,a=⟨lit299 c,[]⟩∧∀ s,c s=a.eval (.tmp s):=by
 refine ⟨fun s=>a.tmps.getD s undef,?_,fun s=>rfl⟩
 obtain ⟨t,d⟩:=a
 simp only at hs hd
 subst hd
 congr 1
 rw [lit299_eq]
 refine Array.ext (by simp [hs]) fun i h1 h2=>?_
 simp [Array.getD,h1]
end Go.Proofs.YtloljphbdfjgdaaGreatDoor
/- Drawn regions of the statements' 'tells'. (Written by tools/gen/gentells.py.) -/
namespace Go.Proofs.YtloljphbdfjgdaaGreatDoor
open Go.RowKit
theorem x_extract {ρ:Operand→Value} {o:Oper} {w:World} {x:Operand} {k:Nat} {vs:Array Value} {v:Value} (h:o.op=.extract x k) (hx:ρ x=.tuple vs) (hv:vs[k]?=some v):(execOp ρ o).run Tryz.prog w=.ok (.value v) w:=by
 simp [execOp,h,hx,Instr.extract,hv]
structure TW (At:World→Nat→List Nat→PSt→Prop) (Tb:World→Nat→Nat→Prop) (W:World) (S p tb:Nat) (F:List Nat) (s:PSt) (tr:Option Tr) (lg lc:Nat) (x:World):Prop where
 at_:At x p F s
 tb_:Tb x tb p
 ntb:tb∉F
 box:x.heap[S]?=some (verObj (rootO tr) (.slice (some ⟨lg,0,none⟩) (prs tr).length lc))
 nS:S∉F
 row:PR 0 x (.slice (some ⟨lg,0,none⟩) (prs tr).length lc) (prs tr)
 nl:lg∉F
 turned:Turned F W x
section
variable {At:World→Nat→List Nat→PSt→Prop} {Tb:World→Nat→Nat→Prop} (PL:PoolLaws At) (TL:TrieLaws At Tb) {K:Act→World→Prop} {Q:Exit→Act→World→Prop} {a0:Act} {W w x y:World} {S p tb lg lc i:Nat} {F:List Nat} {s:PSt} {tr:Option Tr} {k v:Int}
include PL TL
omit PL in
theorem TW.step (h:TW At Tb W S p tb F s tr lg lc x) (ht:Turned F x y) (hA:At y p F s):TW At Tb W S p tb F s tr lg lc y :=
 ⟨hA,TL.keepT h.tb_ ht h.ntb (TL.outT h.tb_ h.at_),h.ntb,ht.heap h.box h.nS,h.nS,h.row.keep ht (fun g hg=>by simp only [Value.ownBlock,Option.some.injEq] at hg; subst hg; exact h.nl),h.nl,h.turned.trans ht⟩
theorem TW.fresh (h:TW At Tb W S p tb F s tr lg lc x) (ht:Turned [] x y):TW At Tb W S p tb F s tr lg lc y:=h.step TL (ht.mono (by simp)) (PL.keep h.at_ ht (by simp))
omit PL TL in
theorem TW.cells (h:TW At Tb W S p tb F s tr lg lc x) (hi:i < (prs tr).length):x.cell? ⟨lg,i * 2,none⟩=some (.int .i64 (prs tr)[i].1)∧x.cell? ⟨lg,i * 2+1,none⟩=some (.int .i64 (prs tr)[i].2):=by
 rcases h.row.form with ⟨e,_⟩ | ⟨g,c,cs,e,_,_,_,_,hc⟩
 ·cases e
 ·cases e; exact hc i hi
omit PL TL in
theorem key_of (hO:Holds s tr) (hi:i < (prs tr).length):isKey (prs tr)[i].1:=by
 cases tr with
 | none=>simp [prs,Tr.pairsO] at hi
 | some t =>
  have h1:=(hO.wf t rfl).mem _ (List.getElem_mem hi)
  have h2:=(hO.wf t rfl).span
  exact ⟨by omega,by omega⟩
omit PL TL in
theorem rank_self {l:List (Int × Int)} (h:Rise l) (hi:i < l.length):rankL l l[i].1=i∧getL l l[i].1=some l[i].2:=by
 induction l generalizing i with
 | nil=>simp at hi
 | cons z l ih =>
  obtain ⟨h1,h2⟩:=List.pairwise_cons.1 h
  cases i with
  | zero =>
   have e:¬ z.1 < z.1:=Int.lt_irrefl _
   refine ⟨(rank_stop (l:=l) e).1,?_⟩
   simp [getL]
  | succ i =>
   have hi':i < l.length:=by simpa using hi
   have hz:=h1 _ (List.getElem_mem hi')
   obtain ⟨e1,e2,_⟩:=rank_go (l:=l) hz
   obtain ⟨i1,i2⟩:=ih h2 hi'
   simp only [List.getElem_cons_succ]
   exact ⟨by rw [e1,i1],by rw [e2,i2]⟩
def telV11 (tb S lg lc i:Nat) (tr:Option Tr) (k v:Int):Nat→Value:=fun j=>match j with | 0=>(pt tb) | 1=>(pa S 0) | 2=>(Value.int IntKind.i64 (rootO tr)) | 3=>(Value.slice (some ⟨lg,0,none⟩) (prs tr).length lc) | 4=>(Value.int IntKind.i64 i) | 5=>(pa lg (i * 2)) | 6=>(pa lg (i * 2)) | 7=>(Value.int IntKind.i64 k) | 8=>(Value.tuple #[.int .i64 v,.bool true,.int .i64 0]) | 9=>(Value.tuple #[.int .i64 v,.bool true,.int .i64 0]) | 10=>(Value.int IntKind.i64 v) | 11=>(Value.bool true) | 12=>(Value.int IntKind.i64 0) | 13=>(Value.int IntKind.i64 v) | 14=>(Value.bool true) | 15=>(Value.int IntKind.i64 0) | _=>undef
set_option maxRecDepth 100000 in
set_option maxHeartbeats 1600000 in
theorem tel_r11 (hs:a0.tmps.size=299) (x0:a0.eval (.tmp 0)=pt tb) (x5:a0.eval (.tmp 5)=pa S 0) (x9:a0.eval (.tmp 9)=(Value.slice (some ⟨lg,0,none⟩) (prs tr).length lc)) (x18:a0.eval (.tmp 18)=.int .i64 i) (hW:TW At Tb W S p tb F s tr lg lc w) (hix:i < (prs tr).length) (hk:k=(prs tr)[i].1) (hv_:v=(prs tr)[i].2) (hO:Holds s tr) (hok:s.Ok)
  (hEnd:∀ a' x,a'.tmps.size=a0.tmps.size→a'.defers=a0.defers→(∀ s,some s∉([some 106,some 107,some 108,some 109,some 110,some 111,some 112,some 113,some 114,some 105,some 115,some 116,some 117,some 19,some 20,some 21]:List (Option Nat))→a'.eval (.tmp s)=a0.eval (.tmp s))→a'.eval (.tmp 19)=(Value.int IntKind.i64 v)→a'.eval (.tmp 20)=(Value.bool true)→a'.eval (.tmp 21)=(Value.int IntKind.i64 0)→TW At Tb W S p tb F s tr lg lc x→K a' x):(Code.region 11 (opsOf 11 Tryz.f11.body) true).wp Tryz.prog (Exit.then K Q) a0 w:=by
 have hi2:(i:Int) < ((prs tr).length:Int):=by omega
 have hkk:isKey k:=by rw [hk]; exact key_of hO hix
 have hFind:∀ x,At x p F s→Tb x tb p→Calls Tryz.prog 34 #[pt tb,.pointer none,.int .i64 (rootO tr),.int .i64 k] x fun e w'=>e=.returned (.tuple #[.int .i64 v,.bool true,.int .i64 0])∧Turned F x w'∧At w' p F s:=fun x h1 h2=>by
  have:=TL.find h1 hok h2 hW.ntb hO k hkk
  rw [hk,(rank_self hO.rise hix).2,← hk,← hv_] at this
  exact this
 clear hv_
 refine wp_region_ghost3 (G:=Bool) (by kernel_rfl) [some 106,some 107,some 108,some 109,some 110,some 111,some 112,some 113,some 114,some 105,some 115,some 116,some 117,some 19,some 20,some 21] (by rw [hs]; kernel_rfl) (fun _=>telV11 tb S lg lc i tr k v) [8] ?_ (fun g _=>g) (fun _ x=>TW At Tb W S p tb F s tr lg lc x) (false) (hW.fresh PL TL (Turned.refl [] _).drew) (by simp) (by decide) ?_ ?_
 ·exact fun i g b h _=>absurd h (noG (by kernel_rfl) i g b)
 ·intro i hi hgd
  rcases (by simp at hi; omega:i=0∨i=1∨i=2∨i=3∨i=4∨i=5∨i=6∨i=7∨i=8∨i=9∨i=10∨i=11∨i=12∨i=13∨i=14∨i=15) with rfl | rfl | rfl | rfl | rfl | rfl | rfl | rfl | rfl | rfl | rfl | rfl | rfl | rfl | rfl | rfl
  ·refine soft (by decide) ?_
   intro o ac wa g ho hoff hv hS hdn
   exact (x_move (op_is rfl ho)).trans (by rw [((hoff 0 (by decide)).trans x0)]; rfl)
  ·refine soft (by decide) ?_
   intro o ac wa g ho hoff hv hS hdn
   exact x_field (op_is rfl ho) (by rw [((hoff 5 (by decide)).trans x5)]; show (Instr.fieldAt _ (pa _ _) _).run _ _=.ok (pa _ _) _; unfold pa; go_simp)
  ·refine soft (by decide) ?_
   intro o ac wa g ho hoff hv hS hdn
   have hc:=cell_at hS.box 0
   exact x_load (op_is rfl ho) (by rw [(hv 1 107 rfl (by kernel_rfl))]; show (Instr.loadAt _ (pa _ _)).run _ _=_; unfold pa; go_simp; rfl)
  ·refine soft (by decide) ?_
   intro o ac wa g ho hoff hv hS hdn
   exact (x_move (op_is rfl ho)).trans (by rw [((hoff 9 (by decide)).trans x9)]; rfl)
  ·refine soft (by decide) ?_
   intro o ac wa g ho hoff hv hS hdn
   exact (x_move (op_is rfl ho)).trans (by rw [((hoff 18 (by decide)).trans x18)]; rfl)
  ·refine soft (by decide) ?_
   intro o ac wa g ho hoff hv hS hdn
   exact x_index (op_is rfl ho) (by rw [(hv 3 109 rfl (by kernel_rfl)),(hv 4 110 rfl (by kernel_rfl))]; show (Instr.indexAt _ (Value.slice _ _ _) (Value.int _ _)).run _ _=.ok (pa _ _) _; unfold pa; go_simp)
  ·refine soft (by decide) ?_
   intro o ac wa g ho hoff hv hS hdn
   exact x_field (op_is rfl ho) (by rw [(hv 5 111 rfl (by kernel_rfl))]; show (Instr.fieldAt _ (pa _ _) _).run _ _=.ok (pa _ _) _; unfold pa; go_simp)
  ·refine soft (by decide) ?_
   intro o ac wa g ho hoff hv hS hdn
   have hc:=(hS.cells hix).1.trans (by rw [← hk])
   exact x_load (op_is rfl ho) (by rw [(hv 6 112 rfl (by kernel_rfl))]; show (Instr.loadAt _ (pa _ _)).run _ _=_; unfold pa; go_simp; rfl)
  ·intro o ac wa g K ho hd _ hoff hv hS _ hnd _ hK
   have hg:g=false:=hnd (by simp)
   refine l_callE (op_is rfl ho) (xs:=#[pt tb,.pointer none,.int .i64 (rootO tr),.int .i64 k]) (by simp only [List.map_toArray,List.map_cons,List.map_nil]; rw [hv 0 106 rfl (by kernel_rfl),hv 2 108 rfl (by kernel_rfl),hv 7 113 rfl (by kernel_rfl)]; rfl) Tryz.func34 (by kernel_rfl) rfl (hFind wa hS.at_ hS.tb_) ?_
   rintro e w' ⟨rfl,ht,hA'⟩
   refine ⟨_,rfl,?_⟩
   rw [hd]
   refine hK true w' (hS.step TL ht hA') (by simp [hg]) fun j hj hr=>?_
   match j,hr with
   | 0,_=>rfl
   | 1,_=>rfl
   | 2,_=>rfl
   | 3,_=>rfl
   | 4,_=>rfl
   | 5,_=>rfl
   | 6,_=>rfl
   | 7,_=>rfl
   | 8,_=>exact absurd rfl hj
   | 9,_=>rfl
   | 10,_=>rfl
   | 11,_=>rfl
   | 12,_=>rfl
   | 13,_=>rfl
   | 14,_=>rfl
   | 15,_=>rfl
   | k+16,_=>rfl
  ·refine soft (by decide) ?_
   intro o ac wa g ho hoff hv hS hdn
   exact (x_move (op_is rfl ho)).trans (by rw [(hv 8 114 rfl (by kernel_rfl))]; rfl)
  ·refine soft (by decide) ?_
   intro o ac wa g ho hoff hv hS hdn
   exact x_extract (op_is rfl ho) (hv 9 105 rfl (by kernel_rfl)) rfl
  ·refine soft (by decide) ?_
   intro o ac wa g ho hoff hv hS hdn
   exact x_extract (op_is rfl ho) (hv 9 105 rfl (by kernel_rfl)) rfl
  ·refine soft (by decide) ?_
   intro o ac wa g ho hoff hv hS hdn
   exact x_extract (op_is rfl ho) (hv 9 105 rfl (by kernel_rfl)) rfl
  ·refine soft (by decide) ?_
   intro o ac wa g ho hoff hv hS hdn
   exact (x_assign (op_is rfl ho)).trans (by rw [(hv 10 115 rfl (by kernel_rfl))]; rfl)
  ·refine soft (by decide) ?_
   intro o ac wa g ho hoff hv hS hdn
   exact (x_assign (op_is rfl ho)).trans (by rw [(hv 11 116 rfl (by kernel_rfl))]; rfl)
  ·refine soft (by decide) ?_
   intro o ac wa g ho hoff hv hS hdn
   exact (x_assign (op_is rfl ho)).trans (by rw [(hv 12 117 rfl (by kernel_rfl))]; rfl)
 ·intro a' w' g hsz hdf hoff hS hdn hval
  exact hEnd a' w' hsz hdf (fun s hs=>ev_same (hoff s hs)) (hval 13 19 rfl) (hval 14 20 rfl) (hval 15 21 rfl) hS
def telV12 (tb S lg lc i:Nat) (tr:Option Tr) (k:Int):Nat→Value:=fun j=>match j with | 0=>(pt tb) | 1=>(pa S 0) | 2=>(Value.int IntKind.i64 (rootO tr)) | 3=>(Value.slice (some ⟨lg,0,none⟩) (prs tr).length lc) | 4=>(Value.int IntKind.i64 i) | 5=>(pa lg (i * 2)) | 6=>(pa lg (i * 2)) | 7=>(Value.int IntKind.i64 k) | 8=>(Value.tuple #[.int .i64 i,.int .i64 0]) | 9=>(Value.tuple #[.int .i64 i,.int .i64 0]) | 10=>(Value.int IntKind.i64 i) | 11=>(Value.int IntKind.i64 0) | 12=>(Value.int IntKind.i64 i) | 13=>(Value.int IntKind.i64 0) | _=>undef
set_option maxRecDepth 100000 in
set_option maxHeartbeats 1600000 in
theorem tel_r12 (hs:a0.tmps.size=299) (x0:a0.eval (.tmp 0)=pt tb) (x5:a0.eval (.tmp 5)=pa S 0) (x9:a0.eval (.tmp 9)=(Value.slice (some ⟨lg,0,none⟩) (prs tr).length lc)) (x18:a0.eval (.tmp 18)=.int .i64 i) (hW:TW At Tb W S p tb F s tr lg lc w) (hix:i < (prs tr).length) (hk:k=(prs tr)[i].1) (hO:Holds s tr) (hok:s.Ok)
  (hEnd:∀ a' x,a'.tmps.size=a0.tmps.size→a'.defers=a0.defers→(∀ s,some s∉([some 119,some 120,some 121,some 122,some 123,some 124,some 125,some 126,some 127,some 118,some 128,some 129,some 22,some 23]:List (Option Nat))→a'.eval (.tmp s)=a0.eval (.tmp s))→a'.eval (.tmp 22)=(Value.int IntKind.i64 i)→a'.eval (.tmp 23)=(Value.int IntKind.i64 0)→TW At Tb W S p tb F s tr lg lc x→K a' x):(Code.region 12 (opsOf 12 Tryz.f11.body) true).wp Tryz.prog (Exit.then K Q) a0 w:=by
 have hi2:(i:Int) < ((prs tr).length:Int):=by omega
 have hkk:isKey k:=by rw [hk]; exact key_of hO hix
 have hRank:∀ x,At x p F s→Tb x tb p→Calls Tryz.prog 23 #[pt tb,.pointer none,.int .i64 (rootO tr),.int .i64 k] x fun e w'=>e=.returned (.tuple #[.int .i64 i,.int .i64 0])∧Turned F x w'∧At w' p F s:=fun x h1 h2=>by
  have:=TL.rank h1 hok h2 hW.ntb hO k hkk
  rw [hk,(rank_self hO.rise hix).1,← hk] at this
  exact this
 refine wp_region_ghost3 (G:=Bool) (by kernel_rfl) [some 119,some 120,some 121,some 122,some 123,some 124,some 125,some 126,some 127,some 118,some 128,some 129,some 22,some 23] (by rw [hs]; kernel_rfl) (fun _=>telV12 tb S lg lc i tr k) [8] ?_ (fun g _=>g) (fun _ x=>TW At Tb W S p tb F s tr lg lc x) (false) (hW.fresh PL TL (Turned.refl [] _).drew) (by simp) (by decide) ?_ ?_
 ·exact fun i g b h _=>absurd h (noG (by kernel_rfl) i g b)
 ·intro i hi hgd
  rcases (by simp at hi; omega:i=0∨i=1∨i=2∨i=3∨i=4∨i=5∨i=6∨i=7∨i=8∨i=9∨i=10∨i=11∨i=12∨i=13) with rfl | rfl | rfl | rfl | rfl | rfl | rfl | rfl | rfl | rfl | rfl | rfl | rfl | rfl
  ·refine soft (by decide) ?_
   intro o ac wa g ho hoff hv hS hdn
   exact (x_move (op_is rfl ho)).trans (by rw [((hoff 0 (by decide)).trans x0)]; rfl)
  ·refine soft (by decide) ?_
   intro o ac wa g ho hoff hv hS hdn
   exact x_field (op_is rfl ho) (by rw [((hoff 5 (by decide)).trans x5)]; show (Instr.fieldAt _ (pa _ _) _).run _ _=.ok (pa _ _) _; unfold pa; go_simp)
  ·refine soft (by decide) ?_
   intro o ac wa g ho hoff hv hS hdn
   have hc:=cell_at hS.box 0
   exact x_load (op_is rfl ho) (by rw [(hv 1 120 rfl (by kernel_rfl))]; show (Instr.loadAt _ (pa _ _)).run _ _=_; unfold pa; go_simp; rfl)
  ·refine soft (by decide) ?_
   intro o ac wa g ho hoff hv hS hdn
   exact (x_move (op_is rfl ho)).trans (by rw [((hoff 9 (by decide)).trans x9)]; rfl)
  ·refine soft (by decide) ?_
   intro o ac wa g ho hoff hv hS hdn
   exact (x_move (op_is rfl ho)).trans (by rw [((hoff 18 (by decide)).trans x18)]; rfl)
  ·refine soft (by decide) ?_
   intro o ac wa g ho hoff hv hS hdn
   exact x_index (op_is rfl ho) (by rw [(hv 3 122 rfl (by kernel_rfl)),(hv 4 123 rfl (by kernel_rfl))]; show (Instr.indexAt _ (Value.slice _ _ _) (Value.int _ _)).run _ _=.ok (pa _ _) _; unfold pa; go_simp)
  ·refine soft (by decide) ?_
   intro o ac wa g ho hoff hv hS hdn
   exact x_field (op_is rfl ho) (by rw [(hv 5 124 rfl (by kernel_rfl))]; show (Instr.fieldAt _ (pa _ _) _).run _ _=.ok (pa _ _) _; unfold pa; go_simp)
  ·refine soft (by decide) ?_
   intro o ac wa g ho hoff hv hS hdn
   have hc:=(hS.cells hix).1.trans (by rw [← hk])
   exact x_load (op_is rfl ho) (by rw [(hv 6 125 rfl (by kernel_rfl))]; show (Instr.loadAt _ (pa _ _)).run _ _=_; unfold pa; go_simp; rfl)
  ·intro o ac wa g K ho hd _ hoff hv hS _ hnd _ hK
   have hg:g=false:=hnd (by simp)
   refine l_callE (op_is rfl ho) (xs:=#[pt tb,.pointer none,.int .i64 (rootO tr),.int .i64 k]) (by simp only [List.map_toArray,List.map_cons,List.map_nil]; rw [hv 0 119 rfl (by kernel_rfl),hv 2 121 rfl (by kernel_rfl),hv 7 126 rfl (by kernel_rfl)]; rfl) Tryz.func23 (by kernel_rfl) rfl (hRank wa hS.at_ hS.tb_) ?_
   rintro e w' ⟨rfl,ht,hA'⟩
   refine ⟨_,rfl,?_⟩
   rw [hd]
   refine hK true w' (hS.step TL ht hA') (by simp [hg]) fun j hj hr=>?_
   match j,hr with
   | 0,_=>rfl
   | 1,_=>rfl
   | 2,_=>rfl
   | 3,_=>rfl
   | 4,_=>rfl
   | 5,_=>rfl
   | 6,_=>rfl
   | 7,_=>rfl
   | 8,_=>exact absurd rfl hj
   | 9,_=>rfl
   | 10,_=>rfl
   | 11,_=>rfl
   | 12,_=>rfl
   | 13,_=>rfl
   | k+14,_=>rfl
  ·refine soft (by decide) ?_
   intro o ac wa g ho hoff hv hS hdn
   exact (x_move (op_is rfl ho)).trans (by rw [(hv 8 127 rfl (by kernel_rfl))]; rfl)
  ·refine soft (by decide) ?_
   intro o ac wa g ho hoff hv hS hdn
   exact x_extract (op_is rfl ho) (hv 9 118 rfl (by kernel_rfl)) rfl
  ·refine soft (by decide) ?_
   intro o ac wa g ho hoff hv hS hdn
   exact x_extract (op_is rfl ho) (hv 9 118 rfl (by kernel_rfl)) rfl
  ·refine soft (by decide) ?_
   intro o ac wa g ho hoff hv hS hdn
   exact (x_assign (op_is rfl ho)).trans (by rw [(hv 10 128 rfl (by kernel_rfl))]; rfl)
  ·refine soft (by decide) ?_
   intro o ac wa g ho hoff hv hS hdn
   exact (x_assign (op_is rfl ho)).trans (by rw [(hv 11 129 rfl (by kernel_rfl))]; rfl)
 ·intro a' w' g hsz hdf hoff hS hdn hval
  exact hEnd a' w' hsz hdf (fun s hs=>ev_same (hoff s hs)) (hval 12 22 rfl) (hval 13 23 rfl) hS
end
end Go.Proofs.YtloljphbdfjgdaaGreatDoor
/- A drawn region of the statements' 'tells': the next pair. (Written by tools/gen/gentells14.py.) -/
namespace Go.Proofs.YtloljphbdfjgdaaGreatDoor
open Go.RowKit
structure G14 where
 ca:Bool
 nb:Option Nat
 st:Bool
def done14 (g:G14):Nat→Bool
 | 8=>g.ca
 | 12=>g.nb.isSome
 | 13=>g.st
 | _=>false
def pairObj (u v:Int):Obj:=.cells #[.int .i64 u,.int .i64 v] 60 (0,0)
structure S14 (At:World→Nat→List Nat→PSt→Prop) (Tb:World→Nat→Nat→Prop) (W:World) (S p tb:Nat) (F:List Nat) (s:PSt) (tr:Option Tr) (lg lc B:Nat) (u1 u2:Int) (g:G14) (x:World):Prop where
 tw:TW At Tb W S p tb F s tr lg lc x
 size:B≤x.heap.size
 nb:∀ nb,g.nb=some nb→B≤nb∧x.heap[nb]?=some (if g.st=true then pairObj u1 u2 else pairObj 0 0)
section
variable {At:World→Nat→List Nat→PSt→Prop} {Tb:World→Nat→Nat→Prop} (PL:PoolLaws At) (TL:TrieLaws At Tb) {K:Act→World→Prop} {Q:Exit→Act→World→Prop} {a0:Act} {W w x y:World} {S p tb lg lc i B nb:Nat} {F:List Nat} {s:PSt} {tr:Option Tr} {k u1 u2 er:Int}
include PL TL
theorem TW.other (h:TW At Tb W S p tb F s tr lg lc x) (ht:Turned [nb] x y) (hb:B≤nb) (hF:∀ z,z∈F→z < B) (hW:W.heap.size≤B) (hlt:tb < B∧S < B∧lg < B):TW At Tb W S p tb F s tr lg lc y :=
 ⟨PL.keep h.at_ ht (by simp; exact fun hm=>by have:=hF nb hm; omega),TL.keepT h.tb_ ht (by simp; omega) (by have:=TL.ltT h.tb_; simp; omega),h.ntb,ht.heap h.box (by simp; omega),h.nS,h.row.keep ht (fun g hg=>by simp only [Value.ownBlock,Option.some.injEq] at hg; simp; omega),h.nl,h.turned.inner ht (by simp; omega)⟩
def telV14 (tb S lg lc i:Nat) (tr:Option Tr) (k u1 u2 er:Int) (g:G14):Nat→Value:=fun j=>match j with | 0=>(pt tb) | 1=>(pa S 0) | 2=>(Value.int IntKind.i64 (rootO tr)) | 3=>(Value.slice (some ⟨lg,0,none⟩) (prs tr).length lc) | 4=>(Value.int IntKind.i64 i) | 5=>(pa lg (i * 2)) | 6=>(pa lg (i * 2)) | 7=>(Value.int IntKind.i64 k) | 8=>(Value.tuple #[.agg #[.int .i64 u1,.int .i64 u2],.int .i64 er]) | 9=>(Value.tuple #[.agg #[.int .i64 u1,.int .i64 u2],.int .i64 er]) | 10=>(Value.agg #[.int .i64 u1,.int .i64 u2]) | 11=>(Value.int IntKind.i64 er) | 12=>(pa (g.nb.getD 0) 0) | 13=>undef | 14=>(Value.int IntKind.i64 er) | _=>undef
set_option maxRecDepth 100000 in
set_option maxHeartbeats 1600000 in
theorem tel_r14 (hs:a0.tmps.size=299) (x0:a0.eval (.tmp 0)=pt tb) (x5:a0.eval (.tmp 5)=pa S 0) (x9:a0.eval (.tmp 9)=(Value.slice (some ⟨lg,0,none⟩) (prs tr).length lc)) (x18:a0.eval (.tmp 18)=.int .i64 i) (hW:TW At Tb W S p tb F s tr lg lc w) (hix:i < (prs tr).length) (hk:k=(prs tr)[i].1) (hsw:S < w.heap.size)
  (hNext:∀ x,At x p F s→Tb x tb p→Calls Tryz.prog 25 #[pt tb,.pointer none,.int .i64 (rootO tr),.int .i64 k] x fun e w'=>e=.returned (.tuple #[.agg #[.int .i64 u1,.int .i64 u2],.int .i64 er])∧Turned F x w'∧At w' p F s)
  (hEnd:∀ a' x nb,a'.tmps.size=a0.tmps.size→a'.defers=a0.defers→(∀ s,some s∉([some 139,some 140,some 141,some 142,some 143,some 144,some 145,some 146,some 147,some 138,some 148,some 149,some 26,none,some 27]:List (Option Nat))→a'.eval (.tmp s)=a0.eval (.tmp s))→a'.eval (.tmp 26)=pa nb 0→a'.eval (.tmp 27)=.int .i64 er→TW At Tb W S p tb F s tr lg lc x→x.heap[nb]?=some (pairObj u1 u2)→w.heap.size≤nb→K a' x):(Code.region 14 (opsOf 14 Tryz.f11.body) true).wp Tryz.prog (Exit.then K Q) a0 w:=by
 have hi2:(i:Int) < ((prs tr).length:Int):=by omega
 have hF:=PL.lt hW.at_
 have hlt:tb < w.heap.size∧S < w.heap.size∧lg < w.heap.size:=⟨TL.ltT hW.tb_,hsw,(hW.row.fresh rfl).2⟩
 have hWs:=hW.turned.size
 refine wp_region_ghost3 (G:=G14) (by kernel_rfl) [some 139,some 140,some 141,some 142,some 143,some 144,some 145,some 146,some 147,some 138,some 148,some 149,some 26,none,some 27] (by rw [hs]; kernel_rfl) (telV14 tb S lg lc i tr k u1 u2 er) [8,12,13] ?_ (done14) (S14 At Tb W S p tb F s tr lg lc w.heap.size u1 u2) (⟨false,none,false⟩) (⟨hW.fresh PL TL (Turned.refl [] _).drew,Nat.le_refl _,fun nb hnb=>(by cases hnb)⟩) (by intro x hx; simp at hx; rcases hx with rfl | rfl | rfl <;> rfl) (by decide) ?_ ?_
 ·exact fun i g b h _=>absurd h (noG (by kernel_rfl) i g b)
 ·intro i hi hgd
  rcases (by simp at hi; omega:i=0∨i=1∨i=2∨i=3∨i=4∨i=5∨i=6∨i=7∨i=8∨i=9∨i=10∨i=11∨i=12∨i=13∨i=14) with rfl | rfl | rfl | rfl | rfl | rfl | rfl | rfl | rfl | rfl | rfl | rfl | rfl | rfl | rfl
  ·refine soft (by decide) ?_
   intro o ac wa g ho hoff hv hS hdn
   exact (x_move (op_is rfl ho)).trans (by rw [((hoff 0 (by decide)).trans x0)]; rfl)
  ·refine soft (by decide) ?_
   intro o ac wa g ho hoff hv hS hdn
   exact x_field (op_is rfl ho) (by rw [((hoff 5 (by decide)).trans x5)]; show (Instr.fieldAt _ (pa _ _) _).run _ _=.ok (pa _ _) _; unfold pa; go_simp)
  ·refine soft (by decide) ?_
   intro o ac wa g ho hoff hv hS hdn
   have hc:=cell_at hS.tw.box 0
   exact x_load (op_is rfl ho) (by rw [(hv 1 140 rfl (by kernel_rfl))]; show (Instr.loadAt _ (pa _ _)).run _ _=_; unfold pa; go_simp; rfl)
  ·refine soft (by decide) ?_
   intro o ac wa g ho hoff hv hS hdn
   exact (x_move (op_is rfl ho)).trans (by rw [((hoff 9 (by decide)).trans x9)]; rfl)
  ·refine soft (by decide) ?_
   intro o ac wa g ho hoff hv hS hdn
   exact (x_move (op_is rfl ho)).trans (by rw [((hoff 18 (by decide)).trans x18)]; rfl)
  ·refine soft (by decide) ?_
   intro o ac wa g ho hoff hv hS hdn
   exact x_index (op_is rfl ho) (by rw [(hv 3 142 rfl (by kernel_rfl)),(hv 4 143 rfl (by kernel_rfl))]; show (Instr.indexAt _ (Value.slice _ _ _) (Value.int _ _)).run _ _=.ok (pa _ _) _; unfold pa; go_simp)
  ·refine soft (by decide) ?_
   intro o ac wa g ho hoff hv hS hdn
   exact x_field (op_is rfl ho) (by rw [(hv 5 144 rfl (by kernel_rfl))]; show (Instr.fieldAt _ (pa _ _) _).run _ _=.ok (pa _ _) _; unfold pa; go_simp)
  ·refine soft (by decide) ?_
   intro o ac wa g ho hoff hv hS hdn
   have hc:=(hS.tw.cells hix).1.trans (by rw [← hk])
   exact x_load (op_is rfl ho) (by rw [(hv 6 145 rfl (by kernel_rfl))]; show (Instr.loadAt _ (pa _ _)).run _ _=_; unfold pa; go_simp; rfl)
  ·intro o ac wa g K ho hd _ hoff hv hS hpre hnd hlater hK
   have hg:g.ca=false:=by have:=hnd (by simp); simpa [done14] using this
   have hst:g.st=false:=hlater 13 (by simp) (by kernel_rfl)
   refine l_callE (op_is rfl ho) (xs:=#[pt tb,.pointer none,.int .i64 (rootO tr),.int .i64 k]) (by simp only [List.map_toArray,List.map_cons,List.map_nil]; rw [hv 0 139 rfl (by kernel_rfl),hv 2 141 rfl (by kernel_rfl),hv 7 146 rfl (by kernel_rfl)]; rfl) Tryz.func25 (by kernel_rfl) rfl (hNext wa hS.tw.at_ hS.tw.tb_) ?_
   rintro e w' ⟨rfl,ht,hA'⟩
   refine ⟨_,rfl,?_⟩
   rw [hd]
   refine hK { g with ca:=true } w' ⟨hS.tw.step TL ht hA',Nat.le_trans hS.size ht.size,fun nb hnb=>⟨(hS.nb nb hnb).1,ht.heap (hS.nb nb hnb).2 (fun hm=>by have:=hF nb hm; have:=(hS.nb nb hnb).1; omega)⟩⟩ (by intro x hx; simp at hx; rcases hx with rfl | rfl | rfl <;> simp [done14]) fun j hj hr=>?_
   match j,hr with
   | 0,_=>rfl
   | 1,_=>rfl
   | 2,_=>rfl
   | 3,_=>rfl
   | 4,_=>rfl
   | 5,_=>rfl
   | 6,_=>rfl
   | 7,_=>rfl
   | 8,_=>exact absurd rfl hj
   | 9,_=>rfl
   | 10,_=>rfl
   | 11,_=>rfl
   | 12,_=>rfl
   | 13,_=>rfl
   | 14,_=>rfl
   | k+15,_=>rfl
  ·refine soft (by decide) ?_
   intro o ac wa g ho hoff hv hS hdn
   exact (x_move (op_is rfl ho)).trans (by rw [(hv 8 147 rfl (by kernel_rfl))]; rfl)
  ·refine soft (by decide) ?_
   intro o ac wa g ho hoff hv hS hdn
   exact x_extract (op_is rfl ho) (hv 9 138 rfl (by kernel_rfl)) rfl
  ·refine soft (by decide) ?_
   intro o ac wa g ho hoff hv hS hdn
   exact x_extract (op_is rfl ho) (hv 9 138 rfl (by kernel_rfl)) rfl
  ·intro o ac wa g K ho hd _ hoff hv hS hpre hnd hlater hK
   have hg:g.nb=none:=by have:=hnd (by simp); simpa [done14] using this
   have hst:g.st=false:=hlater 13 (by simp) (by kernel_rfl)
   refine l_val hd (x_alloc (op_is rfl ho) (v:=pa wa.heap.size 0) (w':=wa.alloc (pairObj 0 0)) (by unfold pa pairObj; go_simp)) ?_
   refine hK { g with nb:=some wa.heap.size } _ ⟨hS.tw.fresh PL TL ((Turned.refl _ _).alloc _),Nat.le_trans hS.size (by simp),fun nb hnb=>?_⟩ (by intro x hx; simp at hx; rcases hx with rfl | rfl | rfl <;> simp [done14,hg]) fun j hj hr=>?_
   ·cases hnb
    refine ⟨hS.size,?_⟩
    rw [hst]
    exact blk_new _ _
   ·match j,hr with
    | 0,_=>rfl
    | 1,_=>rfl
    | 2,_=>rfl
    | 3,_=>rfl
    | 4,_=>rfl
    | 5,_=>rfl
    | 6,_=>rfl
    | 7,_=>rfl
    | 8,_=>rfl
    | 9,_=>rfl
    | 10,_=>rfl
    | 11,_=>rfl
    | 12,_=>exact absurd rfl hj
    | 13,hr=>exact absurd (hr.symm.trans (by kernel_rfl:reachB (opsOf 14 Tryz.f11.body) (opsOf 14 Tryz.f11.body).size 13 12=true)) (by decide)
    | 14,_=>rfl
    | k+15,_=>rfl
  ·intro o ac wa g K ho hd _ hoff hv hS hpre hnd hlater hK
   obtain ⟨nb,hnb⟩:=Option.isSome_iff_exists.1 (show g.nb.isSome=true from hpre 12 (by simp) (by kernel_rfl))
   have hst:g.st=false:=by have:=hnd (by simp); simpa [done14] using this
   have e26:=hv 12 26 rfl (by kernel_rfl)
   have e148:=hv 10 148 rfl (by kernel_rfl)
   have hb:=(hS.nb nb hnb).2
   have hbn:=(hS.nb nb hnb).1
   rw [hst] at hb
   have c0:wa.cell? ⟨nb,0,none⟩=some (.int .i64 0):=cell_at hb 0
   have c1:wa.cell? ⟨nb,1,none⟩=some (.int .i64 0):=cell_at hb 1
   have z:=froz_at hb
   refine l_skip hd (w':=(wa.setCell ⟨nb,0,none⟩ (.int .i64 u1)).setCell ⟨nb,1,none⟩ (.int .i64 u2)) (x_store (op_is rfl ho) (by
    rw [e26,e148]
    show (Instr.storeAt _ (pa (g.nb.getD 0) 0) (.agg #[.int .i64 u1,.int .i64 u2])).run _ _=_
    rw [hnb]
    show (Instr.storeAt _ (pa nb 0) (.agg #[.int .i64 u1,.int .i64 u2])).run _ _=_
    unfold pa
    go_simp)) ?_
   have htn:Turned [nb] wa ((wa.setCell ⟨nb,0,none⟩ (.int .i64 u1)).setCell ⟨nb,1,none⟩ (.int .i64 u2)):=((Turned.refl _ _).set (.inl (by simp)) _ _).set (.inl (by simp)) _ _
   refine hK { g with st:=true } _ ⟨hS.tw.other PL TL htn hbn hF hWs hlt,Nat.le_trans hS.size htn.size,fun nb' hnb'=>?_⟩ (by intro x hx; simp at hx; rcases hx with rfl | rfl | rfl <;> simp [done14]) fun j hj hr=>?_
   ·have:nb'=nb:=by rw [hnb] at hnb'; cases hnb'; rfl
    subst this
    refine ⟨hbn,?_⟩
    show _=some (if true=true then pairObj u1 u2 else _)
    rw [if_pos rfl,blk_set (blk_set hb 0 _) 1 _]
    rfl
   ·match j,hr with
    | 0,_=>rfl
    | 1,_=>rfl
    | 2,_=>rfl
    | 3,_=>rfl
    | 4,_=>rfl
    | 5,_=>rfl
    | 6,_=>rfl
    | 7,_=>rfl
    | 8,_=>rfl
    | 9,_=>rfl
    | 10,_=>rfl
    | 11,_=>rfl
    | 12,_=>rfl
    | 13,_=>exact absurd rfl hj
    | 14,_=>rfl
    | k+15,_=>rfl
  ·refine soft (by decide) ?_
   intro o ac wa g ho hoff hv hS hdn
   exact (x_assign (op_is rfl ho)).trans (by rw [(hv 11 149 rfl (by kernel_rfl))]; rfl)
 ·intro a' w' g hsz hdf hoff hS hdn hval
  obtain ⟨nb,hnb⟩:=Option.isSome_iff_exists.1 (show g.nb.isSome=true from hdn 12 (by simp))
  have hst:g.st=true:=hdn 13 (by simp)
  have hb:=(hS.nb nb hnb).2
  rw [hst,if_pos rfl] at hb
  exact hEnd a' w' nb hsz hdf (fun s hs=>ev_same (hoff s hs)) ((hval 12 26 rfl).trans (by show pa (g.nb.getD 0) 0=_; rw [hnb]; rfl)) (hval 14 27 rfl) hS.tw hb (hS.nb nb hnb).1

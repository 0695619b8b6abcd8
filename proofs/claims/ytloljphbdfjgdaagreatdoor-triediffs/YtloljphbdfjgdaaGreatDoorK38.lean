/- A change of a map, as the statements make it: it is put. -/
import Derived.Test.YtloljphbdfjgdaaGreatDoorK37
namespace Go.Proofs.YtloljphbdfjgdaaGreatDoor
open Go.RowKit
structure Bx (S:Nat) (w:World) (root:Int) (lv:Value) (of key val:Int) (drop:Bool):Prop where
 bv:w.heap[S]?=some (.cells #[.int .i64 root,lv] 33 (0,0))
 bc:w.heap[S+1]?=some (.cells #[.int .i64 of,.int .i64 key,.int .i64 val,.bool drop] 36 (0,0))
 be:w.heap[S+2]?=some (.cells #[.int .i64 0,.int .i64 0,.bool false,.slice none 0 0,.slice none 0 0] 40 (0,0))
theorem Bx.keep {S:Nat} {w w':World} {root:Int} {lv:Value} {of key val:Int} {drop:Bool} {l:List Nat} (h:Bx S w root lv of key val drop) (ht:Turned l w w') (hl:∀ x,x∈l→x < S∨S+2 < x):Bx S w' root lv of key val drop :=
 ⟨ht.heap h.bv fun hm=>by have:=hl _ hm; omega,ht.heap h.bc fun hm=>by have:=hl _ hm; omega,ht.heap h.be fun hm=>by have:=hl _ hm; omega⟩
theorem al3 (w:World) (A B C:Obj):(((w.alloc A).alloc B).alloc C).heap[w.heap.size]?=some A∧(((w.alloc A).alloc B).alloc C).heap[w.heap.size+1]?=some B∧(((w.alloc A).alloc B).alloc C).heap[w.heap.size+2]?=some C:=by
 refine ⟨?_,?_,?_⟩ <;> simp only [heap_al,size_al] <;> repeat (first | rw [if_pos trivial] | rw [if_pos rfl] | rw [if_neg (by omega)])
theorem nodup_len:∀ {n:Nat} {l:List Nat},l.Nodup→(∀ x∈l,1≤x∧x≤n)→l.length≤n
 | 0,l,_,hs=>by
  cases l with
  | nil=>exact Nat.le_refl _
  | cons x l=>have:=hs x (by simp); omega
 | n+1,l,hn,hs=>by
  by_cases hm:n+1∈l
  ·have h1:=nodup_len (n:=n) (l:=l.erase (n+1)) (hn.erase _) fun x hx=>by
    have h2:=(hn.mem_erase_iff).1 hx
    have h3:=hs x h2.2
    omega
   rw [List.length_erase_of_mem hm] at h1
   omega
  ·have:=nodup_len (n:=n) hn fun x hx=>by
    have h3:=hs x hx
    have:x≠n+1:=fun e=>hm (e ▸ hx)
    omega
   omega
structure ChgPost (At:World→Nat→List Nat→PSt→Prop) (w:World) (p tb:Nat) (F:List Nat) (s:PSt) (St:List Nat) (it:Nat) (o:Option Tr) (l':List (Int × Int)) (e:Ending) (w':World):Prop where
 ex:∃ pv ev s' F' St' it',e=.returned (.tuple #[pv,ev,.bool true])∧Turned F w w'∧At w' p F' s'∧Wider F F' w∧tb∉F'∧Chg s s' St' it it' ∧
  ((pv=.pointer none∧St'.length=St.length∧∃ r od hd ga gl gc ma ml mc,ev=.agg #[.int .i64 r,.int .i64 od,.bool hd,.slice ga gl gc,.slice ma ml mc])∨∃ nb root old had gv mv gone made o' v,pv=pa nb 0∧ev=.agg #[.int .i64 root,.int .i64 old,.bool had,gv,mv]∧w'.heap[nb]?=some (verObj root v)∧w.heap.size≤nb∧nb∉F'∧PR w.heap.size w' v (prs o')∧(∀ g,v.ownBlock=some g→g∉F') ∧
   IR w.heap.size w' gv gone∧(∀ g,gv.ownBlock=some g→g∉F')∧Done s s' St St' o o' root gone made∧prs o'=l'∧IR w.heap.size w' mv made∧(∀ g,mv.ownBlock=some g→g∉F')∧∃ ma ml mc,mv=.slice ma ml mc)
theorem IR.lower {B B':Nat} {w:World} {v:Value} {l:List Int} (h:IR B w v l) (hb:B'≤B):IR B' w v l:=by
 refine ⟨h.own.1,?_⟩
 rcases h.own.2 with h0 | ⟨g,c,cs,h1,h2,h3⟩
 ·exact .inl h0
 ·exact .inr ⟨g,c,cs,h1,Nat.le_trans hb h2,h3⟩
section
variable {At:World→Nat→List Nat→PSt→Prop} {Tb:World→Nat→Nat→Prop} (PL:PoolLaws At) (TL:TrieLaws At Tb) {w:World} {tb p:Nat} {F:List Nat} {s:PSt} {St:List Nat} {it B:Nat} {o:Option Tr} {lv:Value}
include PL TL
set_option maxRecDepth 100000 in
set_option maxHeartbeats 3200000 in
theorem cChangedPut (hA:At w p F s) (hT:Tb w tb p) (htF:tb∉F) (hV:PV s St it) (hit:it≤900000000) (hO:Holds s o) (hR:PR B w lv (prs o)) (hRF:∀ g,lv.ownBlock=some g→g∉F) (hlen:(prs o).length≤1000000) (of key val:Int) :
  Calls Tryz.prog 9 #[pt p,pt tb,.agg #[.int .i64 (rootO o),lv],.agg #[.int .i64 of,.int .i64 key,.int .i64 val,.bool false]] w (ChgPost At w p tb F s St it o (insL (prs o) key val)):=by
 have HF:Hid (∀ w1,Turned [] w w1→Calls Tryz.prog 29 #[pt p] w1 fun e w'=>(∃ a c,e=.returned (.slice a St.length c))∧Turned F w1 w'∧At w' p F s):=fun w1 h1=>PL.free (PL.keep hA h1 (by simp)) hV.ok hV.top hV.nodup hV.small
 have HV:Hid (∀ w1,Turned [] w w1→Calls Tryz.prog 15 #[lv,.int .i64 key] w1 fun e w'=>e=.returned (.tuple #[.int .i64 ((getL (prs o) key).getD 0),.bool (getL (prs o) key).isSome])∧Turned [] w1 w'):=fun w1 h1=>cValue (hR.keep h1 (by simp)) hlen key
 have HL:Hid (∀ x,x∈F→x < w.heap.size):=PL.lt hA
 have HP:Hid (∀ w1,At w1 p F s→Tb w1 tb p→_):=fun w1 a1 a2=>TL.put (w:=w1) a1 a2 htF hV hit hO key val
 go_enter Tryz.func9,Tryz.ntmps9
 go_wp2_with (first
  | (go_at_call 15; refine (HV.out _ ((((Turned.refl _ _).alloc _).alloc _).alloc _)).mono ?_; rintro e w1 ⟨rfl,ht1⟩; have hT1:Turned [] w w1:=((((Turned.refl _ _).alloc _).alloc _).alloc _).trans ht1; have hB1:Bx w.heap.size w1 (rootO o) lv of key val false:=Bx.keep (l:=[]) ⟨(al3 _ _ _ _).1,(al3 _ _ _ _).2.1,(al3 _ _ _ _).2.2⟩ ht1 (by simp); clear ht1; have k0:w1.cell? ⟨w.heap.size,0,none⟩=some (.int .i64 (rootO o)):=cell_at hB1.bv 0; have k1:w1.cell? ⟨w.heap.size+1,1,none⟩=some (.int .i64 key):=cell_at hB1.bc 1; have HT1:Hid _:=hT1; have HB1:Hid _:=hB1; clear hT1 hB1)
  | (go_at_call 29; refine (HF.out _ HT1.out).mono ?_; rintro e w2 ⟨⟨a2,c2,rfl⟩,ht2,hA2⟩; have HB2:Hid (Bx w.heap.size w2 (rootO o) lv of key val false):=HB1.out.keep ht2 (fun x hx=>.inl (HL.out x hx)); have HT2:Hid (Turned F w w2):=(HT1.out.mono (by simp)).trans ht2; have HA2:Hid _:=hA2; clear ht2 hA2 k0 k1; have k3:w2.cell? ⟨w.heap.size+1,3,none⟩=some (.bool false):=cell_at HB2.out.bc 3; have k0:w2.cell? ⟨w.heap.size,0,none⟩=some (.int .i64 (rootO o)):=cell_at HB2.out.bv 0; have k1:w2.cell? ⟨w.heap.size+1,1,none⟩=some (.int .i64 key):=cell_at HB2.out.bc 1; have k2:w2.cell? ⟨w.heap.size+1,2,none⟩=some (.int .i64 val):=cell_at HB2.out.bc 2; have l0:w.heap.size < w2.heap.size:=lt_of_heap HB2.out.bv; have l1:w.heap.size+1 < w2.heap.size:=lt_of_heap HB2.out.bc; have l2:w.heap.size+1+1 < w2.heap.size:=lt_of_heap HB2.out.be; have n0:¬ w.heap.size=w2.heap.size:=(by omega); have n1:¬ w.heap.size+1=w2.heap.size:=(by omega); have n2:¬ w.heap.size+1+1=w2.heap.size:=(by omega)))
 have HT2':Hid _:=HT2.out.alloc (.cells #[.int .i64 0,.int .i64 0,.bool false,.slice none 0 0,.slice none 0 0] 40)
 have HC2:=HP.out _ (PL.keep HA2.out ((Turned.refl [] _).alloc _) (by simp)) (TL.keepT hT HT2'.out htF (TL.outT hT hA))
 clear HP HT2' k0 k1 k2 k3
 refine HC2.mono ?_
 clear HC2
 rintro e w3 ⟨er,root,old,had,gv,mv,gone,made,s',F',St',it',o',rfl,ht3,hA3,hW3,htF3,hg3,hm3,hgF,hmF,hC3,hP3⟩
 have HB3:Hid (Bx w.heap.size w3 (rootO o) lv of key val false):=(HB2.out.keep ((Turned.refl [] _).alloc _) (by simp)).keep ht3 (fun x hx=>.inl (HL.out x hx))
 have b14:w3.heap[w2.heap.size]?=some (.cells #[.int .i64 0,.int .i64 0,.bool false,.slice none 0 0,.slice none 0 0] 40 (0,0)):=ht3.heap (blk_new _ _) (fun hm=>by have:=HL.out _ hm; omega)
 have q0:w3.cell? ⟨w2.heap.size,0,none⟩=some (.int .i64 0):=cell_at b14 0
 have q1:w3.cell? ⟨w2.heap.size,1,none⟩=some (.int .i64 0):=cell_at b14 1
 have q2:w3.cell? ⟨w2.heap.size,2,none⟩=some (.bool false):=cell_at b14 2
 have q3:w3.cell? ⟨w2.heap.size,3,none⟩=some (.slice none 0 0):=cell_at b14 3
 have q4:w3.cell? ⟨w2.heap.size,4,none⟩=some (.slice none 0 0):=cell_at b14 4
 have z4:=froz_at b14
 have m3:w2.heap.size < w3.heap.size:=lt_of_heap b14
 have k1:w3.cell? ⟨w.heap.size+1,1,none⟩=some (.int .i64 key):=cell_at HB3.out.bc 1
 have k2:w3.cell? ⟨w.heap.size+1,2,none⟩=some (.int .i64 val):=cell_at HB3.out.bc 2
 have k3:w3.cell? ⟨w.heap.size+1,3,none⟩=some (.bool false):=cell_at HB3.out.bc 3
 have k4:w3.cell? ⟨w.heap.size,1,none⟩=some lv:=cell_at HB3.out.bv 1
 have zc:=froz_at HB3.out.bc
 have zv:=froz_at HB3.out.bv
 have n0':¬ w2.heap.size=w.heap.size:=by omega
 have n1':¬ w2.heap.size=w.heap.size+1:=by omega
 have n2':¬ w2.heap.size=w.heap.size+1+1:=by omega
 cases hP3 with
 | bad hk hn =>
  obtain ⟨ga,gc,rfl⟩:=hg3.form
  obtain ⟨ma,mc,rfl⟩:=hm3.form
  obtain ⟨h1,h2,h3,h4⟩:=hn
  subst h1 h2 h3
  simp only [List.length_nil] at *
  have hk2:key < 0∨(¬ key < 0∧4294967295 < key):=by unfold isKey at hk; omega
  rcases hk2 with hk2 | ⟨hk2,hk3⟩
  all_goals (
   go_wp2_with (first
    | (go_at_call 7; refine (cNum _ _).mono ?_; rintro e w' ⟨rfl,hw⟩; obtain rfl:=hw.symm))
   have hE4:=edit_set (y0:=.int .i64 0) (y1:=.int .i64 old) (y2:=.bool had) (y3:=.slice ga 0 gc) (y4:=.slice ma 0 mc) b14
   have hT4:=edit_turned w3 w2.heap.size (.int .i64 0) (.int .i64 old) (.bool had) (.slice ga 0 gc) (.slice ma 0 mc)
   generalize hw4:(World.setCell (World.setCell (World.setCell (World.setCell (World.setCell w3 _ _) _ _) _ _) _ _) _ _)=w4 at hE4 hT4 ⊢
   clear hw4 q0 q1 q2 q3 q4 z4 k1 k2 k3 k4 zc zv
   have hb2:w2.heap.size∉F':=fun hm=>(hW3 _ hm).elim (fun h1=>by have:=HL.out _ h1; omega) (fun h1=>by simp at h1; omega)
   have hA4:At w4 p F' s':=PL.keep hA3 hT4 (by simp; exact hb2)
   have HB4:Hid (Bx w.heap.size w4 (rootO o) lv of key val false):=HB3.out.keep hT4 (by simp; omega)
   have hS2:w.heap.size+2∉F':=fun hm=>(hW3 _ hm).elim (fun h1=>by have:=HL.out _ h1; omega) (fun h1=>by simp at h1; omega)
   refine chg_r13 PL rfl rfl rfl rfl rfl rfl hA4 hC3.pv HB4.out.be hE4 hS2 hb2 (by omega) (by omega) ?_
   intro a5 w5 hsz hdf hoff f8 f10 hA5 hT5 hE5
   have f9:a5.eval (.tmp 9)=pa (w.heap.size+1+1) 0:=hoff 9 (by decide)
   have hsz':a5.tmps.size=178:=hsz
   have hdf':a5.defers=[]:=hdf
   clear hsz hdf hoff
   obtain ⟨cc,hcc,hce⟩:=expand178 hsz' hdf'
   have g8:=(hce 8).trans f8
   have g9:=(hce 9).trans f9
   have g10:=(hce 10).trans f10
   clear f8 f9 f10 hce hsz' hdf'
   subst hcc
   simp only [lit178,g8,g9,g10]
   clear g8 g9 g10
   go_wp2
   have r0:w5.cell? ⟨w.heap.size+1+1,0,none⟩=some (.int .i64 0):=cell_at hE5 0
   have r1:w5.cell? ⟨w.heap.size+1+1,1,none⟩=some (.int .i64 old):=cell_at hE5 1
   have r2:w5.cell? ⟨w.heap.size+1+1,2,none⟩=some (.bool had):=cell_at hE5 2
   have r3:w5.cell? ⟨w.heap.size+1+1,3,none⟩=some (.slice ga 0 gc):=cell_at hE5 3
   have r4:w5.cell? ⟨w.heap.size+1+1,4,none⟩=some (.slice ma 0 mc):=cell_at hE5 4
   refine ⟨rfl,.tuple #[.pointer none,.agg #[.int .i64 0,.int .i64 old,.bool had,.slice ga 0 gc,.slice ma 0 mc],.bool true],?_,?_⟩
   ·unfold results pa
    go_simp
   ·refine ⟨_,_,s',F',St',it',rfl,(((HT2.out.alloc _).trans ht3).inner hT4 (by simp; omega)).inner hT5 (fun x hx=>?_),hA5,fun x hx=>(hW3 x hx).imp id (fun h1=>by simp at h1; omega),htF3,hC3,.inl ⟨rfl,h4,_,_,_,_,_,_,_,_,_,rfl⟩⟩
    simp only [List.mem_append,List.mem_singleton] at hx
    rcases hx with hx | rfl
    ·exact (hW3 x hx).elim .inl (fun h1=>.inr (by simp at h1; omega))
    ·exact .inr (by omega))
 | full hk hn =>
  obtain ⟨ga,gc,rfl⟩:=hg3.form
  obtain ⟨ma,mc,rfl⟩:=hm3.form
  obtain ⟨h1,h2,h3,h4⟩:=hn
  subst h1 h2 h3
  simp only [List.length_nil] at *
  have hk2:¬ key < 0:=by unfold isKey at hk; omega
  have hk3:¬ 4294967295 < key:=by unfold isKey at hk; omega
  all_goals (
   go_wp2_with (first
    | (go_at_call 7; refine (cNum _ _).mono ?_; rintro e w' ⟨rfl,hw⟩; obtain rfl:=hw.symm))
   have hE4:=edit_set (y0:=.int .i64 0) (y1:=.int .i64 old) (y2:=.bool had) (y3:=.slice ga 0 gc) (y4:=.slice ma 0 mc) b14
   have hT4:=edit_turned w3 w2.heap.size (.int .i64 0) (.int .i64 old) (.bool had) (.slice ga 0 gc) (.slice ma 0 mc)
   generalize hw4:(World.setCell (World.setCell (World.setCell (World.setCell (World.setCell w3 _ _) _ _) _ _) _ _) _ _)=w4 at hE4 hT4 ⊢
   clear hw4 q0 q1 q2 q3 q4 z4 k1 k2 k3 k4 zc zv
   have hb2:w2.heap.size∉F':=fun hm=>(hW3 _ hm).elim (fun h1=>by have:=HL.out _ h1; omega) (fun h1=>by simp at h1; omega)
   have hA4:At w4 p F' s':=PL.keep hA3 hT4 (by simp; exact hb2)
   have HB4:Hid (Bx w.heap.size w4 (rootO o) lv of key val false):=HB3.out.keep hT4 (by simp; omega)
   have hS2:w.heap.size+2∉F':=fun hm=>(hW3 _ hm).elim (fun h1=>by have:=HL.out _ h1; omega) (fun h1=>by simp at h1; omega)
   refine chg_r13 PL rfl rfl rfl rfl rfl rfl hA4 hC3.pv HB4.out.be hE4 hS2 hb2 (by omega) (by omega) ?_
   intro a5 w5 hsz hdf hoff f8 f10 hA5 hT5 hE5
   have f9:a5.eval (.tmp 9)=pa (w.heap.size+1+1) 0:=hoff 9 (by decide)
   have hsz':a5.tmps.size=178:=hsz
   have hdf':a5.defers=[]:=hdf
   clear hsz hdf hoff
   obtain ⟨cc,hcc,hce⟩:=expand178 hsz' hdf'
   have g8:=(hce 8).trans f8
   have g9:=(hce 9).trans f9
   have g10:=(hce 10).trans f10
   clear f8 f9 f10 hce hsz' hdf'
   subst hcc
   simp only [lit178,g8,g9,g10]
   clear g8 g9 g10
   go_wp2
   have r0:w5.cell? ⟨w.heap.size+1+1,0,none⟩=some (.int .i64 0):=cell_at hE5 0
   have r1:w5.cell? ⟨w.heap.size+1+1,1,none⟩=some (.int .i64 old):=cell_at hE5 1
   have r2:w5.cell? ⟨w.heap.size+1+1,2,none⟩=some (.bool had):=cell_at hE5 2
   have r3:w5.cell? ⟨w.heap.size+1+1,3,none⟩=some (.slice ga 0 gc):=cell_at hE5 3
   have r4:w5.cell? ⟨w.heap.size+1+1,4,none⟩=some (.slice ma 0 mc):=cell_at hE5 4
   refine ⟨rfl,.tuple #[.pointer none,.agg #[.int .i64 0,.int .i64 old,.bool had,.slice ga 0 gc,.slice ma 0 mc],.bool true],?_,?_⟩
   ·unfold results pa
    go_simp
   ·refine ⟨_,_,s',F',St',it',rfl,(((HT2.out.alloc _).trans ht3).inner hT4 (by simp; omega)).inner hT5 (fun x hx=>?_),hA5,fun x hx=>(hW3 x hx).imp id (fun h1=>by simp at h1; omega),htF3,hC3,.inl ⟨rfl,h4,_,_,_,_,_,_,_,_,_,rfl⟩⟩
    simp only [List.mem_append,List.mem_singleton] at hx
    rcases hx with hx | rfl
    ·exact (hW3 x hx).elim .inl (fun h1=>.inr (by simp at h1; omega))
    ·exact .inr (by omega))
 | done hk hd hp hh ho =>
  subst hh ho
  obtain ⟨ga,gc,rfl⟩:=hg3.form
  obtain ⟨ma,mc,rfl⟩:=hm3.form
  go_wp2_with (first
   | (go_at_call 7; refine (cNum _ _).mono ?_; rintro e w' ⟨rfl,hw⟩; obtain rfl:=hw.symm))
  have hE4:=edit_set (y0:=.int .i64 root) (y1:=.int .i64 ((getL (prs o) key).getD 0)) (y2:=.bool (getL (prs o) key).isSome) (y3:=.slice ga gone.length gc) (y4:=.slice ma made.length mc) b14
  have hT4:=edit_turned w3 w2.heap.size (.int .i64 root) (.int .i64 ((getL (prs o) key).getD 0)) (.bool (getL (prs o) key).isSome) (.slice ga gone.length gc) (.slice ma made.length mc)
  generalize hw4:(World.setCell (World.setCell (World.setCell (World.setCell (World.setCell w3 _ _) _ _) _ _) _ _) _ _)=w4 at hE4 hT4 ⊢
  clear hw4 q0 q1 q2 q3 q4 z4 k1 k2 k3 k4 zc zv
  have hb2:w2.heap.size∉F':=fun hm=>(hW3 _ hm).elim (fun h1=>by have:=HL.out _ h1; omega) (fun h1=>by simp at h1; omega)
  have hA4:At w4 p F' s':=PL.keep hA3 hT4 (by simp; exact hb2)
  have HB4:Hid (Bx w.heap.size w4 (rootO o) lv of key val false):=HB3.out.keep hT4 (by simp; omega)
  have HF4:=PL.free hA4 hC3.pv.ok hC3.pv.top hC3.pv.nodup hC3.pv.small
  have e0:w4.cell? ⟨w2.heap.size,0,none⟩=some (.int .i64 root):=cell_at hE4 0
  have e1:w4.cell? ⟨w2.heap.size,1,none⟩=some (.int .i64 ((getL (prs o) key).getD 0)):=cell_at hE4 1
  have e2:w4.cell? ⟨w2.heap.size,2,none⟩=some (.bool (getL (prs o) key).isSome):=cell_at hE4 2
  have e3:w4.cell? ⟨w2.heap.size,3,none⟩=some (.slice ga gone.length gc):=cell_at hE4 3
  have e4:w4.cell? ⟨w2.heap.size,4,none⟩=some (.slice ma made.length mc):=cell_at hE4 4
  have k1:w4.cell? ⟨w.heap.size+1,1,none⟩=some (.int .i64 key):=cell_at HB4.out.bc 1
  have k2:w4.cell? ⟨w.heap.size+1,2,none⟩=some (.int .i64 val):=cell_at HB4.out.bc 2
  have k3:w4.cell? ⟨w.heap.size+1,3,none⟩=some (.bool false):=cell_at HB4.out.bc 3
  have k4:w4.cell? ⟨w.heap.size,1,none⟩=some lv:=cell_at HB4.out.bv 1
  have hroom:=hd.room
  have hr2:(St'.length:Int)=(St.length:Int) - (made.length:Int):=by omega
  have hn2:=hC3.pv.ok.n2
  have hst:St.length≤s.n:=nodup_len hV.nodup hV.small
  have hn3:=hV.ok.n2
  have hmo:=hd.most
  refine chg_r14p PL rfl rfl rfl rfl rfl rfl rfl hA4 hC3.pv HB4.out.bc hE4 (fun hm=>(hW3 _ hm).elim (fun h1=>by have:=HL.out _ h1; omega) (fun h1=>by simp at h1; omega)) hb2 hr2 (by omega) (by omega) (by omega) ?_
  intro a5 w5 hsz hdf hoff f156 hA5 hT5
  clear e0 e1 e2 e3 e4 k1 k2 k3 k4
  have f6:a5.eval (.tmp 6)=pa w.heap.size 0:=hoff 6 (by decide)
  have f7:a5.eval (.tmp 7)=pa (w.heap.size+1) 0:=hoff 7 (by decide)
  have f9:a5.eval (.tmp 9)=pa (w.heap.size+1+1) 0:=hoff 9 (by decide)
  have f14:a5.eval (.tmp 14)=pa w2.heap.size 0:=hoff 14 (by decide)
  have hsz':a5.tmps.size=178:=hsz
  have hdf':a5.defers=[]:=hdf
  clear hsz hdf hoff
  obtain ⟨cc,hcc,hce⟩:=expand178 hsz' hdf'
  have g6:=(hce 6).trans f6
  have g7:=(hce 7).trans f7
  have g9:=(hce 9).trans f9
  have g14:=(hce 14).trans f14
  have g156:=(hce 156).trans f156
  clear f6 f7 f9 f14 f156 hce hsz' hdf'
  subst hcc
  simp only [lit178,g6,g7,g9,g14,g156]
  clear g6 g7 g9 g14 g156
  have HB5:Hid (Bx w.heap.size w5 (rootO o) lv of key val false):=HB4.out.keep hT5 (fun x hx=>(hW3 x hx).elim (fun h1=>.inl (HL.out x h1)) (fun h1=>.inr (by simp at h1; omega)))
  have hE5:=hT5.heap hE4 hb2
  have hT25:Turned F w w5:=(((HT2.out.alloc _).trans ht3).inner hT4 (by simp; omega)).inner hT5 (fun x hx=>(hW3 x hx).elim .inl (fun h1=>.inr (by simp at h1; omega)))
  have hR5:PR B w5 lv (prs o):=hR.keep hT25 hRF
  go_wp2
  refine chg_r16 rfl rfl rfl rfl HB5.out.bv HB5.out.bc hE5 hR5 hlen ?_
  intro a6 w6 v6 nb hsz hdf hoff f20 hT6 hnb6 hR6 hnl
  have f7:a6.eval (.tmp 7)=pa (w.heap.size+1) 0:=hoff 7 (by decide)
  have f9:a6.eval (.tmp 9)=pa (w.heap.size+1+1) 0:=hoff 9 (by decide)
  have f14:a6.eval (.tmp 14)=pa w2.heap.size 0:=hoff 14 (by decide)
  have hsz':a6.tmps.size=178:=hsz
  have hdf':a6.defers=[]:=hdf
  clear hsz hdf hoff
  obtain ⟨cd,hcc,hce⟩:=expand178 hsz' hdf'
  have g7:=(hce 7).trans f7
  have g9:=(hce 9).trans f9
  have g14:=(hce 14).trans f14
  have g20:=(hce 20).trans f20
  clear f7 f9 f14 f20 hce hsz' hdf'
  subst hcc
  simp only [lit178,g7,g9,g14,g20]
  clear g7 g9 g14 g20
  have HB6:Hid (Bx w.heap.size w6 (rootO o) lv of key val false):=HB5.out.keep hT6 (by simp)
  have hE6:=hT6.heap hE5 (by simp)
  have k3:w6.cell? ⟨w.heap.size+1,3,none⟩=some (.bool false):=cell_at HB6.out.bc 3
  have e0:w6.cell? ⟨w2.heap.size,0,none⟩=some (.int .i64 root):=cell_at hE6 0
  have e1:w6.cell? ⟨w2.heap.size,1,none⟩=some (.int .i64 ((getL (prs o) key).getD 0)):=cell_at hE6 1
  have e2:w6.cell? ⟨w2.heap.size,2,none⟩=some (.bool (getL (prs o) key).isSome):=cell_at hE6 2
  have e3:w6.cell? ⟨w2.heap.size,3,none⟩=some (.slice ga gone.length gc):=cell_at hE6 3
  have e4:w6.cell? ⟨w2.heap.size,4,none⟩=some (.slice ma made.length mc):=cell_at hE6 4
  have d0:w6.cell? ⟨w.heap.size+1+1,0,none⟩=some (.int .i64 0):=cell_at HB6.out.be 0
  have d1:w6.cell? ⟨w.heap.size+1+1,1,none⟩=some (.int .i64 0):=cell_at HB6.out.be 1
  have d2:w6.cell? ⟨w.heap.size+1+1,2,none⟩=some (.bool false):=cell_at HB6.out.be 2
  have d3:w6.cell? ⟨w.heap.size+1+1,3,none⟩=some (.slice none 0 0):=cell_at HB6.out.be 3
  have d4:w6.cell? ⟨w.heap.size+1+1,4,none⟩=some (.slice none 0 0):=cell_at HB6.out.be 4
  have ze:=froz_at HB6.out.be
  unfold pa
  go_wp2
  go_region
  go_wp2
  have hE7:=edit_set (y0:=.int .i64 root) (y1:=.int .i64 ((getL (prs o) key).getD 0)) (y2:=.bool (getL (prs o) key).isSome) (y3:=.slice ga gone.length gc) (y4:=.slice ma made.length mc) HB6.out.be
  have hT7:=edit_turned w6 (w.heap.size+2) (.int .i64 root) (.int .i64 ((getL (prs o) key).getD 0)) (.bool (getL (prs o) key).isSome) (.slice ga gone.length gc) (.slice ma made.length mc)
  generalize hw7:(World.setCell (World.setCell (World.setCell (World.setCell (World.setCell w6 _ _) _ _) _ _) _ _) _ _)=w7 at hE7 hT7 ⊢
  clear hw7
  have r0:w7.cell? ⟨w.heap.size+1+1,0,none⟩=some (.int .i64 root):=cell_at hE7 0
  have r1:w7.cell? ⟨w.heap.size+1+1,1,none⟩=some (.int .i64 ((getL (prs o) key).getD 0)):=cell_at hE7 1
  have r2:w7.cell? ⟨w.heap.size+1+1,2,none⟩=some (.bool (getL (prs o) key).isSome):=cell_at hE7 2
  have r3:w7.cell? ⟨w.heap.size+1+1,3,none⟩=some (.slice ga gone.length gc):=cell_at hE7 3
  have r4:w7.cell? ⟨w.heap.size+1+1,4,none⟩=some (.slice ma made.length mc):=cell_at hE7 4
  refine ⟨rfl,.tuple #[pa nb 0,.agg #[.int .i64 root,.int .i64 ((getL (prs o) key).getD 0),.bool (getL (prs o) key).isSome,.slice ga gone.length gc,.slice ma made.length mc],.bool true],?_,?_⟩
  ·unfold results pa
   go_simp
  ·have s5:=hT25.size
   have hS2:w.heap.size+2∉F':=fun hm=>(hW3 _ hm).elim (fun h1=>by have:=HL.out _ h1; omega) (fun h1=>by simp at h1; omega)
   have l5:=PL.lt hA5
   have gb:∀ g,(Value.slice ga gone.length gc).ownBlock=some g→w2.heap.size+1≤g:=fun g hg=>by have:=(hg3.fresh hg).1; simp at this; omega
   have mb:∀ g,(Value.slice ma made.length mc).ownBlock=some g→w2.heap.size+1≤g:=fun g hg=>by have:=(hm3.fresh hg).1; simp at this; omega
   have s3:=ht3.size
   have s4:=hT4.size
   have s45:=hT5.size
   simp at s3
   refine ⟨pa nb 0,_,s',F',St',it',rfl,((hT25.trans (hT6.mono (by simp))).inner hT7 (fun x hx=>.inr (by simp at hx; omega))).drew,PL.keep (PL.keep (PL.keep hA5 hT6 (by simp)) hT7 (by simpa using hS2)) (Turned.refl [] _).drew (by simp),fun x hx=>(hW3 x hx).imp id (fun h1=>by simp at h1; omega),htF3,hC3,.inr ⟨nb,root,_,_,_,_,gone,made,o',v6,rfl,rfl,hT7.heap hnb6 (by simp; omega),by omega,fun hm=>by have:=l5 _ hm; omega,?_,fun g hg hm=>by have:=(hR6.fresh hg).1; have:=l5 _ hm; omega,?_,hgF,hd,hp,?_,hmF,_,_,_,rfl⟩⟩
   ·rw [hp]
    exact ((hR6.keep hT7 fun g hg=>by have:=(hR6.fresh hg).1; simp; omega).lower s5).keep (F:=[]) (Turned.refl [] _).drew (by simp)
   ·exact (((((hg3.keep hT4 fun g hg=>by have:=gb g hg; simp; omega).keep hT5 hgF).keep hT6 (by simp)).keep hT7 fun g hg=>by have:=gb g hg; simp; omega).lower (by simp; omega)).keep (F:=[]) (Turned.refl [] _).drew (by simp)
   ·exact (((((hm3.keep hT4 fun g hg=>by have:=mb g hg; simp; omega).keep hT5 hmF).keep hT6 (by simp)).keep hT7 fun g hg=>by have:=mb g hg; simp; omega).lower (by simp; omega)).keep (F:=[]) (Turned.refl [] _).drew (by simp)
end
end Go.Proofs.YtloljphbdfjgdaaGreatDoor
/- Drawn regions of the statements' 'changed', of a drop. (Written by tools/gen/gentried.py.) -/
namespace Go.Proofs.YtloljphbdfjgdaaGreatDoor
open Go.RowKit
section
variable {At:World→Nat→List Nat→PSt→Prop} (PL:PoolLaws At) {K:Act→World→Prop} {Q:Exit→Act→World→Prop} {a0:Act} {w:World} {p bc eb:Nat} {F:List Nat} {s:PSt} {St:List Nat} {it:Nat} {of key val root old n:Int} {gv:Value} {ma:Option Addr} {ml mc:Nat}
include PL
def chgV14d (p bc eb:Nat) (St:List Nat) (old n:Int) (ma:Option Addr) (ml mc:Nat):Option (Option Addr × Nat)→Nat→Value:=fun g i=>match i with | 0=>(pa bc 3) | 1=>(Value.bool true) | 2=>(Value.bool true) | 3=>(Value.bool true) | 4=>(Value.bool false) | 5=>(Value.bool false) | 6=>(Value.bool false) | 7=>(pa eb 2) | 8=>(Value.bool true) | 9=>(Value.bool true) | 10=>(Value.bool false) | 11=>(Value.bool false) | 12=>(Value.bool false) | 13=>(pa eb 1) | 14=>(Value.int IntKind.i64 old) | 15=>(Value.int IntKind.i64 old) | 16=>(Value.bool false) | 17=>(Value.bool false) | 18=>(Value.bool false) | 19=>(pt p) | 20=>(match g with | some y=>Value.slice y.1 St.length y.2 | none=>undef) | 21=>(Value.int IntKind.i64 St.length) | 22=>(Value.int IntKind.i64 n) | 23=>(pa eb 4) | 24=>(Value.slice ma ml mc) | 25=>(Value.int IntKind.i64 ml) | 26=>(Value.int IntKind.i64 (n - ml)) | 27=>(Value.bool false) | 28=>(Value.bool false) | _=>undef
set_option maxRecDepth 100000 in
set_option maxHeartbeats 1600000 in
theorem chg_r14d (hs:a0.tmps.size=178) (x0:a0.eval (.tmp 0)=pt p) (x7:a0.eval (.tmp 7)=pa bc 0) (x11:a0.eval (.tmp 11)=.int .i64 old) (x12:a0.eval (.tmp 12)=.bool true) (x13:a0.eval (.tmp 13)=.int .i64 n) (x14:a0.eval (.tmp 14)=pa eb 0)
  (hA:At w p F s) (hV:PV s St it) (hbc:w.heap[bc]?=some (.cells #[.int .i64 of,.int .i64 key,.int .i64 val,.bool true] 36 (0,0))) (heb:w.heap[eb]?=some (.cells #[.int .i64 root,.int .i64 old,.bool true,gv,.slice ma ml mc] 40 (0,0))) (nbc:bc∉F) (neb:eb∉F) (hn:(St.length:Int)=n - ml) (h0:0≤n) (h1:n≤4096) (h2:ml≤4096)
  (hEnd:∀ a' x,a'.tmps.size=a0.tmps.size→a'.defers=a0.defers→(∀ s,some s∉([some 128,some 129,some 130,some 131,some 132,some 133,some 134,some 135,some 136,some 137,some 138,some 139,some 140,some 141,some 142,some 143,some 144,some 145,some 146,some 147,some 148,some 149,some 150,some 151,some 152,some 153,some 154,some 155,some 156]:List (Option Nat))→a'.eval (.tmp s)=a0.eval (.tmp s))→a'.eval (.tmp 156)=.bool false→At x p F s→Turned F w x→K a' x):(Code.region 14 (opsOf 14 Tryz.f9.body) true).wp Tryz.prog (Exit.then K Q) a0 w:=by
 refine wp_region_ghost3 (G:=Option (Option Addr × Nat)) (by kernel_rfl) [some 128,some 129,some 130,some 131,some 132,some 133,some 134,some 135,some 136,some 137,some 138,some 139,some 140,some 141,some 142,some 143,some 144,some 145,some 146,some 147,some 148,some 149,some 150,some 151,some 152,some 153,some 154,some 155,some 156] (by rw [hs]; kernel_rfl) (chgV14d p bc eb St old n ma ml mc) [20] ?_ (fun g _=>g.isSome) (fun _ x=>At x p F s∧Turned F w x) (none) (⟨PL.keep hA (Turned.refl [] _).drew (by simp),(Turned.refl _ _).drew⟩) (by simp) (by decide) ?_ ?_
 ·intro i g b h γ
  have hi:i < 29:=by
   apply Classical.byContradiction
   intro hn
   rw [show (opsOf 14 Tryz.f9.body)[i]?=none from Array.getElem?_eq_none (by have:(opsOf 14 Tryz.f9.body).size=29:=(by kernel_rfl); omega)] at h
   cases h
  rcases (by omega:i=0∨i=1∨i=2∨i=3∨i=4∨i=5∨i=6∨i=7∨i=8∨i=9∨i=10∨i=11∨i=12∨i=13∨i=14∨i=15∨i=16∨i=17∨i=18∨i=19∨i=20∨i=21∨i=22∨i=23∨i=24∨i=25∨i=26∨i=27∨i=28) with rfl | rfl | rfl | rfl | rfl | rfl | rfl | rfl | rfl | rfl | rfl | rfl | rfl | rfl | rfl | rfl | rfl | rfl | rfl | rfl | rfl | rfl | rfl | rfl | rfl | rfl | rfl | rfl | rfl
  ·exact absurd h (gNo (by kernel_rfl))
  ·exact absurd h (gNo (by kernel_rfl))
  ·exact absurd h (gNo (by kernel_rfl))
  ·rw [show ((opsOf 14 Tryz.f9.body)[3]?).bind (fun o:Oper=>o.guard)=some (2,true) from by kernel_rfl] at h
   obtain ⟨rfl,rfl⟩:2=g∧true=b:=by simpa using h
   exact .inl ⟨true,rfl,fun hne=>absurd rfl hne⟩
  ·rw [show ((opsOf 14 Tryz.f9.body)[4]?).bind (fun o:Oper=>o.guard)=some (2,true) from by kernel_rfl] at h
   obtain ⟨rfl,rfl⟩:2=g∧true=b:=by simpa using h
   exact .inl ⟨true,rfl,fun hne=>absurd rfl hne⟩
  ·exact absurd h (gNo (by kernel_rfl))
  ·exact absurd h (gNo (by kernel_rfl))
  ·rw [show ((opsOf 14 Tryz.f9.body)[7]?).bind (fun o:Oper=>o.guard)=some (6,false) from by kernel_rfl] at h
   obtain ⟨rfl,rfl⟩:6=g∧false=b:=by simpa using h
   exact .inl ⟨false,rfl,fun hne=>absurd rfl hne⟩
  ·rw [show ((opsOf 14 Tryz.f9.body)[8]?).bind (fun o:Oper=>o.guard)=some (6,false) from by kernel_rfl] at h
   obtain ⟨rfl,rfl⟩:6=g∧false=b:=by simpa using h
   exact .inl ⟨false,rfl,fun hne=>absurd rfl hne⟩
  ·rw [show ((opsOf 14 Tryz.f9.body)[9]?).bind (fun o:Oper=>o.guard)=some (6,false) from by kernel_rfl] at h
   obtain ⟨rfl,rfl⟩:6=g∧false=b:=by simpa using h
   exact .inl ⟨false,rfl,fun hne=>absurd rfl hne⟩
  ·rw [show ((opsOf 14 Tryz.f9.body)[10]?).bind (fun o:Oper=>o.guard)=some (6,false) from by kernel_rfl] at h
   obtain ⟨rfl,rfl⟩:6=g∧false=b:=by simpa using h
   exact .inl ⟨false,rfl,fun hne=>absurd rfl hne⟩
  ·exact absurd h (gNo (by kernel_rfl))
  ·exact absurd h (gNo (by kernel_rfl))
  ·rw [show ((opsOf 14 Tryz.f9.body)[13]?).bind (fun o:Oper=>o.guard)=some (12,false) from by kernel_rfl] at h
   obtain ⟨rfl,rfl⟩:12=g∧false=b:=by simpa using h
   exact .inl ⟨false,rfl,fun hne=>absurd rfl hne⟩
  ·rw [show ((opsOf 14 Tryz.f9.body)[14]?).bind (fun o:Oper=>o.guard)=some (12,false) from by kernel_rfl] at h
   obtain ⟨rfl,rfl⟩:12=g∧false=b:=by simpa using h
   exact .inl ⟨false,rfl,fun hne=>absurd rfl hne⟩
  ·rw [show ((opsOf 14 Tryz.f9.body)[15]?).bind (fun o:Oper=>o.guard)=some (12,false) from by kernel_rfl] at h
   obtain ⟨rfl,rfl⟩:12=g∧false=b:=by simpa using h
   exact .inl ⟨false,rfl,fun hne=>absurd rfl hne⟩
  ·rw [show ((opsOf 14 Tryz.f9.body)[16]?).bind (fun o:Oper=>o.guard)=some (12,false) from by kernel_rfl] at h
   obtain ⟨rfl,rfl⟩:12=g∧false=b:=by simpa using h
   exact .inl ⟨false,rfl,fun hne=>absurd rfl hne⟩
  ·exact absurd h (gNo (by kernel_rfl))
  ·exact absurd h (gNo (by kernel_rfl))
  ·rw [show ((opsOf 14 Tryz.f9.body)[19]?).bind (fun o:Oper=>o.guard)=some (18,false) from by kernel_rfl] at h
   obtain ⟨rfl,rfl⟩:18=g∧false=b:=by simpa using h
   exact .inl ⟨false,rfl,fun hne=>absurd rfl hne⟩
  ·rw [show ((opsOf 14 Tryz.f9.body)[20]?).bind (fun o:Oper=>o.guard)=some (18,false) from by kernel_rfl] at h
   obtain ⟨rfl,rfl⟩:18=g∧false=b:=by simpa using h
   exact .inl ⟨false,rfl,fun hne=>absurd rfl hne⟩
  ·rw [show ((opsOf 14 Tryz.f9.body)[21]?).bind (fun o:Oper=>o.guard)=some (18,false) from by kernel_rfl] at h
   obtain ⟨rfl,rfl⟩:18=g∧false=b:=by simpa using h
   exact .inl ⟨false,rfl,fun hne=>absurd rfl hne⟩
  ·rw [show ((opsOf 14 Tryz.f9.body)[22]?).bind (fun o:Oper=>o.guard)=some (18,false) from by kernel_rfl] at h
   obtain ⟨rfl,rfl⟩:18=g∧false=b:=by simpa using h
   exact .inl ⟨false,rfl,fun hne=>absurd rfl hne⟩
  ·rw [show ((opsOf 14 Tryz.f9.body)[23]?).bind (fun o:Oper=>o.guard)=some (18,false) from by kernel_rfl] at h
   obtain ⟨rfl,rfl⟩:18=g∧false=b:=by simpa using h
   exact .inl ⟨false,rfl,fun hne=>absurd rfl hne⟩
  ·rw [show ((opsOf 14 Tryz.f9.body)[24]?).bind (fun o:Oper=>o.guard)=some (18,false) from by kernel_rfl] at h
   obtain ⟨rfl,rfl⟩:18=g∧false=b:=by simpa using h
   exact .inl ⟨false,rfl,fun hne=>absurd rfl hne⟩
  ·rw [show ((opsOf 14 Tryz.f9.body)[25]?).bind (fun o:Oper=>o.guard)=some (18,false) from by kernel_rfl] at h
   obtain ⟨rfl,rfl⟩:18=g∧false=b:=by simpa using h
   exact .inl ⟨false,rfl,fun hne=>absurd rfl hne⟩
  ·rw [show ((opsOf 14 Tryz.f9.body)[26]?).bind (fun o:Oper=>o.guard)=some (18,false) from by kernel_rfl] at h
   obtain ⟨rfl,rfl⟩:18=g∧false=b:=by simpa using h
   exact .inl ⟨false,rfl,fun hne=>absurd rfl hne⟩
  ·rw [show ((opsOf 14 Tryz.f9.body)[27]?).bind (fun o:Oper=>o.guard)=some (18,false) from by kernel_rfl] at h
   obtain ⟨rfl,rfl⟩:18=g∧false=b:=by simpa using h
   exact .inl ⟨false,rfl,fun hne=>absurd rfl hne⟩
  ·exact absurd h (gNo (by kernel_rfl))
 ·intro i hi hgd
  rcases (by simp at hi; omega:i=0∨i=1∨i=2∨i=3∨i=4∨i=5∨i=6∨i=7∨i=8∨i=9∨i=10∨i=11∨i=12∨i=13∨i=14∨i=15∨i=16∨i=17∨i=18∨i=19∨i=20∨i=21∨i=22∨i=23∨i=24∨i=25∨i=26∨i=27∨i=28) with rfl | rfl | rfl | rfl | rfl | rfl | rfl | rfl | rfl | rfl | rfl | rfl | rfl | rfl | rfl | rfl | rfl | rfl | rfl | rfl | rfl | rfl | rfl | rfl | rfl | rfl | rfl | rfl | rfl
  ·refine soft (by decide) ?_
   intro o ac wa g ho hoff hv hS hdn
   exact x_field (op_is rfl ho) (by rw [((hoff 7 (by decide)).trans x7)]; show (Instr.fieldAt _ (pa _ _) _).run _ _=.ok (pa _ _) _; unfold pa; go_simp)
  ·refine soft (by decide) ?_
   intro o ac wa g ho hoff hv hS hdn
   have hc:=cell_at (hS.2.heap hbc nbc) 3
   exact x_load (op_is rfl ho) (by rw [(hv 0 128 rfl (by kernel_rfl))]; show (Instr.loadAt _ (pa _ _)).run _ _=_; unfold pa; go_simp; rfl)
  ·refine soft (by decide) ?_
   intro o ac wa g ho hoff hv hS hdn
   exact (x_move (op_is rfl ho)).trans (by rw [(hv 1 129 rfl (by kernel_rfl))]; rfl)
  ·refine soft (by decide) ?_
   intro o ac wa g ho hoff hv hS hdn
   exact (x_move (op_is rfl ho)).trans (by rw [((hoff 12 (by decide)).trans x12)]; rfl)
  ·refine soft (by decide) ?_
   intro o ac wa g ho hoff hv hS hdn
   exact (x_notG (op_is rfl ho) ((hv 3 131 rfl (by kernel_rfl)))).trans rfl
  ·refine soft (by decide) ?_
   intro o ac wa g ho hoff hv hS hdn
   exact (x_pickG (op_is rfl ho) ((hv 2 130 rfl (by kernel_rfl)))).trans (by rw [if_pos rfl,(hv 4 132 rfl (by kernel_rfl))]; rfl)
  ·refine soft (by decide) ?_
   intro o ac wa g ho hoff hv hS hdn
   exact (x_move (op_is rfl ho)).trans (by rw [(hv 5 133 rfl (by kernel_rfl))]; rfl)
  ·refine soft (by decide) ?_
   intro o ac wa g ho hoff hv hS hdn
   exact x_field (op_is rfl ho) (by rw [((hoff 14 (by decide)).trans x14)]; show (Instr.fieldAt _ (pa _ _) _).run _ _=.ok (pa _ _) _; unfold pa; go_simp)
  ·refine soft (by decide) ?_
   intro o ac wa g ho hoff hv hS hdn
   have hc:=cell_at (hS.2.heap heb neb) 2
   exact x_load (op_is rfl ho) (by rw [(hv 7 135 rfl (by kernel_rfl))]; show (Instr.loadAt _ (pa _ _)).run _ _=_; unfold pa; go_simp; rfl)
  ·refine soft (by decide) ?_
   intro o ac wa g ho hoff hv hS hdn
   exact (x_move (op_is rfl ho)).trans (by rw [((hoff 12 (by decide)).trans x12)]; rfl)
  ·refine soft (by decide) ?_
   intro o ac wa g ho hoff hv hS hdn
   exact (x_neqB (op_is rfl ho) (hv 8 136 rfl (by kernel_rfl)) (hv 9 137 rfl (by kernel_rfl))).trans (by rw [show (true != true)=false by rfl]; rfl)
  ·refine soft (by decide) ?_
   intro o ac wa g ho hoff hv hS hdn
   exact (x_pickG (op_is rfl ho) ((hv 6 134 rfl (by kernel_rfl)))).trans (by rw [if_neg (by decide),(hv 10 138 rfl (by kernel_rfl))]; rfl)
  ·refine soft (by decide) ?_
   intro o ac wa g ho hoff hv hS hdn
   exact (x_move (op_is rfl ho)).trans (by rw [(hv 11 139 rfl (by kernel_rfl))]; rfl)
  ·refine soft (by decide) ?_
   intro o ac wa g ho hoff hv hS hdn
   exact x_field (op_is rfl ho) (by rw [((hoff 14 (by decide)).trans x14)]; show (Instr.fieldAt _ (pa _ _) _).run _ _=.ok (pa _ _) _; unfold pa; go_simp)
  ·refine soft (by decide) ?_
   intro o ac wa g ho hoff hv hS hdn
   have hc:=cell_at (hS.2.heap heb neb) 1
   exact x_load (op_is rfl ho) (by rw [(hv 13 141 rfl (by kernel_rfl))]; show (Instr.loadAt _ (pa _ _)).run _ _=_; unfold pa; go_simp; rfl)
  ·refine soft (by decide) ?_
   intro o ac wa g ho hoff hv hS hdn
   exact (x_move (op_is rfl ho)).trans (by rw [((hoff 11 (by decide)).trans x11)]; rfl)
  ·refine soft (by decide) ?_
   intro o ac wa g ho hoff hv hS hdn
   exact (x_neqN (op_is rfl ho) (hv 14 142 rfl (by kernel_rfl)) (hv 15 143 rfl (by kernel_rfl))).trans (by rw [show (old != old)=false by simp]; rfl)
  ·refine soft (by decide) ?_
   intro o ac wa g ho hoff hv hS hdn
   exact (x_pickG (op_is rfl ho) ((hv 12 140 rfl (by kernel_rfl)))).trans (by rw [if_neg (by decide),(hv 16 144 rfl (by kernel_rfl))]; rfl)
  ·refine soft (by decide) ?_
   intro o ac wa g ho hoff hv hS hdn
   exact (x_move (op_is rfl ho)).trans (by rw [(hv 17 145 rfl (by kernel_rfl))]; rfl)
  ·refine soft (by decide) ?_
   intro o ac wa g ho hoff hv hS hdn
   exact (x_move (op_is rfl ho)).trans (by rw [((hoff 0 (by decide)).trans x0)]; rfl)
  ·intro o ac wa g K ho hd _ hoff hv hS _ hnd _ hK
   obtain rfl:g=none:=by have:=hnd (by simp); cases g <;> simp at this ⊢
   refine l_callE (op_is rfl ho) (xs:=#[pt p]) (by simp only [List.map_toArray,List.map_cons,List.map_nil]; rw [hv 19 147 rfl (by kernel_rfl)]; rfl) Tryz.func29 (by kernel_rfl) rfl (PL.free hS.1 hV.ok hV.top hV.nodup hV.small) ?_
   rintro e w' ⟨⟨a5,c5,rfl⟩,ht,hA'⟩
   refine ⟨_,rfl,?_⟩
   rw [hd]
   refine hK (some (a5,c5)) w' ⟨hA',hS.2.trans ht⟩ (by simp) fun j hj hr=>?_
   have hjl:j≠20:=hj
   match j,hr with
   | 0,_=>rfl
   | 1,_=>rfl
   | 2,_=>rfl
   | 3,_=>rfl
   | 4,_=>rfl
   | 5,_=>rfl
   | 6,_=>rfl
   | 7,_=>rfl
   | 8,_=>rfl
   | 9,_=>rfl
   | 10,_=>rfl
   | 11,_=>rfl
   | 12,_=>rfl
   | 13,_=>rfl
   | 14,_=>rfl
   | 15,_=>rfl
   | 16,_=>rfl
   | 17,_=>rfl
   | 18,_=>rfl
   | 19,_=>rfl
   | 21,_=>rfl
   | 22,_=>rfl
   | 23,_=>rfl
   | 24,_=>rfl
   | 25,_=>rfl
   | 26,_=>rfl
   | 27,_=>rfl
   | 28,_=>rfl
   | 20,_=>exact absurd rfl hjl
   | k+29,_=>rfl
  ·refine soft (by decide) ?_
   intro o ac wa g ho hoff hv hS hdn
   obtain ⟨y,rfl⟩:=Option.isSome_iff_exists.1 (hdn 20 (by simp) (by kernel_rfl))
   exact x_lenG (op_is rfl ho) (hv 20 148 rfl (by kernel_rfl)) undIntsG
  ·refine soft (by decide) ?_
   intro o ac wa g ho hoff hv hS hdn
   exact (x_move (op_is rfl ho)).trans (by rw [((hoff 13 (by decide)).trans x13)]; rfl)
  ·refine soft (by decide) ?_
   intro o ac wa g ho hoff hv hS hdn
   exact x_field (op_is rfl ho) (by rw [((hoff 14 (by decide)).trans x14)]; show (Instr.fieldAt _ (pa _ _) _).run _ _=.ok (pa _ _) _; unfold pa; go_simp)
  ·refine soft (by decide) ?_
   intro o ac wa g ho hoff hv hS hdn
   have hc:=cell_at (hS.2.heap heb neb) 4
   exact x_load (op_is rfl ho) (by rw [(hv 23 151 rfl (by kernel_rfl))]; show (Instr.loadAt _ (pa _ _)).run _ _=_; unfold pa; go_simp; rfl)
  ·refine soft (by decide) ?_
   intro o ac wa g ho hoff hv hS hdn
   exact x_lenG (op_is rfl ho) (hv 24 152 rfl (by kernel_rfl)) undIntsG
  ·refine soft (by decide) ?_
   intro o ac wa g ho hoff hv hS hdn
   exact x_subN (op_is rfl ho) (hv 22 150 rfl (by kernel_rfl)) (hv 25 153 rfl (by kernel_rfl)) (by omega) (by omega)
  ·refine soft (by decide) ?_
   intro o ac wa g ho hoff hv hS hdn
   exact (x_neqN (op_is rfl ho) (hv 21 149 rfl (by kernel_rfl)) (hv 26 154 rfl (by kernel_rfl))).trans (by rw [show ((St.length:Int) != n - ml)=false by simp [hn]]; rfl)
  ·refine soft (by decide) ?_
   intro o ac wa g ho hoff hv hS hdn
   exact (x_pickG (op_is rfl ho) ((hv 18 146 rfl (by kernel_rfl)))).trans (by rw [if_neg (by decide),(hv 27 155 rfl (by kernel_rfl))]; rfl)
 ·intro a' w' g hsz hdf hoff hS hdn hval
  obtain ⟨y,rfl⟩:=Option.isSome_iff_exists.1 (hdn 20 (by simp))
  exact hEnd a' w' hsz hdf (fun s hs=>ev_same (hoff s hs)) (hval 28 156 rfl) hS.1 hS.2
end
end Go.Proofs.YtloljphbdfjgdaaGreatDoor

/- A map tells what it must: the statements' 'tells', of a list that lies somewhere. -/
import Derived.Test.YtcinlaacgbfojaaGreatDoorJ40
import Derived.Test.YtcinlaacgbfojaaGreatDoorJ39
namespace Go.Proofs.YtcinlaacgbfojaaGreatDoor
open Go.RowKit
theorem mid_all {tr:Option Tr} {s:PSt} (hO:Holds s tr):midL (prs tr) 0 4294967295=prs tr:=by
 unfold midL
 refine List.filter_eq_self.2 fun x hx=>?_
 obtain ⟨i,hi,rfl⟩:=List.mem_iff_getElem.1 hx
 have:=key_of hO hi
 simpa [isKey] using this
theorem TW.rebase {At:World→Nat→List Nat→PSt→Prop} {Tb:World→Nat→Nat→Prop} {W x:World} {S p tb lg lc:Nat} {F:List Nat} {s:PSt} {tr:Option Tr} (h:TW At Tb W S p tb F s tr lg lc x):TW At Tb x S p tb F s tr lg lc x:=⟨h.at_,h.tb_,h.ntb,h.box,h.nS,h.row,h.nl,Turned.refl _ _⟩
theorem TW.join {At:World→Nat→List Nat→PSt→Prop} {Tb:World→Nat→Nat→Prop} {W x y:World} {S p tb lg lc:Nat} {F:List Nat} {s:PSt} {tr:Option Tr} (h:TW At Tb W S p tb F s tr lg lc x) (k:TW At Tb x S p tb F s tr lg lc y):TW At Tb W S p tb F s tr lg lc y:=⟨k.at_,k.tb_,k.ntb,k.box,k.nS,k.row,k.nl,h.turned.trans k.turned⟩
theorem mid_succ {l:List (Int × Int)} {i:Nat} (lo hi:Int) (h:i < l.length):midL (l.take (i+1)) lo hi=if lo≤l[i].1∧l[i].1≤hi then midL (l.take i) lo hi ++ [(l[i].1,l[i].2)] else midL (l.take i) lo hi:=by
 unfold midL
 rw [List.take_succ_eq_append_getElem h,List.filter_append]
 split
 ·rename_i hh
  simp [hh]
 ·rename_i hh
  rw [List.filter_cons_of_neg (by simpa using hh)]
  simp
structure TI (At:World→Nat→List Nat→PSt→Prop) (Tb:World→Nat→Nat→Prop) (W:World) (S p tb:Nat) (F:List Nat) (s:PSt) (tr:Option Tr) (lg lc B:Nat) (lo hi:Int) (i:Nat) (vs:Value) (a:Act) (x:World):Prop where
 size:a.tmps.size=299
 defers:a.defers=[]
 e0:a.eval (.tmp 0)=pt tb
 e2:a.eval (.tmp 2)=.int .i64 lo
 e3:a.eval (.tmp 3)=.int .i64 hi
 e5:a.eval (.tmp 5)=pa S 0
 e9:a.eval (.tmp 9)=.slice (some ⟨lg,0,none⟩) (prs tr).length lc
 e17:a.eval (.tmp 17)=vs
 e18:a.eval (.tmp 18)=.int .i64 i
 tw:TW At Tb W S p tb F s tr lg lc x
 row:PR B x vs (midL ((prs tr).take i) lo hi)
 base:B≤x.heap.size
structure TX (At:World→Nat→List Nat→PSt→Prop) (Tb:World→Nat→Nat→Prop) (W:World) (S p tb:Nat) (F:List Nat) (s:PSt) (tr:Option Tr) (lg lc B:Nat) (lo hi:Int) (a:Act) (x:World):Prop where
 ex:∃ i vs,i≤(prs tr).length∧TI At Tb W S p tb F s tr lg lc B lo hi i vs a x
section
variable {At:World→Nat→List Nat→PSt→Prop} {Tb:World→Nat→Nat→Prop} (PL:PoolLaws At) (TL:TrieLaws At Tb) {w:World} {p tb lg lc B:Nat} {F:List Nat} {s:PSt} {tr:Option Tr}
include PL TL
theorem TW.others {W x y:World} {S C:Nat} {l:List Nat} (h:TW At Tb W S p tb F s tr lg lc x) (ht:Turned l x y) (hb:∀ z,z∈l→C≤z) (hF:∀ z,z∈F→z < C) (hW:W.heap.size≤C) (hlt:tb < C∧S < C∧lg < C):TW At Tb W S p tb F s tr lg lc y :=
 ⟨PL.keep h.at_ ht (fun z hz hm=>by have:=hF z hm; have:=hb z hz; omega),TL.keepT h.tb_ ht (fun hm=>by have:=hb _ hm; omega) (fun hm=>by have:=hb _ hm; have:=TL.ltT h.tb_; omega),h.ntb,ht.heap h.box (fun hm=>by have:=hb _ hm; omega),h.nS,h.row.keep ht (fun g hg hm=>by simp only [Value.ownBlock,Option.some.injEq] at hg; have:=hb _ hm; omega),h.nl,h.turned.inner ht (fun z hz=>.inr (by have:=hb z hz; omega))⟩
set_option maxRecDepth 100000 in
set_option maxHeartbeats 3200000 in
theorem cTells (hA:At w p F s) (hT:Tb w tb p) (htF:tb∉F) (hok:s.Ok) (hO:Holds s tr) (hR:PR B w (.slice (some ⟨lg,0,none⟩) (prs tr).length lc) (prs tr)) (hRF:lg∉F) (hlen:(prs tr).length≤100000) (hpos:0 < (prs tr).length) (lo hi:Int) :
  Calls Tryz.prog 14 #[pt tb,.agg #[.int .i64 (rootO tr),.slice (some ⟨lg,0,none⟩) (prs tr).length lc],.int .i64 lo,.int .i64 hi] w fun e w'=>e=.returned (.bool true)∧Turned F w w'∧At w' p F s:=by
 have hF:=PL.lt hA
 have hlg:=(hR.fresh rfl).2
 have h0:TW At Tb w w.heap.size p tb F s tr lg lc (w.alloc (verObj (rootO tr) (.slice (some ⟨lg,0,none⟩) (prs tr).length lc))) :=
  ⟨PL.keep hA ((Turned.refl [] _).alloc _) (by simp),TL.keepT hT ((Turned.refl [] _).alloc _) (by simp) (by simp),htF,blk_new _ _,fun hm=>by have:=hF _ hm; omega,(hR.keep (F:=[]) ((Turned.refl _ _).alloc _) (by simp)).lower (Nat.zero_le _),hRF,(Turned.refl _ _).alloc _⟩
 have HW:Hid (∀ x,TW At Tb w w.heap.size p tb F s tr lg lc x→∀ lo hi,isKey lo→isKey hi→_):=fun x hx lo hi h1 h2=>TL.walk hx.at_ hok hx.tb_ hx.ntb hO lo hi h1 h2
 have HC:Hid (∀ x,TW At Tb w w.heap.size p tb F s tr lg lc x→_):=fun x hx=>TL.count hx.at_ hok hx.tb_ hx.ntb hO
 have HN:Hid (∀ x,TW At Tb w w.heap.size p tb F s tr lg lc x→_):=fun x hx=>TL.nodes hx.at_ hok hx.tb_ hx.ntb hO
 have H0:Hid _:=h0
 have hma:=mid_all hO
 have hcn:=Holds.count tr
 have h12:(1:Int) < 2 * ((prs tr).length:Int):=by omega
 have hq:(((2 * (prs tr).length - 1:Nat):Int) != 2 * ((prs tr).length:Int) - 1)=false:=by
  have:((2 * (prs tr).length - 1:Nat):Int)=2 * ((prs tr).length:Int) - 1:=by omega
  simp [← this]
 have q0:(w.alloc (verObj (rootO tr) (.slice (some ⟨lg,0,none⟩) (prs tr).length lc))).cell? ⟨w.heap.size,0,none⟩=some (.int .i64 (rootO tr)):=cell_at h0.box 0
 unfold verObj at q0 H0
 go_enter Tryz.func14,Tryz.ntmps14
 go_wp2_with (first
  | (go_at_call 37; refine (HW.out _ H0.out 0 4294967295 ⟨by omega,by omega⟩ ⟨by omega,by omega⟩).mono ?_; rintro e w1 ⟨fn1,caps1,rfl,hE1,ht1,hA1,hG1⟩; have T1:Hid (TW At Tb w w.heap.size p tb F s tr lg lc w1):=H0.out.step TL ht1 hA1; have HE1:Hid _:=hE1; have HG1:Hid _:=hG1; clear hE1 hG1 ht1 hA1 q0 H0)
  | (go_at_call 36; refine (cGivenAll (F:=F) (X:=fun x=>At x p F s) T1.out.at_ (fun a b ha hb=>PL.keep ha hb (by simp)) (PL.lt T1.out.at_) HE1.out (fun x hx hAx J fy cy G z1 z2 z3=>HG1.out x [] hx (by simp) hAx J fy cy G z1 z2 z3) (by rw [hma]; omega)).mono ?_; rintro e w2 ⟨v2,rfl,hR2,ht2,hA2⟩; have T2:Hid (TW At Tb w w.heap.size p tb F s tr lg lc w2):=T1.out.step TL ht2 hA2; have R2:Hid (PR 0 w2 v2 (prs tr)):=(hma ▸ hR2).lower (Nat.zero_le _); have N2:Hid (∀ g,v2.ownBlock=some g→g∉F):=(fun g hg hm=>by have:=(hR2.fresh hg).1; have:=PL.lt T1.out.at_ g hm; omega); obtain ⟨a2,c2,rfl⟩:=R2.out.isSl; have q0:w2.cell? ⟨w.heap.size,0,none⟩=some (.int .i64 (rootO tr)):=cell_at T2.out.box 0; clear hR2 ht2 hA2 HE1 HG1 T1)
  | (go_at_call 38; refine (HC.out _ T2.out).mono ?_; rintro e w3 ⟨rfl,ht3,hA3⟩; have T3:Hid (TW At Tb w w.heap.size p tb F s tr lg lc w3):=T2.out.step TL ht3 hA3; have R3:Hid _:=R2.out.keep ht3 N2.out; clear q0; have q0:w3.cell? ⟨w.heap.size,0,none⟩=some (.int .i64 (rootO tr)):=cell_at T3.out.box 0; clear ht3 hA3 T2 R2)
  | (go_at_call 39; refine (HN.out _ T3.out).mono ?_; rintro e w4 ⟨v4,rfl,ht4,hA4,hI4⟩; have T4:Hid (TW At Tb w w.heap.size p tb F s tr lg lc w4):=T3.out.step TL ht4 hA4; have R4:Hid _:=R3.out.keep ht4 N2.out; obtain ⟨a4,c4,rfl⟩:=hI4.form; rw [hcn]; clear q0 ht4 hA4 hI4 T3 R3)
  | (go_at_call 40; refine (cPairs R4.out T4.out.row (by omega)).mono ?_; rintro e w5 ⟨rfl,ht5⟩; have T5:Hid (TW At Tb w w.heap.size p tb F s tr lg lc w5):=T4.out.fresh PL TL ht5; clear ht5 T4 R4)
  | (go_at_call 8; refine (cNum _ _).mono ?_; rintro e w' ⟨rfl,hw⟩; obtain rfl:=hw.symm))
 (
  refine wp_loop (fun a' x=>TX At Tb w w.heap.size p tb F s tr lg lc w5.heap.size lo hi a' x) (fun a' _=>(prs tr).length - (intOf (a'.eval (.tmp 18))).toNat) ⟨⟨0,.slice none 0 0,Nat.zero_le _,⟨rfl,rfl,rfl,rfl,rfl,rfl,rfl,rfl,rfl,T5.out,by simpa [midL] using PR.nil _ _,Nat.le_refl _⟩⟩⟩ ?_
  rintro a' x ⟨⟨i,vs,hil,hI⟩⟩
  by_cases hlt:i < (prs tr).length
  ·-- ROUND
   obtain ⟨cc,hcc,hce⟩:=expand299 hI.size hI.defers
   have g0:=(hce 0).trans hI.e0
   have g2:=(hce 2).trans hI.e2
   have g3:=(hce 3).trans hI.e3
   have g5:=(hce 5).trans hI.e5
   have g9:=(hce 9).trans hI.e9
   have g17:=(hce 17).trans hI.e17
   have g18:=(hce 18).trans hI.e18
   have t0:=hI.tw
   have hrow:Hid _:=hI.row
   have hbase:Hid _:=hI.base
   clear hce hI
   subst hcc
   simp only [lit299,g0,g2,g3,g5,g9,g17,g18]
   clear g0 g2 g3 g5 g9 g17 g18
   have hlt2:(i:Int) < ((prs tr).length:Int):=by omega
   have T0:Hid _:=t0
   clear t0
   go_wp2
   refine tel_r11 PL TL rfl rfl rfl rfl rfl T0.out.rebase hlt rfl rfl hO hok ?_
   intro a1 x1 hsz hdf hoff f19 f20 f21 t1
   have T1:Hid (TW At Tb w w.heap.size p tb F s tr lg lc x1):=T0.out.join t1
   have U1:Hid (Turned F x x1):=t1.turned
   clear t1 T0
   have f0:a1.eval (.tmp 0)=pt tb:=hoff 0 (by decide)
   have f2:a1.eval (.tmp 2)=.int .i64 lo:=hoff 2 (by decide)
   have f3:a1.eval (.tmp 3)=.int .i64 hi:=hoff 3 (by decide)
   have f5:a1.eval (.tmp 5)=pa w.heap.size 0:=hoff 5 (by decide)
   have f9:a1.eval (.tmp 9)=.slice (some ⟨lg,0,none⟩) (prs tr).length lc:=hoff 9 (by decide)
   have f17:a1.eval (.tmp 17)=vs:=hoff 17 (by decide)
   have f18:a1.eval (.tmp 18)=.int .i64 i:=hoff 18 (by decide)
   have hsz2:a1.tmps.size=299:=hsz
   have hdf2:a1.defers=[]:=hdf
   clear hsz hdf hoff
   obtain ⟨ca1,hcc,hce⟩:=expand299 hsz2 hdf2
   have g0:=(hce 0).trans f0
   have g2:=(hce 2).trans f2
   have g3:=(hce 3).trans f3
   have g5:=(hce 5).trans f5
   have g9:=(hce 9).trans f9
   have g17:=(hce 17).trans f17
   have g18:=(hce 18).trans f18
   have g19:=(hce 19).trans f19
   have g20:=(hce 20).trans f20
   have g21:=(hce 21).trans f21
   clear hce hsz2 hdf2 f0 f2 f3 f5 f9 f17 f18 f19 f20 f21
   subst hcc
   simp only [lit299,g0,g2,g3,g5,g9,g17,g18,g19,g20,g21]
   clear g0 g2 g3 g5 g9 g17 g18 g19 g20 g21
   go_wp2
   refine tel_r12 PL TL rfl rfl rfl rfl rfl T1.out.rebase hlt rfl hO hok ?_
   intro a2 x2 hsz hdf hoff f22 f23 t2
   have T2:Hid (TW At Tb w w.heap.size p tb F s tr lg lc x2):=T1.out.join t2
   have U2:Hid (Turned F x x2):=U1.out.trans t2.turned
   clear t2 T1 U1
   have f0:a2.eval (.tmp 0)=pt tb:=hoff 0 (by decide)
   have f2:a2.eval (.tmp 2)=.int .i64 lo:=hoff 2 (by decide)
   have f3:a2.eval (.tmp 3)=.int .i64 hi:=hoff 3 (by decide)
   have f5:a2.eval (.tmp 5)=pa w.heap.size 0:=hoff 5 (by decide)
   have f9:a2.eval (.tmp 9)=.slice (some ⟨lg,0,none⟩) (prs tr).length lc:=hoff 9 (by decide)
   have f17:a2.eval (.tmp 17)=vs:=hoff 17 (by decide)
   have f18:a2.eval (.tmp 18)=.int .i64 i:=hoff 18 (by decide)
   have f19:a2.eval (.tmp 19)=.int .i64 (prs tr)[i].2:=hoff 19 (by decide)
   have f20:a2.eval (.tmp 20)=.bool true:=hoff 20 (by decide)
   have f21:a2.eval (.tmp 21)=.int .i64 0:=hoff 21 (by decide)
   have hsz2:a2.tmps.size=299:=hsz
   have hdf2:a2.defers=[]:=hdf
   clear hsz hdf hoff
   obtain ⟨ca2,hcc,hce⟩:=expand299 hsz2 hdf2
   have g0:=(hce 0).trans f0
   have g2:=(hce 2).trans f2
   have g3:=(hce 3).trans f3
   have g5:=(hce 5).trans f5
   have g9:=(hce 9).trans f9
   have g17:=(hce 17).trans f17
   have g18:=(hce 18).trans f18
   have g19:=(hce 19).trans f19
   have g20:=(hce 20).trans f20
   have g21:=(hce 21).trans f21
   have g22:=(hce 22).trans f22
   have g23:=(hce 23).trans f23
   clear hce hsz2 hdf2 f0 f2 f3 f5 f9 f17 f18 f19 f20 f21 f22 f23
   subst hcc
   simp only [lit299,g0,g2,g3,g5,g9,g17,g18,g19,g20,g21,g22,g23]
   clear g0 g2 g3 g5 g9 g17 g18 g19 g20 g21 g22 g23
   have q0:x2.cell? ⟨w.heap.size,0,none⟩=some (.int .i64 (rootO tr)):=cell_at T2.out.box 0
   unfold pa
   go_wp2_with ((go_at_call 21; refine (TL.select T2.out.at_ hok T2.out.tb_ T2.out.ntb hO i hlt).mono ?_; rintro e x3 ⟨rfl,ht3,hA3⟩; have T3:Hid (TW At Tb w w.heap.size p tb F s tr lg lc x3):=T2.out.step TL ht3 hA3; have U3:Hid (Turned F x x3):=U2.out.trans ht3; clear q0 ht3 hA3 T2 U2))
   have h24:=blk_new x3 (pairObj (prs tr)[i].1 (prs tr)[i].2)
   have T4:Hid (TW At Tb w w.heap.size p tb F s tr lg lc (x3.alloc (pairObj (prs tr)[i].1 (prs tr)[i].2))):=T3.out.fresh PL TL ((Turned.refl _ _).alloc _)
   have U4:Hid (Turned F x (x3.alloc (pairObj (prs tr)[i].1 (prs tr)[i].2))):=U3.out.alloc _
   have s3:w.heap.size < x3.heap.size:=lt_of_heap T3.out.box
   have n24:x3.heap.size∉F:=fun hm=>by have:=PL.lt T3.out.at_ _ hm; omega
   change Code.wp _ _ _ _ (x3.alloc (pairObj (prs tr)[i].1 (prs tr)[i].2))
   have s4:w.heap.size < (x3.alloc (pairObj (prs tr)[i].1 (prs tr)[i].2)).heap.size:=by simp; omega
   generalize hx4:x3.alloc (pairObj (prs tr)[i].1 (prs tr)[i].2)=x4 at h24 T4 U4 s4 ⊢
   clear hx4 T3 U3
   by_cases hj:i+1 < (prs tr).length
   ·refine tel_r14 PL TL (k:=(prs tr)[i].1) (u1:=(prs tr)[i+1].1) (u2:=(prs tr)[i+1].2) (er:=0) rfl rfl rfl rfl rfl T4.out.rebase hlt rfl s4 (fun y h1 h2=>TL.next h1 hok h2 T4.out.ntb hO i hj) ?_
    intro a5 x5 nb hsz hdf hoff f26 f27 t5 h26 hnb
    have T5x:Hid (TW At Tb w w.heap.size p tb F s tr lg lc x5):=T4.out.join t5
    have U5:Hid (Turned F x x5):=U4.out.trans t5.turned
    have h24b:=t5.turned.heap h24 n24
    clear t5 T4 U4 h24
    have f0:a5.eval (.tmp 0)=pt tb:=hoff 0 (by decide)
    have f2:a5.eval (.tmp 2)=.int .i64 lo:=hoff 2 (by decide)
    have f3:a5.eval (.tmp 3)=.int .i64 hi:=hoff 3 (by decide)
    have f5:a5.eval (.tmp 5)=pa w.heap.size 0:=hoff 5 (by decide)
    have f9:a5.eval (.tmp 9)=.slice (some ⟨lg,0,none⟩) (prs tr).length lc:=hoff 9 (by decide)
    have f17:a5.eval (.tmp 17)=vs:=hoff 17 (by decide)
    have f18:a5.eval (.tmp 18)=.int .i64 i:=hoff 18 (by decide)
    have f19:a5.eval (.tmp 19)=.int .i64 (prs tr)[i].2:=hoff 19 (by decide)
    have f20:a5.eval (.tmp 20)=.bool true:=hoff 20 (by decide)
    have f21:a5.eval (.tmp 21)=.int .i64 0:=hoff 21 (by decide)
    have f22:a5.eval (.tmp 22)=.int .i64 i:=hoff 22 (by decide)
    have f23:a5.eval (.tmp 23)=.int .i64 0:=hoff 23 (by decide)
    have f24:a5.eval (.tmp 24)=pa x3.heap.size 0:=hoff 24 (by decide)
    have f25:a5.eval (.tmp 25)=.int .i64 0:=hoff 25 (by decide)
    have hsz2:a5.tmps.size=299:=hsz
    have hdf2:a5.defers=[]:=hdf
    clear hsz hdf hoff
    obtain ⟨ca5,hcc,hce⟩:=expand299 hsz2 hdf2
    have g0:=(hce 0).trans f0
    have g2:=(hce 2).trans f2
    have g3:=(hce 3).trans f3
    have g5:=(hce 5).trans f5
    have g9:=(hce 9).trans f9
    have g17:=(hce 17).trans f17
    have g18:=(hce 18).trans f18
    have g19:=(hce 19).trans f19
    have g20:=(hce 20).trans f20
    have g21:=(hce 21).trans f21
    have g22:=(hce 22).trans f22
    have g23:=(hce 23).trans f23
    have g24:=(hce 24).trans f24
    have g25:=(hce 25).trans f25
    have g26:=(hce 26).trans f26
    have g27:=(hce 27).trans f27
    clear hce hsz2 hdf2 f0 f2 f3 f5 f9 f17 f18 f19 f20 f21 f22 f23 f24 f25 f26 f27
    subst hcc
    simp only [lit299,g0,g2,g3,g5,g9,g17,g18,g19,g20,g21,g22,g23,g24,g25,g26,g27]
    clear g0 g2 g3 g5 g9 g17 g18 g19 g20 g21 g22 g23 g24 g25 g26 g27
    go_wp2
    refine tel_r15 PL TL (k:=(prs tr)[i].1) rfl rfl rfl rfl rfl rfl rfl rfl rfl rfl T5x.out.rebase hlt rfl rfl h24b ?_
    intro a6 x6 hsz hdf hoff f184 t6 u6
    have T6:Hid (TW At Tb w w.heap.size p tb F s tr lg lc x6):=T5x.out.join t6
    have U6:Hid (Turned F x x6):=U5.out.trans t6.turned
    have h26b:=u6.heap h26 (by simp)
    clear t6 u6 T5x U5 h26 h24b
    have f0:a6.eval (.tmp 0)=pt tb:=hoff 0 (by decide)
    have f2:a6.eval (.tmp 2)=.int .i64 lo:=hoff 2 (by decide)
    have f3:a6.eval (.tmp 3)=.int .i64 hi:=hoff 3 (by decide)
    have f5:a6.eval (.tmp 5)=pa w.heap.size 0:=hoff 5 (by decide)
    have f9:a6.eval (.tmp 9)=.slice (some ⟨lg,0,none⟩) (prs tr).length lc:=hoff 9 (by decide)
    have f17:a6.eval (.tmp 17)=vs:=hoff 17 (by decide)
    have f18:a6.eval (.tmp 18)=.int .i64 i:=hoff 18 (by decide)
    have f26:a6.eval (.tmp 26)=pa nb 0:=hoff 26 (by decide)
    have f27:a6.eval (.tmp 27)=.int .i64 0:=hoff 27 (by decide)
    have hsz2:a6.tmps.size=299:=hsz
    have hdf2:a6.defers=[]:=hdf
    clear hsz hdf hoff
    obtain ⟨ca6,hcc,hce⟩:=expand299 hsz2 hdf2
    have g0:=(hce 0).trans f0
    have g2:=(hce 2).trans f2
    have g3:=(hce 3).trans f3
    have g5:=(hce 5).trans f5
    have g9:=(hce 9).trans f9
    have g17:=(hce 17).trans f17
    have g18:=(hce 18).trans f18
    have g26:=(hce 26).trans f26
    have g27:=(hce 27).trans f27
    have g184:=(hce 184).trans f184
    clear hce hsz2 hdf2 f0 f2 f3 f5 f9 f17 f18 f26 f27 f184
    subst hcc
    simp only [lit299,g0,g2,g3,g5,g9,g17,g18,g26,g27,g184]
    clear g0 g2 g3 g5 g9 g17 g18 g26 g27 g184
    go_wp2
    refine tel_r17a PL TL rfl rfl rfl rfl rfl T6.out.rebase (by omega) hj rfl rfl h26b ?_
    intro a7 x7 hsz hdf hoff f215 t7 u7
    have T7:Hid (TW At Tb w w.heap.size p tb F s tr lg lc x7):=T6.out.join t7
    have U7:Hid (Turned F x x7):=U6.out.trans t7.turned
    clear t7 u7 T6 U6 h26b
    have f0:a7.eval (.tmp 0)=pt tb:=hoff 0 (by decide)
    have f2:a7.eval (.tmp 2)=.int .i64 lo:=hoff 2 (by decide)
    have f3:a7.eval (.tmp 3)=.int .i64 hi:=hoff 3 (by decide)
    have f5:a7.eval (.tmp 5)=pa w.heap.size 0:=hoff 5 (by decide)
    have f9:a7.eval (.tmp 9)=.slice (some ⟨lg,0,none⟩) (prs tr).length lc:=hoff 9 (by decide)
    have f17:a7.eval (.tmp 17)=vs:=hoff 17 (by decide)
    have f18:a7.eval (.tmp 18)=.int .i64 i:=hoff 18 (by decide)
    have hsz2:a7.tmps.size=299:=hsz
    have hdf2:a7.defers=[]:=hdf
    clear hsz hdf hoff
    obtain ⟨ca7,hcc,hce⟩:=expand299 hsz2 hdf2
    have g0:=(hce 0).trans f0
    have g2:=(hce 2).trans f2
    have g3:=(hce 3).trans f3
    have g5:=(hce 5).trans f5
    have g9:=(hce 9).trans f9
    have g17:=(hce 17).trans f17
    have g18:=(hce 18).trans f18
    have g215:=(hce 215).trans f215
    clear hce hsz2 hdf2 f0 f2 f3 f5 f9 f17 f18 f215
    subst hcc
    simp only [lit299,g0,g2,g3,g5,g9,g17,g18,g215]
    clear g0 g2 g3 g5 g9 g17 g18 g215
    clear hma hcn hq HW HC HN
    have hrow7:Hid (PR w5.heap.size x7 vs (midL ((prs tr).take i) lo hi)):=hrow.out.keep U7.out (fun g hg hm=>by have:=(hrow.out.fresh hg).1; have:=PL.lt T5.out.at_ g hm; omega)
    have hbase7:Hid (w5.heap.size≤x7.heap.size):=Nat.le_trans hbase.out U7.out.size
    have d0:x7.cell? ⟨lg,i * 2,none⟩=some (.int .i64 (prs tr)[i].1):=(T7.out.cells hlt).1
    have d1:x7.cell? ⟨lg,i * 2+1,none⟩=some (.int .i64 (prs tr)[i].2):=(T7.out.cells hlt).2
    have zl:∀ k,x7.frozen? ⟨lg,k,none⟩=false:=by
     rcases T7.out.row.form with ⟨e,_⟩ | ⟨g,c,cs,e,_,_,hh,_⟩
     ·cases e
     ·cases e; exact froz_at hh
    have hll:(midL ((prs tr).take i) lo hi).length≤1000000:=Nat.le_trans (List.length_filter_le _ _) (by simp; omega)
    have hms:=mid_succ lo hi hlt
    have hle:Hid (i+1≤(prs tr).length):=hlt
    clear hrow hbase U7
    obtain ⟨av,cv,rfl⟩:=hrow7.out.isSl
    by_cases hlo:lo≤(prs tr)[i].1
    ·by_cases hhi:(prs tr)[i].1≤hi
     ·rw [if_pos ⟨hlo,hhi⟩] at hms
      have HL:Hid ((midL ((prs tr).take i) lo hi).length + [((prs tr)[i].1,(prs tr)[i].2)].length≤4000000):=by show _≤_; simp; omega
      go_wp2_with ((at_builtin; refine wpList_apPairs (B:=w5.heap.size) (u:=.slice (some ⟨x7.heap.size,0,none⟩) 1 1) (l:=midL ((prs tr).take i) lo hi) (ms:=[((prs tr)[i].1,(prs tr)[i].2)]) rfl _ _ rfl rfl (hrow7.out.keep (F:=[]) ((Turned.refl _ _).alloc _) (by simp)) rfl (src_one (blk_new _ _)) HL.out (Nat.le_trans hbase7.out (by simp)) ?_; intro v8 x8 hr8 ht8 ho8; have HR8:Hid _:=hr8; have HT8:Hid _:=ht8; clear hr8 ht8 ho8))
      refine ⟨⟨⟨i+1,_,hle.out,⟨rfl,rfl,rfl,rfl,rfl,rfl,rfl,rfl,by show Value.int _ _=_; go_num,(T7.out.fresh PL TL ((Turned.refl _ _).alloc _)).others PL TL (C:=w5.heap.size) HT8.out (fun z hz=>by simp only [Option.mem_toList] at hz; exact (hrow7.out.fresh hz).1) (PL.lt T5.out.at_) T5.out.turned.size ⟨TL.ltT T5.out.tb_,lt_of_heap T5.out.box,(T5.out.row.fresh rfl).2⟩,by rw [hms]; exact HR8.out,Nat.le_trans hbase7.out (Nat.le_trans (by simp) HT8.out.size)⟩⟩⟩,?_⟩
      show _ - (intOf (Value.int _ _)).toNat < _ - (intOf (Value.int _ _)).toNat
      have hle2:=hle.out
      simp [intOf]
      omega
     ·rw [if_neg (fun h=>hhi h.2)] at hms
      go_wp2
      refine ⟨⟨⟨i+1,_,hle.out,⟨rfl,rfl,rfl,rfl,rfl,rfl,rfl,rfl,by show Value.int _ _=_; go_num,T7.out,by rw [hms]; exact hrow7.out,hbase7.out⟩⟩⟩,?_⟩
      show _ - (intOf (Value.int _ _)).toNat < _ - (intOf (Value.int _ _)).toNat
      have hle2:=hle.out
      simp [intOf]
      omega
    ·rw [if_neg (fun h=>hlo h.1)] at hms
     go_wp2
     refine ⟨⟨⟨i+1,_,hle.out,⟨rfl,rfl,rfl,rfl,rfl,rfl,rfl,rfl,by show Value.int _ _=_; go_num,T7.out,by rw [hms]; exact hrow7.out,hbase7.out⟩⟩⟩,?_⟩
     show _ - (intOf (Value.int _ _)).toNat < _ - (intOf (Value.int _ _)).toNat
     have hle2:=hle.out
     simp [intOf]
     omega
   ·refine tel_r14 PL TL (k:=(prs tr)[i].1) (u1:=0) (u2:=0) (er:=122) rfl rfl rfl rfl rfl T4.out.rebase hlt rfl s4 (fun y h1 h2=>TL.last h1 hok h2 T4.out.ntb hO i (by omega)) ?_
    intro a5 x5 nb hsz hdf hoff f26 f27 t5 h26 hnb
    have T5x:Hid (TW At Tb w w.heap.size p tb F s tr lg lc x5):=T4.out.join t5
    have U5:Hid (Turned F x x5):=U4.out.trans t5.turned
    have h24b:=t5.turned.heap h24 n24
    clear t5 T4 U4 h24
    have f0:a5.eval (.tmp 0)=pt tb:=hoff 0 (by decide)
    have f2:a5.eval (.tmp 2)=.int .i64 lo:=hoff 2 (by decide)
    have f3:a5.eval (.tmp 3)=.int .i64 hi:=hoff 3 (by decide)
    have f5:a5.eval (.tmp 5)=pa w.heap.size 0:=hoff 5 (by decide)
    have f9:a5.eval (.tmp 9)=.slice (some ⟨lg,0,none⟩) (prs tr).length lc:=hoff 9 (by decide)
    have f17:a5.eval (.tmp 17)=vs:=hoff 17 (by decide)
    have f18:a5.eval (.tmp 18)=.int .i64 i:=hoff 18 (by decide)
    have f19:a5.eval (.tmp 19)=.int .i64 (prs tr)[i].2:=hoff 19 (by decide)
    have f20:a5.eval (.tmp 20)=.bool true:=hoff 20 (by decide)
    have f21:a5.eval (.tmp 21)=.int .i64 0:=hoff 21 (by decide)
    have f22:a5.eval (.tmp 22)=.int .i64 i:=hoff 22 (by decide)
    have f23:a5.eval (.tmp 23)=.int .i64 0:=hoff 23 (by decide)
    have f24:a5.eval (.tmp 24)=pa x3.heap.size 0:=hoff 24 (by decide)
    have f25:a5.eval (.tmp 25)=.int .i64 0:=hoff 25 (by decide)
    have hsz2:a5.tmps.size=299:=hsz
    have hdf2:a5.defers=[]:=hdf
    clear hsz hdf hoff
    obtain ⟨ca5,hcc,hce⟩:=expand299 hsz2 hdf2
    have g0:=(hce 0).trans f0
    have g2:=(hce 2).trans f2
    have g3:=(hce 3).trans f3
    have g5:=(hce 5).trans f5
    have g9:=(hce 9).trans f9
    have g17:=(hce 17).trans f17
    have g18:=(hce 18).trans f18
    have g19:=(hce 19).trans f19
    have g20:=(hce 20).trans f20
    have g21:=(hce 21).trans f21
    have g22:=(hce 22).trans f22
    have g23:=(hce 23).trans f23
    have g24:=(hce 24).trans f24
    have g25:=(hce 25).trans f25
    have g26:=(hce 26).trans f26
    have g27:=(hce 27).trans f27
    clear hce hsz2 hdf2 f0 f2 f3 f5 f9 f17 f18 f19 f20 f21 f22 f23 f24 f25 f26 f27
    subst hcc
    simp only [lit299,g0,g2,g3,g5,g9,g17,g18,g19,g20,g21,g22,g23,g24,g25,g26,g27]
    clear g0 g2 g3 g5 g9 g17 g18 g19 g20 g21 g22 g23 g24 g25 g26 g27
    go_wp2
    refine tel_r15 PL TL (k:=(prs tr)[i].1) rfl rfl rfl rfl rfl rfl rfl rfl rfl rfl T5x.out.rebase hlt rfl rfl h24b ?_
    intro a6 x6 hsz hdf hoff f184 t6 u6
    have T6:Hid (TW At Tb w w.heap.size p tb F s tr lg lc x6):=T5x.out.join t6
    have U6:Hid (Turned F x x6):=U5.out.trans t6.turned
    have h26b:=u6.heap h26 (by simp)
    clear t6 u6 T5x U5 h26 h24b
    have f0:a6.eval (.tmp 0)=pt tb:=hoff 0 (by decide)
    have f2:a6.eval (.tmp 2)=.int .i64 lo:=hoff 2 (by decide)
    have f3:a6.eval (.tmp 3)=.int .i64 hi:=hoff 3 (by decide)
    have f5:a6.eval (.tmp 5)=pa w.heap.size 0:=hoff 5 (by decide)
    have f9:a6.eval (.tmp 9)=.slice (some ⟨lg,0,none⟩) (prs tr).length lc:=hoff 9 (by decide)
    have f17:a6.eval (.tmp 17)=vs:=hoff 17 (by decide)
    have f18:a6.eval (.tmp 18)=.int .i64 i:=hoff 18 (by decide)
    have f27:a6.eval (.tmp 27)=.int .i64 122:=hoff 27 (by decide)
    have hsz2:a6.tmps.size=299:=hsz
    have hdf2:a6.defers=[]:=hdf
    clear hsz hdf hoff
    obtain ⟨ca6,hcc,hce⟩:=expand299 hsz2 hdf2
    have g0:=(hce 0).trans f0
    have g2:=(hce 2).trans f2
    have g3:=(hce 3).trans f3
    have g5:=(hce 5).trans f5
    have g9:=(hce 9).trans f9
    have g17:=(hce 17).trans f17
    have g18:=(hce 18).trans f18
    have g27:=(hce 27).trans f27
    have g184:=(hce 184).trans f184
    clear hce hsz2 hdf2 f0 f2 f3 f5 f9 f17 f18 f27 f184
    subst hcc
    simp only [lit299,g0,g2,g3,g5,g9,g17,g18,g27,g184]
    clear g0 g2 g3 g5 g9 g17 g18 g27 g184
    go_wp2
    refine tel_r17b PL TL rfl rfl rfl rfl T6.out.rebase (by omega) (by omega) ?_
    intro a7 x7 hsz hdf hoff f215 t7 u7
    have T7:Hid (TW At Tb w w.heap.size p tb F s tr lg lc x7):=T6.out.join t7
    have U7:Hid (Turned F x x7):=U6.out.trans t7.turned
    clear t7 u7 T6 U6 h26b
    have f0:a7.eval (.tmp 0)=pt tb:=hoff 0 (by decide)
    have f2:a7.eval (.tmp 2)=.int .i64 lo:=hoff 2 (by decide)
    have f3:a7.eval (.tmp 3)=.int .i64 hi:=hoff 3 (by decide)
    have f5:a7.eval (.tmp 5)=pa w.heap.size 0:=hoff 5 (by decide)
    have f9:a7.eval (.tmp 9)=.slice (some ⟨lg,0,none⟩) (prs tr).length lc:=hoff 9 (by decide)
    have f17:a7.eval (.tmp 17)=vs:=hoff 17 (by decide)
    have f18:a7.eval (.tmp 18)=.int .i64 i:=hoff 18 (by decide)
    have hsz2:a7.tmps.size=299:=hsz
    have hdf2:a7.defers=[]:=hdf
    clear hsz hdf hoff
    obtain ⟨ca7,hcc,hce⟩:=expand299 hsz2 hdf2
    have g0:=(hce 0).trans f0
    have g2:=(hce 2).trans f2
    have g3:=(hce 3).trans f3
    have g5:=(hce 5).trans f5
    have g9:=(hce 9).trans f9
    have g17:=(hce 17).trans f17
    have g18:=(hce 18).trans f18
    have g215:=(hce 215).trans f215
    clear hce hsz2 hdf2 f0 f2 f3 f5 f9 f17 f18 f215
    subst hcc
    simp only [lit299,g0,g2,g3,g5,g9,g17,g18,g215]
    clear g0 g2 g3 g5 g9 g17 g18 g215
    clear hma hcn hq HW HC HN
    have hrow7:Hid (PR w5.heap.size x7 vs (midL ((prs tr).take i) lo hi)):=hrow.out.keep U7.out (fun g hg hm=>by have:=(hrow.out.fresh hg).1; have:=PL.lt T5.out.at_ g hm; omega)
    have hbase7:Hid (w5.heap.size≤x7.heap.size):=Nat.le_trans hbase.out U7.out.size
    have d0:x7.cell? ⟨lg,i * 2,none⟩=some (.int .i64 (prs tr)[i].1):=(T7.out.cells hlt).1
    have d1:x7.cell? ⟨lg,i * 2+1,none⟩=some (.int .i64 (prs tr)[i].2):=(T7.out.cells hlt).2
    have zl:∀ k,x7.frozen? ⟨lg,k,none⟩=false:=by
     rcases T7.out.row.form with ⟨e,_⟩ | ⟨g,c,cs,e,_,_,hh,_⟩
     ·cases e
     ·cases e; exact froz_at hh
    have hll:(midL ((prs tr).take i) lo hi).length≤1000000:=Nat.le_trans (List.length_filter_le _ _) (by simp; omega)
    have hms:=mid_succ lo hi hlt
    have hle:Hid (i+1≤(prs tr).length):=hlt
    clear hrow hbase U7
    obtain ⟨av,cv,rfl⟩:=hrow7.out.isSl
    by_cases hlo:lo≤(prs tr)[i].1
    ·by_cases hhi:(prs tr)[i].1≤hi
     ·rw [if_pos ⟨hlo,hhi⟩] at hms
      have HL:Hid ((midL ((prs tr).take i) lo hi).length + [((prs tr)[i].1,(prs tr)[i].2)].length≤4000000):=by show _≤_; simp; omega
      go_wp2_with ((at_builtin; refine wpList_apPairs (B:=w5.heap.size) (u:=.slice (some ⟨x7.heap.size,0,none⟩) 1 1) (l:=midL ((prs tr).take i) lo hi) (ms:=[((prs tr)[i].1,(prs tr)[i].2)]) rfl _ _ rfl rfl (hrow7.out.keep (F:=[]) ((Turned.refl _ _).alloc _) (by simp)) rfl (src_one (blk_new _ _)) HL.out (Nat.le_trans hbase7.out (by simp)) ?_; intro v8 x8 hr8 ht8 ho8; have HR8:Hid _:=hr8; have HT8:Hid _:=ht8; clear hr8 ht8 ho8))
      refine ⟨⟨⟨i+1,_,hle.out,⟨rfl,rfl,rfl,rfl,rfl,rfl,rfl,rfl,by show Value.int _ _=_; go_num,(T7.out.fresh PL TL ((Turned.refl _ _).alloc _)).others PL TL (C:=w5.heap.size) HT8.out (fun z hz=>by simp only [Option.mem_toList] at hz; exact (hrow7.out.fresh hz).1) (PL.lt T5.out.at_) T5.out.turned.size ⟨TL.ltT T5.out.tb_,lt_of_heap T5.out.box,(T5.out.row.fresh rfl).2⟩,by rw [hms]; exact HR8.out,Nat.le_trans hbase7.out (Nat.le_trans (by simp) HT8.out.size)⟩⟩⟩,?_⟩
      show _ - (intOf (Value.int _ _)).toNat < _ - (intOf (Value.int _ _)).toNat
      have hle2:=hle.out
      simp [intOf]
      omega
     ·rw [if_neg (fun h=>hhi h.2)] at hms
      go_wp2
      refine ⟨⟨⟨i+1,_,hle.out,⟨rfl,rfl,rfl,rfl,rfl,rfl,rfl,rfl,by show Value.int _ _=_; go_num,T7.out,by rw [hms]; exact hrow7.out,hbase7.out⟩⟩⟩,?_⟩
      show _ - (intOf (Value.int _ _)).toNat < _ - (intOf (Value.int _ _)).toNat
      have hle2:=hle.out
      simp [intOf]
      omega
    ·rw [if_neg (fun h=>hlo h.1)] at hms
     go_wp2
     refine ⟨⟨⟨i+1,_,hle.out,⟨rfl,rfl,rfl,rfl,rfl,rfl,rfl,rfl,by show Value.int _ _=_; go_num,T7.out,by rw [hms]; exact hrow7.out,hbase7.out⟩⟩⟩,?_⟩
     show _ - (intOf (Value.int _ _)).toNat < _ - (intOf (Value.int _ _)).toNat
     have hle2:=hle.out
     simp [intOf]
     omega
  ·have hie:i=(prs tr).length:=by omega
   subst hie
   obtain ⟨cc,hcc,hce⟩:=expand299 hI.size hI.defers
   have g0:=(hce 0).trans hI.e0
   have g2:=(hce 2).trans hI.e2
   have g3:=(hce 3).trans hI.e3
   have g5:=(hce 5).trans hI.e5
   have g9:=(hce 9).trans hI.e9
   have g17:=(hce 17).trans hI.e17
   have g18:=(hce 18).trans hI.e18
   have T0:Hid _:=hI.tw
   have R0:Hid (PR w5.heap.size x vs (midL (prs tr) lo hi)):=by have:=hI.row; rwa [List.take_length] at this
   clear hce hI
   subst hcc
   simp only [lit299,g0,g2,g3,g5,g9,g17,g18,pa]
   clear g0 g2 g3 g5 g9 g17 g18 hlt hil hq hcn
   have hnl:¬ ((prs tr).length:Int) < ((prs tr).length:Int):=by omega
   rcases (by omega:lo < 0∨(¬ lo < 0∧hi < 0)∨(¬ lo < 0∧¬ hi < 0∧4294967295 < lo)∨(¬ lo < 0∧¬ hi < 0∧¬ 4294967295 < lo∧4294967295 < hi)∨(¬ lo < 0∧¬ hi < 0∧¬ 4294967295 < lo∧¬ 4294967295 < hi)) with h1 | ⟨h1,h2⟩ | ⟨h1,h2,h3⟩ | ⟨h1,h2,h3,h4⟩ | ⟨h1,h2,h3,h4⟩
   ·go_wp2
    go_ret
    exact ⟨rfl,T0.out.turned,T0.out.at_⟩
   ·go_wp2
    go_ret
    exact ⟨rfl,T0.out.turned,T0.out.at_⟩
   ·go_wp2
    go_ret
    exact ⟨rfl,T0.out.turned,T0.out.at_⟩
   ·go_wp2
    go_ret
    exact ⟨rfl,T0.out.turned,T0.out.at_⟩
   ·have q0:x.cell? ⟨w.heap.size,0,none⟩=some (.int .i64 (rootO tr)):=cell_at T0.out.box 0
    have HLo:Hid (isKey lo):=⟨by omega,by omega⟩
    have HHi:Hid (isKey hi):=⟨by omega,by omega⟩
    have HFi:Hid (∀ y,TW At Tb w w.heap.size p tb F s tr lg lc y→Calls Tryz.prog 41 #[pt tb,.pointer none,.int .i64 (rootO tr),.int .i64 lo] y fun e w'=>e=.returned (.tuple #[.int .i64 ((getL (prs tr) lo).getD 0),.bool (getL (prs tr) lo).isSome,.int .i64 0])∧Turned F y w'∧At w' p F s):=fun y hy=>TL.find hy.at_ hok hy.tb_ hy.ntb hO lo HLo.out
    have HVa:Hid (∀ y,TW At Tb w w.heap.size p tb F s tr lg lc y→Calls Tryz.prog 5 #[.slice (some ⟨lg,0,none⟩) (prs tr).length lc,.int .i64 lo] y fun e w'=>e=.returned (.tuple #[.int .i64 ((getL (prs tr) lo).getD 0),.bool (getL (prs tr) lo).isSome])∧Turned [] y w'):=fun y hy=>cValue hy.row (by omega) lo
    have hml:(midL (prs tr) lo hi).length≤100000:=Nat.le_trans (List.length_filter_le _ _) hlen
    generalize (getL (prs tr) lo).getD 0=gd at HFi HVa
    have n5:=PL.lt T5.out.at_
    rcases hgl:(getL (prs tr) lo).isSome with _ | _
    all_goals (
     rw [hgl] at HFi HVa
     go_wp2_with (first
      | (go_at_call 37; refine (HW.out _ T0.out lo hi HLo.out HHi.out).mono ?_; rintro e y1 ⟨fn1,caps1,rfl,hE1,ht1,hA1,hG1⟩; have T1:Hid (TW At Tb w w.heap.size p tb F s tr lg lc y1):=T0.out.step TL ht1 hA1; have R1:Hid _:=R0.out.keep ht1 (fun g hg hm=>by have:=(R0.out.fresh hg).1; have:=n5 g hm; omega); have HE1:Hid _:=hE1; have HG1:Hid _:=hG1; clear hE1 hG1 ht1 hA1 q0)
      | (go_at_call 36; refine (cGivenAll (F:=F) (X:=fun x=>At x p F s) T1.out.at_ (fun a b ha hb=>PL.keep ha hb (by simp)) (PL.lt T1.out.at_) HE1.out (fun x hx hAx J fy cy G z1 z2 z3=>HG1.out x [] hx (by simp) hAx J fy cy G z1 z2 z3) (by omega)).mono ?_; rintro e y2 ⟨v2,rfl,hR2,ht2,hA2⟩; have T2:Hid (TW At Tb w w.heap.size p tb F s tr lg lc y2):=T1.out.step TL ht2 hA2; have R2:Hid _:=R1.out.keep ht2 (fun g hg hm=>by have:=(R1.out.fresh hg).1; have:=n5 g hm; omega); have P2:Hid (PR y1.heap.size y2 v2 (midL (prs tr) lo hi)):=hR2; have N2:Hid (∀ g,v2.ownBlock=some g→g∉F):=(fun g hg hm=>by have:=(hR2.fresh hg).1; have:=PL.lt T1.out.at_ g hm; omega); have q0:y2.cell? ⟨w.heap.size,0,none⟩=some (.int .i64 (rootO tr)):=cell_at T2.out.box 0; clear hR2 ht2 hA2 HE1 HG1)
      | (go_at_call 41; refine (HFi.out _ T2.out).mono ?_; rintro e y3 ⟨rfl,ht3,hA3⟩; have T3:Hid (TW At Tb w w.heap.size p tb F s tr lg lc y3):=T2.out.step TL ht3 hA3; have R3:Hid _:=R2.out.keep ht3 (fun g hg hm=>by have:=(R2.out.fresh hg).1; have:=n5 g hm; omega); have P3:Hid _:=P2.out.keep ht3 N2.out; clear ht3 hA3 q0)
      | (go_at_call 5; refine (HVa.out _ T3.out).mono ?_; rintro e y4 ⟨rfl,ht4⟩; have T4:Hid (TW At Tb w w.heap.size p tb F s tr lg lc y4):=T3.out.fresh PL TL ht4; have R4:Hid _:=R3.out.keep ht4 (by simp); have P4:Hid _:=P3.out.keep ht4 (by simp); clear ht4)
      | (go_at_call 40; refine (cPairs P4.out R4.out (by omega)).mono ?_; rintro e y5 ⟨rfl,ht5⟩; have T6:Hid (TW At Tb w w.heap.size p tb F s tr lg lc y5):=T4.out.fresh PL TL ht5; clear ht5)
      | (go_at_call 8; refine (cNum _ _).mono ?_; rintro e w' ⟨rfl,hw⟩; obtain rfl:=hw.symm))
     go_ret
     exact ⟨rfl,T6.out.turned,T6.out.at_⟩))
end
end Go.Proofs.YtcinlaacgbfojaaGreatDoor
/- A map tells what it must: the statements' 'tells', of the empty map. -/
namespace Go.Proofs.YtcinlaacgbfojaaGreatDoor
open Go.RowKit
theorem wp_loop0 {P:Program} {c:Code} {Q:Exit→Act→World→Prop} {a:Act} {w:World} (h:c.wp P (Exit.then (fun a' w'=>(a'=a∧w'=w)∧0 < 0) Q) a w):(Code.loop c).wp P Q a w :=
 wp_loop (fun a' x=>a'=a∧x=w) (fun _ _=>0) ⟨rfl,rfl⟩ (by rintro _ _ ⟨rfl,rfl⟩; exact h)
structure TZ (At:World→Nat→List Nat→PSt→Prop) (Tb:World→Nat→Nat→Prop) (W:World) (S p tb:Nat) (F:List Nat) (s:PSt) (la:Option Addr) (lc:Nat) (x:World):Prop where
 at_:At x p F s
 tb_:Tb x tb p
 ntb:tb∉F
 box:x.heap[S]?=some (verObj 0 (.slice la 0 lc))
 nS:S∉F
 row:PR 0 x (.slice la 0 lc) []
 nl:∀ g,(Value.slice la 0 lc).ownBlock=some g→g∉F
 turned:Turned F W x
section
variable {At:World→Nat→List Nat→PSt→Prop} {Tb:World→Nat→Nat→Prop} (PL:PoolLaws At) (TL:TrieLaws At Tb) {W w x y:World} {S p tb lc B:Nat} {la:Option Addr} {F:List Nat} {s:PSt}
include PL TL
omit PL in
theorem TZ.step (h:TZ At Tb W S p tb F s la lc x) (ht:Turned F x y) (hA:At y p F s):TZ At Tb W S p tb F s la lc y :=
 ⟨hA,TL.keepT h.tb_ ht h.ntb (TL.outT h.tb_ h.at_),h.ntb,ht.heap h.box h.nS,h.nS,h.row.keep ht h.nl,h.nl,h.turned.trans ht⟩
theorem TZ.fresh (h:TZ At Tb W S p tb F s la lc x) (ht:Turned [] x y):TZ At Tb W S p tb F s la lc y:=h.step TL (ht.mono (by simp)) (PL.keep h.at_ ht (by simp))
set_option maxRecDepth 100000 in
set_option maxHeartbeats 3200000 in
theorem cTells0 (hA:At w p F s) (hT:Tb w tb p) (htF:tb∉F) (hok:s.Ok) (hO:Holds s none) (hR:PR B w (.slice la 0 lc) []) (hRF:∀ g,(Value.slice la 0 lc).ownBlock=some g→g∉F) (lo hi:Int) :
  Calls Tryz.prog 14 #[pt tb,.agg #[.int .i64 0,.slice la 0 lc],.int .i64 lo,.int .i64 hi] w fun e w'=>e=.returned (.bool true)∧Turned F w w'∧At w' p F s:=by
 have hF:=PL.lt hA
 have h0:TZ At Tb w w.heap.size p tb F s la lc (w.alloc (verObj 0 (.slice la 0 lc))) :=
  ⟨PL.keep hA ((Turned.refl [] _).alloc _) (by simp),TL.keepT hT ((Turned.refl [] _).alloc _) (by simp) (by simp),htF,blk_new _ _,fun hm=>by have:=hF _ hm; omega,(hR.keep (F:=[]) ((Turned.refl _ _).alloc _) (by simp)).lower (Nat.zero_le _),hRF,(Turned.refl _ _).alloc _⟩
 have HW:Hid (∀ x,TZ At Tb w w.heap.size p tb F s la lc x→∀ lo hi,isKey lo→isKey hi→Calls Tryz.prog 37 #[pt tb,.pointer none,.int .i64 0,.int .i64 lo,.int .i64 hi] x fun e w'=>∃ fn caps,e=.returned (.func (.func fn) #[] caps)∧Enterable Tryz.prog fn∧Turned F x w'∧At w' p F s∧Gives w' F (fun x=>At x p F s) [] fn caps):=fun x hx lo hi h1 h2=>by
  refine (TL.walk hx.at_ hok hx.tb_ hx.ntb hO lo hi h1 h2).mono ?_
  rintro e y ⟨fn,caps,he,hE,ht,hA1,hG⟩
  exact ⟨fn,caps,he,hE,ht,hA1,fun x hx hAx J fy cy G z1 z2 z3=>hG x [] hx (by simp) hAx J fy cy G z1 z2 z3⟩
 have HC:Hid (∀ x,TZ At Tb w w.heap.size p tb F s la lc x→Calls Tryz.prog 38 #[pt tb,.pointer none,.int .i64 0] x fun e w'=>e=.returned (.tuple #[.int .i64 0,.int .i64 0])∧Turned F x w'∧At w' p F s):=fun x hx=>TL.count hx.at_ hok hx.tb_ hx.ntb hO
 have HN:Hid (∀ x,TZ At Tb w w.heap.size p tb F s la lc x→Calls Tryz.prog 39 #[pt tb,.pointer none,.int .i64 0] x fun e w'=>∃ v,e=.returned (.tuple #[v,.int .i64 0])∧Turned F x w'∧At w' p F s∧IR x.heap.size w' v []):=fun x hx=>TL.nodes hx.at_ hok hx.tb_ hx.ntb hO
 have HFi:Hid (∀ y,TZ At Tb w w.heap.size p tb F s la lc y→isKey lo→Calls Tryz.prog 41 #[pt tb,.pointer none,.int .i64 0,.int .i64 lo] y fun e w'=>e=.returned (.tuple #[.int .i64 0,.bool false,.int .i64 0])∧Turned F y w'∧At w' p F s):=fun y hy h=>TL.find hy.at_ hok hy.tb_ hy.ntb hO lo h
 have HVa:Hid (∀ y,TZ At Tb w w.heap.size p tb F s la lc y→Calls Tryz.prog 5 #[.slice la 0 lc,.int .i64 lo] y fun e w'=>e=.returned (.tuple #[.int .i64 0,.bool false])∧Turned [] y w'):=fun y hy=>cValue hy.row (by simp) lo
 have H0:Hid _:=h0
 have q0:(w.alloc (verObj 0 (.slice la 0 lc))).cell? ⟨w.heap.size,0,none⟩=some (.int .i64 0):=cell_at h0.box 0
 unfold verObj at q0 H0
 clear hA hT hR hRF h0 hO hok
 go_enter Tryz.func14,Tryz.ntmps14
 go_wp2_with (first
  | (go_at_call 37; refine (HW.out _ H0.out 0 4294967295 ⟨by omega,by omega⟩ ⟨by omega,by omega⟩).mono ?_; rintro e w1 ⟨fn1,caps1,rfl,hE1,ht1,hA1,hG1⟩; have T1:Hid (TZ At Tb w w.heap.size p tb F s la lc w1):=H0.out.step TL ht1 hA1; have HE1:Hid _:=hE1; have HG1:Hid _:=hG1; clear hE1 hG1 ht1 hA1 q0 H0)
  | (go_at_call 36; refine (cGivenAll (F:=F) (X:=fun x=>At x p F s) T1.out.at_ (fun a b ha hb=>PL.keep ha hb (by simp)) (PL.lt T1.out.at_) HE1.out HG1.out (by simp)).mono ?_; rintro e w2 ⟨v2,rfl,hR2,ht2,hA2⟩; have T2:Hid (TZ At Tb w w.heap.size p tb F s la lc w2):=T1.out.step TL ht2 hA2; have N2:Hid (∀ g,v2.ownBlock=some g→g∉F):=(fun g hg hm=>by have:=(hR2.fresh hg).1; have:=PL.lt T1.out.at_ g hm; omega); have R2:Hid (PR 0 w2 v2 []):=hR2.lower (Nat.zero_le _); obtain ⟨a2,c2,rfl⟩:=R2.out.isSl; have q0:w2.cell? ⟨w.heap.size,0,none⟩=some (.int .i64 0):=cell_at T2.out.box 0; clear hR2 ht2 hA2 HE1 HG1 T1)
  | (go_at_call 38; refine (HC.out _ T2.out).mono ?_; rintro e w3 ⟨rfl,ht3,hA3⟩; have T3:Hid (TZ At Tb w w.heap.size p tb F s la lc w3):=T2.out.step TL ht3 hA3; have R3:Hid _:=R2.out.keep ht3 N2.out; clear q0; have q0:w3.cell? ⟨w.heap.size,0,none⟩=some (.int .i64 0):=cell_at T3.out.box 0; clear ht3 hA3 T2 R2)
  | (go_at_call 39; refine (HN.out _ T3.out).mono ?_; rintro e w4 ⟨v4,rfl,ht4,hA4,hI4⟩; have T4:Hid (TZ At Tb w w.heap.size p tb F s la lc w4):=T3.out.step TL ht4 hA4; have R4:Hid _:=R3.out.keep ht4 N2.out; obtain ⟨a4,c4,rfl⟩:=hI4.form; clear q0 ht4 hA4 hI4 T3 R3)
  | (go_at_call 40; refine (cPairs R4.out T4.out.row (by simp)).mono ?_; rintro e w5 ⟨rfl,ht5⟩; have T5:Hid (TZ At Tb w w.heap.size p tb F s la lc w5):=T4.out.fresh PL TL ht5; clear ht5 T4 R4)
  | (go_at_call 8; refine (cNum _ _).mono ?_; rintro e w' ⟨rfl,hw⟩; obtain rfl:=hw.symm))
 refine wp_loop0 ?_
 rcases (by omega:lo < 0∨(¬ lo < 0∧hi < 0)∨(¬ lo < 0∧¬ hi < 0∧4294967295 < lo)∨(¬ lo < 0∧¬ hi < 0∧¬ 4294967295 < lo∧4294967295 < hi)∨(¬ lo < 0∧¬ hi < 0∧¬ 4294967295 < lo∧¬ 4294967295 < hi)) with h1 | ⟨h1,h2⟩ | ⟨h1,h2,h3⟩ | ⟨h1,h2,h3,h4⟩ | ⟨h1,h2,h3,h4⟩
 ·go_wp2
  go_ret
  exact ⟨rfl,T5.out.turned,T5.out.at_⟩
 ·go_wp2
  go_ret
  exact ⟨rfl,T5.out.turned,T5.out.at_⟩
 ·go_wp2
  go_ret
  exact ⟨rfl,T5.out.turned,T5.out.at_⟩
 ·go_wp2
  go_ret
  exact ⟨rfl,T5.out.turned,T5.out.at_⟩
 ·have q0:w5.cell? ⟨w.heap.size,0,none⟩=some (.int .i64 0):=cell_at T5.out.box 0
  have HLo:Hid (isKey lo):=⟨by omega,by omega⟩
  have HHi:Hid (isKey hi):=⟨by omega,by omega⟩
  go_wp2_with (first
   | (go_at_call 37; refine (HW.out _ T5.out lo hi HLo.out HHi.out).mono ?_; rintro e y1 ⟨fn1,caps1,rfl,hE1,ht1,hA1,hG1⟩; have T1:Hid (TZ At Tb w w.heap.size p tb F s la lc y1):=T5.out.step TL ht1 hA1; have HE1:Hid _:=hE1; have HG1:Hid _:=hG1; clear hE1 hG1 ht1 hA1 q0)
   | (go_at_call 36; refine (cGivenAll (F:=F) (X:=fun x=>At x p F s) T1.out.at_ (fun a b ha hb=>PL.keep ha hb (by simp)) (PL.lt T1.out.at_) HE1.out HG1.out (by simp)).mono ?_; rintro e y2 ⟨v2,rfl,hR2,ht2,hA2⟩; have T2:Hid (TZ At Tb w w.heap.size p tb F s la lc y2):=T1.out.step TL ht2 hA2; have N2:Hid (∀ g,v2.ownBlock=some g→g∉F):=(fun g hg hm=>by have:=(hR2.fresh hg).1; have:=PL.lt T1.out.at_ g hm; omega); have P2:Hid (PR 0 y2 v2 []):=hR2.lower (Nat.zero_le _); have q0:y2.cell? ⟨w.heap.size,0,none⟩=some (.int .i64 0):=cell_at T2.out.box 0; clear hR2 ht2 hA2 HE1 HG1)
   | (go_at_call 41; refine (HFi.out _ T2.out HLo.out).mono ?_; rintro e y3 ⟨rfl,ht3,hA3⟩; have T3:Hid (TZ At Tb w w.heap.size p tb F s la lc y3):=T2.out.step TL ht3 hA3; have P3:Hid _:=P2.out.keep ht3 N2.out; clear ht3 hA3 q0)
   | (go_at_call 5; refine (HVa.out _ T3.out).mono ?_; rintro e y4 ⟨rfl,ht4⟩; have T4:Hid (TZ At Tb w w.heap.size p tb F s la lc y4):=T3.out.fresh PL TL ht4; have P4:Hid _:=P3.out.keep ht4 (by simp); clear ht4)
   | (go_at_call 40; refine (cPairs P4.out (PR.nil 0 _) (by simp)).mono ?_; rintro e y5 ⟨rfl,ht5⟩; have T6:Hid (TZ At Tb w w.heap.size p tb F s la lc y5):=T4.out.fresh PL TL ht5; clear ht5)
   | (go_at_call 8; refine (cNum _ _).mono ?_; rintro e w' ⟨rfl,hw⟩; obtain rfl:=hw.symm))
  go_ret
  exact ⟨rfl,T6.out.turned,T6.out.at_⟩
end
end Go.Proofs.YtcinlaacgbfojaaGreatDoor
/- The statements' 'tells' of any map, and 'changed' of any change. -/
namespace Go.Proofs.YtcinlaacgbfojaaGreatDoor
open Go.RowKit
theorem none_of_prs {tr:Option Tr} (h:(prs tr).length=0):tr=none:=by
 cases tr with
 | none=>rfl
 | some t =>
  have h1:=Holds.count (some t)
  have h2:=t.hs_length
  have h3:=t.cnt_pos
  have h4:hsx (some t)=t.hs:=rfl
  rw [h4] at h1
  omega
section
variable {At:World→Nat→List Nat→PSt→Prop} {Tb:World→Nat→Nat→Prop} (PL:PoolLaws At) (TL:TrieLaws At Tb) {w:World} {p tb B it:Nat} {F St:List Nat} {s:PSt} {tr:Option Tr} {lv:Value}
include PL TL
theorem cTellsA (hA:At w p F s) (hT:Tb w tb p) (htF:tb∉F) (hok:s.Ok) (hO:Holds s tr) (hR:PR B w lv (prs tr)) (hRF:∀ g,lv.ownBlock=some g→g∉F) (hlen:(prs tr).length≤100000) (lo hi:Int) :
  Calls Tryz.prog 14 #[pt tb,.agg #[.int .i64 (rootO tr),lv],.int .i64 lo,.int .i64 hi] w fun e w'=>e=.returned (.bool true)∧Turned F w w'∧At w' p F s:=by
 by_cases h0:(prs tr).length=0
 ·obtain rfl:=none_of_prs h0
  obtain ⟨a,c,rfl⟩:=hR.isSl
  exact cTells0 PL TL hA hT htF hok hO hR hRF lo hi
 ·rcases hR.form with ⟨rfl,e⟩ | ⟨g,c,cs,rfl,_⟩
  ·rw [e] at h0; exact absurd rfl h0
  ·exact cTells PL TL hA hT htF hok hO hR (hRF g rfl) hlen (by omega) lo hi
def chgL (l:List (Int × Int)) (key val:Int) (d:Bool):List (Int × Int):=if d then delL l key else insL l key val
end
end Go.Proofs.YtcinlaacgbfojaaGreatDoor
/- A long row of changes: what stands ahead of every change, and how a change keeps it. -/
namespace Go.Proofs.YtcinlaacgbfojaaGreatDoor
open Go.RowKit
structure LR (At:World→Nat→List Nat→PSt→Prop) (Tb:World→Nat→Nat→Prop) (n p tb i:Nat) (F:List Nat) (s:PSt) (St:List Nat) (it:Nat) (o:Option Tr) (lv:Value) (x:World):Prop where
 at_:At x p F s
 tb_:Tb x tb p
 ntb:tb∉F
 pv:PV s St it
 it_:it≤8300 * i
 hO:Holds s o
 row:PR 0 x lv (prs o)
 nl:∀ g,lv.ownBlock=some g→g∉F
 len:(prs o).length≤i
 room:St.length+(hsx o).length=n
 faults:s.faults=0
theorem Done.apart {s s':PSt} {St St':List Nat} {o o':Option Tr} {root:Int} {gone made:List Int} (hO:Holds s o) (hD:Done s s' St St' o o' root gone made):∀ h,h∈hsx o'→h∉gone:=by
 intro h h1 h2
 have hm:h∉made:=fun hm=>by
  obtain ⟨n,hn⟩:=hO.alive h (hD.of h h2)
  exact hD.fresh h hm n hn
 have hc:=hD.perm.count_eq h
 rw [List.count_append,List.count_append,List.count_eq_zero.2 hm] at hc
 have c1:=List.count_pos_iff.2 h1
 have c2:=List.count_pos_iff.2 h2
 have c3:=List.nodup_iff_count.1 hO.nodup h
 omega
theorem Done.len {s s':PSt} {St St':List Nat} {o o':Option Tr} {root:Int} {gone made:List Int} (hD:Done s s' St St' o o' root gone made):(prs o').length≤(prs o).length+1:=by
 have h1:=hD.perm.length_eq
 have h2:=hD.most.2
 have h3:=Holds.count o
 have h4:=Holds.count o'
 rw [List.length_append,List.length_append] at h1
 omega
section
variable {At:World→Nat→List Nat→PSt→Prop} {Tb:World→Nat→Nat→Prop} (TL:TrieLaws At Tb) {n p tb i it it':Nat} {F F' F'' St St' St'':List Nat} {s s' s'':PSt} {o o':Option Tr} {lv v:Value} {x y z:World} {root:Int} {gone made:List Int}
include TL
theorem LR.not (h:LR At Tb n p tb i F s St it o lv x) (ht:Turned F x y) (hA:At y p F' s') (hW:Wider F F' x) (htb:tb∉F') (hC:Chg s s' St' it it') (hS:St'.length=St.length):LR At Tb n p tb (i+1) F' s' St' it' o lv y :=
 ⟨hA,TL.keepT h.tb_ ht h.ntb (TL.outT h.tb_ h.at_),htb,hC.pv,by have:=hC.it; have:=h.it_; omega,h.hO.keep fun a b _ hc=>hC.ct a b hc,h.row.keep ht h.nl,fun g hg hm=>by
  rcases hW g hm with h1 | h1
  ·exact h.nl g hg h1
  ·have:=(h.row.fresh hg).2; omega,Nat.le_succ_of_le h.len,by rw [hS]; exact h.room,by rw [hC.faults]; exact h.faults⟩
theorem LR.done (hi:i≤4000) (h:LR At Tb n p tb i F s St it o lv x) (ht:Turned F x y) (hA1:At y p F' s') (htb:tb∉F') (hC:Chg s s' St' it it') (hD:Done s s' St St' o o' root gone made) (hR:PR x.heap.size y v (prs o')) (hRF:∀ g,v.ownBlock=some g→g∉F')
  (ht2:Turned F' y z) (hA2:At z p F'' s'') (hW2:Wider F' F'' y) (htb2:tb∉F'') (hV2:PV s'' St'' (it' + gone.length)) (hf2:s''.faults=s'.faults) (hS2:St''.length=St'.length+gone.length) (hk:∀ h x,Ct s' h x→h∉gone→Ct s'' h x):LR At Tb n p tb (i+1) F'' s'' St'' (it' + gone.length) o' v z:=by
 have hp:=hD.perm.length_eq
 rw [List.length_append,List.length_append] at hp
 have hr:=hD.room
 have hm:=hD.most
 have hl:=hD.len
 have hc:=Holds.count o
 have hg:gone.length≤(hsx o).length+made.length:=by omega
 refine ⟨hA2,TL.keepT (TL.keepT h.tb_ ht h.ntb (TL.outT h.tb_ h.at_)) ht2 htb (TL.outT (TL.keepT h.tb_ ht h.ntb (TL.outT h.tb_ h.at_)) hA1),htb2,hV2,?_,hD.holds.keep fun a b ha hb=>hk a b hb (hD.apart h.hO a ha),(hR.keep ht2 hRF).lower (Nat.zero_le _),fun g hg hm=>?_,by have:=h.len; omega,by have:=h.room; omega,by rw [hf2,hC.faults]; exact h.faults⟩
 ·have:=hC.it; have:=h.it_; have:=h.len; omega
 ·rcases hW2 g hm with h1 | h1
  ·exact hRF g hg h1
  ·have:=(hR.fresh hg).2; omega
omit TL in
end
end Go.Proofs.YtcinlaacgbfojaaGreatDoor

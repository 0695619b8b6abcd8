/- TrieOrders: its first loop. (Written by tools/gen/genorl2.py.) -/
import Derived.Test.YtcinlaacgbfojaaGreatDoorJ44
namespace Go.Proofs.YtcinlaacgbfojaaGreatDoor
open Go.RowKit
structure FP (la:Option Addr) (ll lc:Nat) (da:Option Addr) (dl dc:Nat) (by_:Int) (isv ksv:Value) (a:Act):Prop where
 hs:a.tmps.size=255
 hd:a.defers=[]
 x0:a.eval (.tmp 0)=.slice la ll lc
 x1:a.eval (.tmp 1)=.slice da dl dc
 x2:a.eval (.tmp 2)=.int .i64 by_
 x7:a.eval (.tmp 7)=isv
 x8:a.eval (.tmp 8)=ksv
structure L1 (W x:World) (isv ksv:Value) (keys:List (Int × Int)) (i:Nat):Prop where
 tw:Turned [] W x
 isr:PR W.heap.size x isv (insAll [] keys)
 ksr:PR W.heap.size x ksv keys
 dis:∀ g,isv.ownBlock=some g→ksv.ownBlock≠some g
 nd:(keys.map Prod.fst).Nodup
 ok:∀ q∈keys,isKey q.1
 len:keys.length≤i
theorem insAll_len (ks:List (Int × Int)):∀ l,(insAll l ks).length≤l.length+ks.length:=by
 induction ks with
 | nil=>intro l; simp [insAll]
 | cons x ks ih =>
  intro l
  have h1:=ih (insL l x.1 x.2)
  have h2:=insL_length (l:=l) (k:=x.1) (v:=x.2)
  have h3:insAll l (x :: ks)=insAll (insL l x.1 x.2) ks:=rfl
  rw [h3,List.length_cons]
  split at h2 <;> omega
structure PairsAt (W:World) (la:Option Addr) (ll:Nat):Prop where
 at_:∀ j,j < ll→∃ qb qo ky vy,la=some ⟨qb,qo,none⟩∧W.cell? ⟨qb,qo+j * 2,none⟩=some (.int .i64 ky)∧W.cell? ⟨qb,qo+j * 2+1,none⟩=some (.int .i64 vy)
section
variable {W x:World} {p tb rb ll lc dl dc il ic kl kc i k j qb qo kb db dq nb c:Nat} {la da ia ka:Option Addr} {by_ ky vy vv er rt:Int} {t:Bool} {a:Act} {K:Act→World→Prop} {Q:Exit→Act→World→Prop}
theorem or_loop1 (f:FP la ll lc da dl dc by_ (.slice none 0 0) (.slice none 0 0) a) (hl:ll≤100) (hS:PairsAt W la ll) (tw:Turned [] W x)
  (hK:∀ a' y isv ksv keys,FP la ll lc da dl dc by_ isv ksv a'→L1 W y isv ksv keys ll→K a' y):(atc Tryz.f3.body [1,1,1,1,0]).wp Tryz.prog (Exit.then K Q) a x:=by
 refine wp_seq (or_6 f.hs f.hd f.x0 f.x1 f.x2 f.x7 f.x8 ?_)
 clear f
 intro a1 hs hd x0 x1 x2 x7 x8 x9
 refine wp_block ?_
 refine wp_loop (fun a' y=>∃ isv ksv keys i,FP la ll lc da dl dc by_ isv ksv a'∧L1 W y isv ksv keys i∧i≤ll∧a'.eval (.tmp 9)=.int .i64 (i:Nat)) (fun a' _=>ll - (intOf (a'.eval (.tmp 9))).toNat) ⟨_,_,[],0,⟨hs,hd,x0,x1,x2,x7,x8⟩,⟨tw,PR.nil _ _,PR.nil _ _,(fun g h=>by cases h),List.nodup_nil,(fun q h=>by cases h),Nat.le_refl _⟩,Nat.zero_le _,x9⟩ ?_
 clear hs hd x0 x1 x2 x7 x8 x9 tw
 rintro a2 y ⟨isv,ksv,keys,i,f,h,hi,x9⟩
 obtain ⟨ia,ic,rfl⟩:=h.isr.isSl
 obtain ⟨ka,kc,rfl⟩:=h.ksr.isSl
 have hmu:(intOf (a2.eval (.tmp 9))).toNat=i:=by rw [x9]; simp [intOf]
 rw [hmu]
 by_cases hlt:i < ll
 ·obtain ⟨qb,qo,ky,vy,rfl,c0,c1⟩:=hS.at_ i hlt
  have hlen:=insAll_len keys []
  have hln:=h.len
  simp only [List.length_nil] at hlen
  refine wp_seq (or_7in f.hs f.hd f.x0 f.x1 f.x2 f.x7 f.x8 x9 (by omega) ?_)
  clear f x9 hmu
  intro a3 hs hd x0 x1 x2 x7 x8 x9
  refine wp_seq (wp_block ?_)
  have fin:∀ {Q':Exit→Act→World→Prop} (a':Act) (z:World) (isv ksv:Value) (ks:List (Int × Int)),FP (some ⟨qb,qo,none⟩) ll lc da dl dc by_ isv ksv a'→a'.eval (.tmp 9)=.int .i64 (i:Nat)→L1 W z isv ksv ks (i+1)→(atc Tryz.f3.body [1,1,1,1,0,1,0,0,1,1]).wp Tryz.prog (Exit.then (fun a' y=>(∃ isv ksv keys i,FP (some ⟨qb,qo,none⟩) ll lc da dl dc by_ isv ksv a'∧L1 W y isv ksv keys i∧i≤ll∧a'.eval (.tmp 9)=.int .i64 (i:Nat))∧ll - (intOf (a'.eval (.tmp 9))).toNat < ll - i) Q') a' z:=by
   intro Q' a' z isv ksv ks f x9 hL
   obtain ⟨ia,ic,rfl⟩:=hL.isr.isSl
   obtain ⟨ka,kc,rfl⟩:=hL.ksr.isSl
   refine wp_endB (or_8 f.hs f.hd f.x0 f.x1 f.x2 f.x7 f.x8 x9 (by omega) ?_)
   intro a'' hs hd x0 x1 x2 x7 x8 y9
   refine ⟨⟨_,_,ks,i+1,⟨hs,hd,x0,x1,x2,x7,x8⟩,hL,by omega,y9⟩,?_⟩
   rw [y9]; simp only [intOf]; omega
  refine wp_seq (or_9 hs hd x0 x1 x2 x7 x8 x9 (by omega) (h.tw.cell c0 (by simp)) (PP:=fun x'=>Turned [] y x') (cValue h.isr (by omega) ky) ?_)
  clear hs hd x0 x1 x2 x7 x8 x9
  intro a4 z hs hd x0 x1 x2 x7 x8 x9 x11 ht
  have hz:L1 W z (.slice ia (insAll [] keys).length ic) (.slice ka keys.length kc) keys i:=⟨h.tw.trans ht,h.isr.keep ht (by simp),h.ksr.keep ht (by simp),h.dis,h.nd,h.ok,h.len⟩
  have hz1:L1 W z (.slice ia (insAll [] keys).length ic) (.slice ka keys.length kc) keys (i+1):=⟨hz.tw,hz.isr,hz.ksr,hz.dis,hz.nd,hz.ok,by have:=hz.len; omega⟩
  have cz0:=hz.tw.cell c0 (by simp)
  have cz1:=hz.tw.cell c1 (by simp)
  by_cases hh:(getL (insAll [] keys) ky).isSome=true
  ·rw [hh] at x11
   refine wp_seq (or_10had hs hd x0 x1 x2 x7 x8 x9 x11 ?_)
   clear hs hd x0 x1 x2 x7 x8 x9 x11
   intro a5 hs hd x0 x1 x2 x7 x8 x9 x72
   refine wp_cond_false x72 ?_
   refine wp_skip ?_
   exact fin a5 z _ _ keys ⟨hs,hd,x0,x1,x2,x7,x8⟩ x9 hz1
  rw [Bool.not_eq_true] at hh
  rw [hh] at x11
  by_cases k0:ky < 0
  ·refine wp_seq (or_10lo hs hd x0 x1 x2 x7 x8 x9 x11 (by omega) cz0 k0 ?_)
   clear hs hd x0 x1 x2 x7 x8 x9 x11
   intro a5 hs hd x0 x1 x2 x7 x8 x9 x72
   refine wp_cond_false x72 ?_
   refine wp_skip ?_
   exact fin a5 z _ _ keys ⟨hs,hd,x0,x1,x2,x7,x8⟩ x9 hz1
  by_cases k1:ky≤4294967295
  ·refine wp_seq (or_10ok hs hd x0 x1 x2 x7 x8 x9 x11 (by omega) cz0 (by omega) k1 ?_)
   clear hs hd x0 x1 x2 x7 x8 x9 x11
   intro a5 hs hd x0 x1 x2 x7 x8 x9 x72
   refine wp_cond_true x72 ?_
   refine wp_seq (or_11 hs hd x0 x1 x2 x7 x8 x9 (by omega) cz0 cz1 (PP:=fun v x'=>PR z.heap.size x' v (insL (insAll [] keys) ky vy)∧Turned [] z x') ((cWith hz.isr (by omega) ky vy).mono fun e x' ⟨v,q1,q2,q3⟩=>⟨v,q1,q2,q3⟩) ?_)
   clear hs hd x0 x1 x2 x7 x8 x9 x72
   rintro a6 z2 v hs hd x0 x1 x2 x7 x8 x9 ⟨hv,ht2⟩
   obtain ⟨ia2,ic2,rfl⟩:=hv.isSl
   have hk2:=hz.ksr.keep ht2 (by simp)
   have tw2:=hz.tw.trans ht2
   have s2:=tw2.size
   have s3:=ht2.size
   have s4:=hz.tw.size
   refine wp_endB (or_12 hs hd x0 x1 x2 x7 x8 x9 (by omega) (tw2.cell c0 (by simp)) (tw2.cell c1 (by simp)) hk2 (by omega) s2 ?_)
   clear hs hd x0 x1 x2 x7 x8 x9
   intro a7 z3 v hs hd x0 x1 x2 x7 x8 x9 hks ht3 hor
   have hoff:∀ g,(Value.slice ia2 (insL (insAll [] keys) ky vy).length ic2).ownBlock=some g→g∉(Value.slice ka keys.length kc).ownBlock.toList:=fun g hg hm=>by
    have b1:=(hv.fresh hg).1
    have b2:=(hz.ksr.fresh (g:=g) (by simpa using hm)).2
    omega
   have er:insAll [] (keys ++ [(ky,vy)])=insL (insAll [] keys) ky vy:=by unfold insAll; rw [List.foldl_append]; rfl
   refine fin a7 z3 _ _ (keys ++ [(ky,vy)]) ⟨hs,hd,x0,x1,x2,x7,x8⟩ x9 ⟨tw2.inner ht3 (fun g hg=>.inr (hz.ksr.fresh (g:=g) (by simpa using hg)).1),by rw [er]; exact (hv.keep ht3 hoff).lower (by omega),hks,fun g hg hg2=>?_,?_,fun q hq=>?_,by simp; omega⟩
   ·rcases hor with e | e
    ·rw [e] at hg2
     exact hoff g hg (by rw [hg2]; simp)
    ·rw [e] at hg2
     have b1:=(hv.fresh hg).2
     cases hg2
     omega
   ·rw [List.map_append,List.nodup_append]
    refine ⟨hz.nd,by simp,fun q hq r hr e=>?_⟩
    simp only [List.map_cons,List.map_nil,List.mem_singleton] at hr
    subst hr
    subst e
    obtain ⟨⟨q1,q2⟩,hm,e⟩:=List.mem_map.1 hq
    simp only at e
    subst e
    have:=(getL_insAll hz.nd rise_nil q1 q2).2 (.inl hm)
    rw [this] at hh
    cases hh
   ·simp only [List.mem_append,List.mem_singleton] at hq
    rcases hq with hq | rfl
    ·exact hz.ok q hq
    ·exact ⟨by omega,k1⟩
  ·refine wp_seq (or_10hi hs hd x0 x1 x2 x7 x8 x9 x11 (by omega) cz0 k1 (by omega) ?_)
   clear hs hd x0 x1 x2 x7 x8 x9 x11
   intro a5 hs hd x0 x1 x2 x7 x8 x9 x72
   refine wp_cond_false x72 ?_
   refine wp_skip ?_
   exact fin a5 z _ _ keys ⟨hs,hd,x0,x1,x2,x7,x8⟩ x9 hz1
 ·have e:i=ll:=by omega
  subst e
  refine wp_seq (or_7out f.hs f.hd f.x0 f.x1 f.x2 f.x7 f.x8 x9 (by omega) ?_)
  intro a3 hs hd x0 x1 x2 x7 x8
  exact hK a3 y _ _ keys ⟨hs,hd,x0,x1,x2,x7,x8⟩ h
end
end Go.Proofs.YtcinlaacgbfojaaGreatDoor
/- TrieOrders: a put. (Written by tools/gen/genorl2.py.) -/
namespace Go.Proofs.YtcinlaacgbfojaaGreatDoor
open Go.RowKit
structure FQ (la:Option Addr) (ll lc:Nat) (da:Option Addr) (dl dc:Nat) (by_:Int) (isv ksv:Value) (p tb rb:Nat) (a:Act):Prop where
 hs:a.tmps.size=255
 hd:a.defers=[]
 x0:a.eval (.tmp 0)=.slice la ll lc
 x1:a.eval (.tmp 1)=.slice da dl dc
 x2:a.eval (.tmp 2)=.int .i64 by_
 x7:a.eval (.tmp 7)=isv
 x8:a.eval (.tmp 8)=ksv
 x12:a.eval (.tmp 12)=.pointer (some ⟨p,0,none⟩)
 x14:a.eval (.tmp 14)=.pointer (some ⟨tb,0,none⟩)
 x15:a.eval (.tmp 15)=.pointer (some ⟨rb,0,none⟩)
def rootsO (a b:Int):Obj:=.cells #[.int .i64 a,.int .i64 b] 37 (0,0)
structure L2 (W x:World) (p tb rb it:Nat) (isv ksv:Value) (isl keys:List (Int × Int)) (o:Nat→Option Tr) (r:Nat→Int) (k:Nat) (gn:List Int):Prop where
 t2:T2 W x 4096 p tb it (o k) (o (1 - k)) gn
 isr:PR W.heap.size x isv isl
 ksr:PR W.heap.size x ksv keys
 box:x.heap[rb]?=some (rootsO (r 0) (r 1))
 rlow:W.heap.size≤rb
theorem PR.keptT {B:Nat} {x y:World} {v:Value} {l:List (Int × Int)} (h:PR B x v l) (hk:KeepT x y):PR B y v l:=by
 refine ⟨h.own.1,?_⟩
 rcases h.own.2 with h0 | ⟨g,c,cs,rfl,hb,hg,h3⟩
 ·exact .inl h0
 ·exact .inr ⟨g,c,cs,rfl,hb,hk.blk _ _ _ (by decide) hg,h3⟩
theorem PR.besideT {B b:Nat} {x y:World} {v:Value} {l:List (Int × Int)} {cs:Array Value} {T:TypeId} (h:PR B x v l) (hb:x.heap[b]?=some (.cells cs T (0,0))) (hT:T≠28) (ht:Turned [b] x y):PR B y v l:=by
 refine h.keep ht (fun g hg hm=>?_)
 rcases h.own.2 with ⟨h0,_⟩ | ⟨g',c,cs',hv,_,hg',_⟩
 ·rw [h0] at hg; cases hg
 ·rw [hv] at hg; cases hg
  simp at hm; subst hm
  exact other_type hb hg' hT rfl
section
variable {W x y:World} {p tb rb it it' k:Nat} {isv ksv:Value} {isl keys:List (Int × Int)} {o o':Nat→Option Tr} {r:Nat→Int} {gn gn':List Int}
theorem L2.kept (h:L2 W x p tb rb it isv ksv isl keys o r k gn) (hk:KeepT x y) (t:T2 W y 4096 p tb it' (o' k) (o' (1 - k)) gn'):L2 W y p tb rb it' isv ksv isl keys o' r k gn' :=
 ⟨t,h.isr.keptT hk,h.ksr.keptT hk,hk.blk _ _ _ (by decide) h.box,h.rlow⟩
theorem L2.still (h:L2 W x p tb rb it isv ksv isl keys o r k gn) (ht:Turned [] x y):L2 W y p tb rb it isv ksv isl keys o r k gn:=h.kept (KeepT.of ht) (h.t2.still ht)
theorem L2.edit (h:L2 W x p tb rb it isv ksv isl keys o r k gn) (hp:0 < W.heap.size) {nb:Nat} {cs:Array Value} (hb:x.heap[nb]?=some (.cells cs 39 (0,0))) (hw:W.heap.size≤nb) (ht:Turned [nb] x y):L2 W y p tb rb it isv ksv isl keys o r k gn :=
 ⟨h.t2.write hb (by decide) (by decide) hp hw ht,h.isr.besideT hb (by decide) ht,h.ksr.besideT hb (by decide) ht,ht.heap h.box (by simp; exact other_type h.box hb (by decide)),h.rlow⟩
theorem L2.roots (h:L2 W x p tb rb it isv ksv isl keys o r k gn) (hp:0 < W.heap.size) (hk:k < 2) (v:Int):L2 W (x.setCell ⟨rb,k,none⟩ (.int .i64 v)) p tb rb it isv ksv isl keys o (fun m=>if m=k then v else r m) k gn:=by
 have ht:Turned [rb] x (x.setCell ⟨rb,k,none⟩ (.int .i64 v)):=(Turned.refl _ _).set (.inl (by simp)) _ _
 refine ⟨h.t2.write h.box (by decide) (by decide) hp h.rlow ht,h.isr.besideT h.box (by decide) ht,h.ksr.besideT h.box (by decide) ht,?_,h.rlow⟩
 have hb:=blk_set h.box k (.int .i64 v)
 rcases (by omega:k=0∨k=1) with rfl | rfl
 ·exact hb
 ·exact hb
end
end Go.Proofs.YtcinlaacgbfojaaGreatDoor
/- TrieOrders: a put, whole. (Written by tools/gen/genorl2.py.) -/
namespace Go.Proofs.YtcinlaacgbfojaaGreatDoor
open Go.RowKit
structure PutP (W:World) (p tb rb it:Nat) (isv ksv:Value) (isl keys:List (Int × Int)) (o:Nat→Option Tr) (k:Nat) (l':List (Int × Int)) (B:Nat) (v:EdV) (x:World):Prop where
 size:B≤x.heap.size
 way:(v.er=102∧Turned [] W x)∨(v.er=0∧∃ o' gn,v.root=rootO o'∧prs o'=l'∧L2 W x p tb rb (it+200) isv ksv isl keys (fun m=>if m=k then o' else o m) (fun m=>rootO (o m)) k gn∧IR 0 x (.slice v.ga v.gl v.gc) gn)
section
variable {W x:World} {p tb rb ll lc dl dc il ic kc i k j kb it:Nat} {la da ia:Option Addr} {by_:Int} {isl keys:List (Int × Int)} {o:Nat→Option Tr} {a:Act} {Q:Exit→Act→World→Prop}
theorem or_put (hp:0 < W.heap.size) (hk:k < 2) (hj:j < keys.length) (hkey:isKey keys[j].1) (f:FQ la ll lc da dl dc by_ (.slice ia il ic) (.slice (some ⟨kb,0,none⟩) keys.length kc) p tb rb a) (x16:a.eval (.tmp 16)=.int .i64 (k:Nat)) (x17:a.eval (.tmp 17)=.int .i64 (i:Nat)) (x18:a.eval (.tmp 18)=.int .i64 (j:Nat)) (h:L2 W x p tb rb it (.slice ia il ic) (.slice (some ⟨kb,0,none⟩) keys.length kc) isl keys o (fun m=>rootO (o m)) k []) (hit:it≤700000000)
  (hN:∀ a' y o',FQ la ll lc da dl dc by_ (.slice ia il ic) (.slice (some ⟨kb,0,none⟩) keys.length kc) p tb rb a'→a'.eval (.tmp 16)=.int .i64 (k:Nat)→a'.eval (.tmp 17)=.int .i64 (i:Nat)→prs o'=insL (prs (o k)) keys[j].1 keys[j].2→L2 W y p tb rb (it+20000) (.slice ia il ic) (.slice (some ⟨kb,0,none⟩) keys.length kc) isl keys (fun m=>if m=k then o' else o m) (fun m=>rootO (if m=k then o' else o m)) k []→Q .normal a' y)
  (hR:∀ a' y,a'.tmps.size=255→a'.defers=[]→a'.eval (.tmp 6)=.bool true→Turned [] W y→Q .ret a' y):(atc Tryz.f3.body [1,1,1,1,1,1,1,1,1,0,1,0,0,1,0,0,1,0,0,1,0,0,1,1]).wp Tryz.prog Q a x:=by
 have hcell:∀ {y:World},PR W.heap.size y (.slice (some ⟨kb,0,none⟩) keys.length kc) keys→y.cell? ⟨kb,j * 2,none⟩=some (.int .i64 keys[j].1)∧y.cell? ⟨kb,j * 2+1,none⟩=some (.int .i64 keys[j].2):=fun {y} hr=>by
  rcases hr.form with ⟨h0,-⟩ | ⟨g',c',cs,hv,_,_,_,_,hc⟩
  ·cases h0
  ·cases hv; exact hc j hj
 have hroot:∀ {y:World} {r:Nat→Int},y.heap[rb]?=some (rootsO (r 0) (r 1))→y.cell? ⟨rb,k,none⟩=some (.int .i64 (r k)):=fun {y r} hb=>by
  rcases (by omega:k=0∨k=1) with rfl | rfl
  ·exact cell_at hb 0
  ·exact cell_at hb 1
 have hx:=h.t2.turned.size
 refine wp_seq (to_r27 (tb:=tb) (rb:=rb) (kb:=kb) (kl:=keys.length) (kc:=kc) (k:=k) (jj:=j) (rt:=rootO (o k)) (ky:=keys[j].1) (vy:=keys[j].2) (C:=fun y=>y.heap[rb]?=some (rootsO (rootO (o 0)) (rootO (o 1)))∧PR W.heap.size y (.slice (some ⟨kb,0,none⟩) keys.length kc) keys) (P0:=fun y=>L2 W y p tb rb it (.slice ia il ic) (.slice (some ⟨kb,0,none⟩) keys.length kc) isl keys o (fun m=>rootO (o m)) k []∧x.heap.size≤y.heap.size) (P1:=fun v y=>(y.heap[rb]?=some (rootsO (rootO (o 0)) (rootO (o 1)))∧PR W.heap.size y (.slice (some ⟨kb,0,none⟩) keys.length kc) keys)∧PutP W p tb rb it (.slice ia il ic) (.slice (some ⟨kb,0,none⟩) keys.length kc) isl keys o k (insL (prs (o k)) keys[j].1 keys[j].2) x.heap.size v y) f.hs f.x14 x16 f.x15 f.x8 x18 hk hj (fun y hy=>⟨hy.1.box,hy.1.ksr⟩) (fun v y hy=>hy.1) (fun y hy=>⟨hroot (r:=fun m=>rootO (o m)) hy.1,(hcell hy.2).1,(hcell hy.2).2⟩) ⟨h.still (Turned.refl [] _).drew,Nat.le_refl _⟩ (fun y z hy ht=>⟨hy.1.still ht,Nat.le_trans hy.2 ht.size⟩) (fun v y z hy ht=>?_) (fun v y z nb hy hb hbn ht=>?_) (fun y hy=>hy.2) (fun v y hy=>hy.2.size) (fun y hy=>?_) ?_)
 ·refine ⟨⟨ht.heap hy.1.1 (by simp),hy.1.2.keep ht (by simp)⟩,Nat.le_trans hy.2.size ht.size,?_⟩
  rcases hy.2.way with ⟨q1,q2⟩ | ⟨q1,o',gn,q2,q3,q4,q5⟩
  ·exact .inl ⟨q1,q2.trans ht⟩
  ·exact .inr ⟨q1,o',gn,q2,q3,q4.still ht,q5.keep ht (by simp)⟩
 ·refine ⟨⟨ht.heap hy.1.1 (by simp; exact other_type hy.1.1 hb (by decide)),hy.1.2.besideT hb (by decide) ht⟩,Nat.le_trans hy.2.size ht.size,?_⟩
  rcases hy.2.way with ⟨q1,q2⟩ | ⟨q1,o',gn,q2,q3,q4,q5⟩
  ·exact .inl ⟨q1,q2.inner ht (fun g hg=>by simp at hg; subst hg; exact .inr (by omega))⟩
  ·refine .inr ⟨q1,o',gn,q2,q3,q4.edit hp hb (by omega) ht,q5.keep ht (fun g hg hm=>?_)⟩
   simp at hm; subst hm
   obtain ⟨cs,hc⟩:=q5.type hg
   exact other_type hb hc (by decide) rfl
 ·refine (tPut hy.1.t2 (by omega) hkey keys[j].2).mono ?_
  rintro e z ⟨er,root,old,had,gv,mv,gn,o',rfl,hkp,hg,hmv,htw,hway⟩
  obtain ⟨ga,gl,gc,rfl⟩:=hg.isSl3
  obtain ⟨ma,ml,mc,rfl⟩:=hmv
  refine ⟨⟨root,old,had,ga,gl,gc,ma,ml,mc,er⟩,rfl,hkp,⟨hkp.blk _ _ _ (by decide) hy.1.box,hy.1.ksr.keptT hkp⟩,Nat.le_trans hy.2 hkp.size,?_⟩
  rcases hway with rfl | ⟨rfl,rfl,hp',ht2⟩
  ·exact .inl ⟨rfl,htw⟩
  ·refine .inr ⟨rfl,o',gn,rfl,hp',hy.1.kept hkp ?_,⟨hg.own.1,?_⟩⟩
   ·have hne:¬ 1 - k=k:=by omega
    simpa [hne] using ht2
   ·rcases hg.own.2 with h0 | ⟨g,c,cs,hv,_,hh,h3⟩
    ·exact .inl h0
    ·exact .inr ⟨g,c,cs,hv,Nat.zero_le _,hh,h3⟩
 ·intro a1 y nb v hs' hd' hoff x19 x20 hP he hbn
  have f1:FQ la ll lc da dl dc by_ (.slice ia il ic) (.slice (some ⟨kb,0,none⟩) keys.length kc) p tb rb a1:=⟨hs'.trans f.hs,hd'.trans f.hd,(hoff 0 (by decide)).trans f.x0,(hoff 1 (by decide)).trans f.x1,(hoff 2 (by decide)).trans f.x2,(hoff 7 (by decide)).trans f.x7,(hoff 8 (by decide)).trans f.x8,(hoff 12 (by decide)).trans f.x12,(hoff 14 (by decide)).trans f.x14,(hoff 15 (by decide)).trans f.x15⟩
  have y16:=(hoff 16 (by decide)).trans x16
  have y17:=(hoff 17 (by decide)).trans x17
  rcases hP.2.way with ⟨q1,q2⟩ | ⟨q1,o',gn,q2,q3,q4,q5⟩
  ·rw [q1] at x20
   refine wp_seq (or_28full f1.hs f1.hd x20 ?_)
   intro a2 hs hd x6
   exact hR a2 y hs hd x6 q2
  ·rw [q1] at x20
   refine wp_seq (or_28ok f1.hs f1.hd f1.x0 f1.x1 f1.x2 f1.x7 f1.x8 f1.x12 f1.x14 f1.x15 y16 y17 x19 x20 ?_)
   clear f1 y16 y17 x19 x20
   intro a2 hs hd x0 x1 x2 x7 x8 x12 x14 x15 x16 x17 x19
   refine wp_seq (or_30 hs hd x0 x1 x2 x7 x8 x12 x14 x15 x16 x17 x19 (by omega) he q4.box ?_)
   clear hs hd x0 x1 x2 x7 x8 x12 x14 x15 x16 x17 x19
   rintro a3 z hs hd x0 x1 x2 x7 x8 x12 x14 x15 x16 x17 x19 rfl
   have q6:=q4.roots hp hk v.root
   have T:Turned [rb] y (y.setCell ⟨rb,k,none⟩ (.int .i64 v.root)):=(Turned.refl _ _).set (.inl (by simp)) _ _
   have he2:=T.heap he (by simp; exact other_type he q4.box (by decide))
   have q7:=q5.keep T (fun g hg hm=>by
    simp at hm; subst hm
    obtain ⟨cs,hc⟩:=q5.type hg
    exact other_type q4.box hc (by decide) rfl)
   refine wp_endB (or_31 hs hd x0 x1 x2 x7 x8 x12 x14 x15 x16 x17 x19 he2 (tUndo q6.t2 (by omega) (by omega) q7) ?_)
   clear hs hd x0 x1 x2 x7 x8 x12 x14 x15 x16 x17 x19
   rintro a4 z2 hs hd x0 x1 x2 x7 x8 x12 x14 x15 x16 x17 ⟨hkp,ht2⟩
   have hr:(fun m=>if m=k then v.root else rootO (o m))=fun m=>rootO (if m=k then o' else o m):=by
    funext m
    by_cases e:m=k
    ·simp only [if_pos e]; exact q2
    ·simp only [if_neg e]
   rw [hr] at q6
   exact hN a4 z2 o' ⟨hs,hd,x0,x1,x2,x7,x8,x12,x14,x15⟩ x16 x17 q3 (q6.kept hkp (ht2.more (by omega)))
end
end Go.Proofs.YtcinlaacgbfojaaGreatDoor
/- TrieOrders: a drop, whole. (Written by tools/gen/genorl2.py.) -/
namespace Go.Proofs.YtcinlaacgbfojaaGreatDoor
open Go.RowKit
structure DropP (W:World) (p tb rb it:Nat) (isv ksv:Value) (isl keys:List (Int × Int)) (o:Nat→Option Tr) (k:Nat) (l':List (Int × Int)) (B:Nat) (v:EdV) (x:World):Prop where
 size:B≤x.heap.size
 way:(¬ v.er=0∧prs (o k)=l'∧L2 W x p tb rb (it+200) isv ksv isl keys o (fun m=>rootO (o m)) k [])∨(v.er=0∧∃ o' gn,v.root=rootO o'∧prs o'=l'∧L2 W x p tb rb (it+200) isv ksv isl keys (fun m=>if m=k then o' else o m) (fun m=>rootO (o m)) k gn∧IR 0 x (.slice v.ga v.gl v.gc) gn)
section
variable {W x:World} {p tb rb ll lc dl dc il ic kl kc i k j db dq it:Nat} {la ia ka:Option Addr} {by_ d:Int} {isl keys:List (Int × Int)} {o:Nat→Option Tr} {a:Act} {Q:Exit→Act→World→Prop}
theorem or_drop (hp:0 < W.heap.size) (hk:k < 2) (hj:j < dl) (hd0:W.cell? ⟨db,dq+j,none⟩=some (.int .i64 d)) (f:FQ la ll lc (some ⟨db,dq,none⟩) dl dc by_ (.slice ia il ic) (.slice ka kl kc) p tb rb a) (x21:a.eval (.tmp 21)=.int .i64 (i:Nat)) (x22:a.eval (.tmp 22)=.int .i64 (k:Nat)) (x23:a.eval (.tmp 23)=.int .i64 (j:Nat)) (h:L2 W x p tb rb it (.slice ia il ic) (.slice ka kl kc) isl keys o (fun m=>rootO (o m)) k []) (hit:it≤700000000) (hroom:(hsx (o k)).length+(hsx (o (1 - k))).length+34≤4096)
  (hN:∀ a' y o',FQ la ll lc (some ⟨db,dq,none⟩) dl dc by_ (.slice ia il ic) (.slice ka kl kc) p tb rb a'→a'.eval (.tmp 21)=.int .i64 (i:Nat)→a'.eval (.tmp 22)=.int .i64 (k:Nat)→prs o'=delL (prs (o k)) d→L2 W y p tb rb (it+20000) (.slice ia il ic) (.slice ka kl kc) isl keys (fun m=>if m=k then o' else o m) (fun m=>rootO (if m=k then o' else o m)) k []→Q .normal a' y):(atc Tryz.f3.body [1,1,1,1,1,1,1,1,1,1,0,1,0,0,1,0,0,1,0,0,1,0,0,1,1]).wp Tryz.prog Q a x:=by
 have hroot:∀ {y:World} {r:Nat→Int},y.heap[rb]?=some (rootsO (r 0) (r 1))→y.cell? ⟨rb,k,none⟩=some (.int .i64 (r k)):=fun {y r} hb=>by
  rcases (by omega:k=0∨k=1) with rfl | rfl
  ·exact cell_at hb 0
  ·exact cell_at hb 1
 have hx:=h.t2.turned.size
 refine wp_seq (to_r42 (tb:=tb) (rb:=rb) (kb:=db) (ko:=dq) (kl:=dl) (kc:=dc) (k:=k) (jj:=j) (rt:=rootO (o k)) (ky:=d) (C:=fun y=>y.heap[rb]?=some (rootsO (rootO (o 0)) (rootO (o 1)))∧Turned [] W y) (P0:=fun y=>L2 W y p tb rb it (.slice ia il ic) (.slice ka kl kc) isl keys o (fun m=>rootO (o m)) k []∧x.heap.size≤y.heap.size) (P1:=fun v y=>(y.heap[rb]?=some (rootsO (rootO (o 0)) (rootO (o 1)))∧Turned [] W y)∧DropP W p tb rb it (.slice ia il ic) (.slice ka kl kc) isl keys o k (delL (prs (o k)) d) x.heap.size v y) f.hs f.x14 x22 f.x15 f.x1 x23 hk hj (fun y hy=>⟨hy.1.box,hy.1.t2.turned⟩) (fun v y hy=>hy.1) (fun y hy=>⟨hroot (r:=fun m=>rootO (o m)) hy.1,hy.2.cell hd0 (by simp)⟩) ⟨h.still (Turned.refl [] _).drew,Nat.le_refl _⟩ (fun y z hy ht=>⟨hy.1.still ht,Nat.le_trans hy.2 ht.size⟩) (fun v y z hy ht=>?_) (fun v y z nb hy hb hbn ht=>?_) (fun y hy=>hy.2) (fun v y hy=>hy.2.size) (fun y hy=>?_) ?_)
 ·refine ⟨⟨ht.heap hy.1.1 (by simp),hy.1.2.trans ht⟩,Nat.le_trans hy.2.size ht.size,?_⟩
  rcases hy.2.way with ⟨q1,q2,q3⟩ | ⟨q1,o',gn,q2,q3,q4,q5⟩
  ·exact .inl ⟨q1,q2,q3.still ht⟩
  ·exact .inr ⟨q1,o',gn,q2,q3,q4.still ht,q5.keep ht (by simp)⟩
 ·refine ⟨⟨ht.heap hy.1.1 (by simp; exact other_type hy.1.1 hb (by decide)),hy.1.2.inner ht (fun g hg=>by simp at hg; subst hg; exact .inr (by omega))⟩,Nat.le_trans hy.2.size ht.size,?_⟩
  rcases hy.2.way with ⟨q1,q2,q3⟩ | ⟨q1,o',gn,q2,q3,q4,q5⟩
  ·exact .inl ⟨q1,q2,q3.edit hp hb (by omega) ht⟩
  ·refine .inr ⟨q1,o',gn,q2,q3,q4.edit hp hb (by omega) ht,q5.keep ht (fun g hg hm=>?_)⟩
   simp at hm; subst hm
   obtain ⟨cs,hc⟩:=q5.type hg
   exact other_type hb hc (by decide) rfl
 ·refine (tDrop hy.1.t2 (by omega) hroom d).mono ?_
  rintro e z ⟨er,root,old,had,gv,mv,gn,o',rfl,hkp,hg,hmv,hpr,hway⟩
  obtain ⟨ga,gl,gc,rfl⟩:=hg.isSl3
  obtain ⟨ma,ml,mc,rfl⟩:=hmv
  have htw:Turned [] W z:=by
   rcases hway with ⟨_,_,ht2⟩ | ⟨_,_,ht2⟩
   ·exact ht2.turned
   ·exact ht2.turned
  refine ⟨⟨root,old,had,ga,gl,gc,ma,ml,mc,er⟩,rfl,hkp,⟨hkp.blk _ _ _ (by decide) hy.1.box,htw⟩,Nat.le_trans hy.2 hkp.size,?_⟩
  rcases hway with ⟨hne,rfl,ht2⟩ | ⟨rfl,rfl,ht2⟩
  ·exact .inl ⟨hne,hpr,hy.1.kept hkp ht2⟩
  ·refine .inr ⟨rfl,o',gn,rfl,hpr,hy.1.kept hkp ?_,⟨hg.own.1,?_⟩⟩
   ·have hne:¬ 1 - k=k:=by omega
    simpa [hne] using ht2
   ·rcases hg.own.2 with h0 | ⟨g,c,cs,hv,_,hh,h3⟩
    ·exact .inl h0
    ·exact .inr ⟨g,c,cs,hv,Nat.zero_le _,hh,h3⟩
 ·intro a1 y nb v hs' hd' hoff x24 x25 hP he hbn
  have f1:FQ la ll lc (some ⟨db,dq,none⟩) dl dc by_ (.slice ia il ic) (.slice ka kl kc) p tb rb a1:=⟨hs'.trans f.hs,hd'.trans f.hd,(hoff 0 (by decide)).trans f.x0,(hoff 1 (by decide)).trans f.x1,(hoff 2 (by decide)).trans f.x2,(hoff 7 (by decide)).trans f.x7,(hoff 8 (by decide)).trans f.x8,(hoff 12 (by decide)).trans f.x12,(hoff 14 (by decide)).trans f.x14,(hoff 15 (by decide)).trans f.x15⟩
  have y21:=(hoff 21 (by decide)).trans x21
  have y22:=(hoff 22 (by decide)).trans x22
  rcases hP.2.way with ⟨q1,q2,q3⟩ | ⟨q1,o',gn,q2,q3,q4,q5⟩
  ·refine wp_seq (or_43 f1.hs f1.hd f1.x0 f1.x1 f1.x2 f1.x7 f1.x8 f1.x12 f1.x14 f1.x15 y21 y22 x24 x25 (t:=false) (by simpa using q1) ?_)
   clear f1 y21 y22 x24 x25
   intro a2 hs hd x0 x1 x2 x7 x8 x12 x14 x15 x21 x22 x24 x198
   refine wp_cond_false x198 ?_
   refine wp_skip ?_
   have e1:(fun m=>if m=k then o k else o m)=o:=by
    funext m
    by_cases e:m=k
    ·simp [e]
    ·simp [e]
   refine hN a2 y (o k) ⟨hs,hd,x0,x1,x2,x7,x8,x12,x14,x15⟩ x21 x22 q2 ?_
   have e2:(fun m=>rootO (if m=k then o k else o m))=fun m=>rootO (o m):=by
    funext m
    rw [show (if m=k then o k else o m)=o m from congrFun e1 m]
   rw [e1,e2]
   exact ⟨q3.t2.more (by omega),q3.isr,q3.ksr,q3.box,q3.rlow⟩
  ·refine wp_seq (or_43 f1.hs f1.hd f1.x0 f1.x1 f1.x2 f1.x7 f1.x8 f1.x12 f1.x14 f1.x15 y21 y22 x24 x25 (t:=true) (by simp [q1]) ?_)
   clear f1 y21 y22 x24 x25
   intro a2 hs hd x0 x1 x2 x7 x8 x12 x14 x15 x21 x22 x24 x198
   refine wp_cond_true x198 ?_
   refine wp_seq (or_44 hs hd x0 x1 x2 x7 x8 x12 x14 x15 x21 x22 x24 (by omega) he q4.box ?_)
   clear hs hd x0 x1 x2 x7 x8 x12 x14 x15 x21 x22 x24 x198
   rintro a3 z hs hd x0 x1 x2 x7 x8 x12 x14 x15 x21 x22 x24 rfl
   have q6:=q4.roots hp hk v.root
   have T:Turned [rb] y (y.setCell ⟨rb,k,none⟩ (.int .i64 v.root)):=(Turned.refl _ _).set (.inl (by simp)) _ _
   have he2:=T.heap he (by simp; exact other_type he q4.box (by decide))
   have q7:=q5.keep T (fun g hg hm=>by
    simp at hm; subst hm
    obtain ⟨cs,hc⟩:=q5.type hg
    exact other_type q4.box hc (by decide) rfl)
   refine wp_endB (or_45 hs hd x0 x1 x2 x7 x8 x12 x14 x15 x21 x22 x24 he2 (tUndo q6.t2 (by omega) (by omega) q7) ?_)
   clear hs hd x0 x1 x2 x7 x8 x12 x14 x15 x21 x22 x24
   rintro a4 z2 hs hd x0 x1 x2 x7 x8 x12 x14 x15 x21 x22 ⟨hkp,ht2⟩
   have hr:(fun m=>if m=k then v.root else rootO (o m))=fun m=>rootO (if m=k then o' else o m):=by
    funext m
    by_cases e:m=k
    ·simp only [if_pos e]; exact q2
    ·simp only [if_neg e]
   rw [hr] at q6
   exact hN a4 z2 o' ⟨hs,hd,x0,x1,x2,x7,x8,x12,x14,x15⟩ x21 x22 q3 (q6.kept hkp (ht2.more (by omega)))
end
end Go.Proofs.YtcinlaacgbfojaaGreatDoor
/- TrieOrders: all puts of one map. (Written by tools/gen/genorl2.py.) -/
namespace Go.Proofs.YtcinlaacgbfojaaGreatDoor
open Go.RowKit
def turnC (by_:Int) (len:Nat):Nat:=((by_.tmod (len:Int)+len).tmod (len:Int)).toNat
theorem turn_ok {by_:Int} {len:Nat} (h:0 < len):-(len:Int) < by_.tmod len∧by_.tmod (len:Int) < len∧(by_.tmod (len:Int)+len).tmod (len:Int)=turnC by_ len∧turnC by_ len < len:=by
 have hp:(0:Int) < len:=by omega
 have h1:by_.tmod (len:Int) < len:=Int.tmod_lt_of_pos _ hp
 have h2:-(len:Int) < by_.tmod len:=Int.lt_tmod_of_pos _ hp
 have h3:(by_.tmod (len:Int)+len).tmod (len:Int)=(by_.tmod (len:Int)+len) % (len:Int):=Int.tmod_eq_emod_of_nonneg (by omega)
 have h4:0≤(by_.tmod (len:Int)+len) % (len:Int):=Int.emod_nonneg _ (by omega)
 have h5:(by_.tmod (len:Int)+len) % (len:Int) < len:=Int.emod_lt_of_pos _ hp
 unfold turnC
 rw [h3]
 omega
theorem turn_jm {len c i:Nat} (hi:i < len):((len:Int) - 1 - i+c).tmod (len:Int)=(jm len c i:Nat):=by
 rw [Int.tmod_eq_emod_of_nonneg (by omega)]
 unfold jm
 rw [show (len:Int) - 1 - i+c=((len - 1 - i+c:Nat):Int) by omega]
 exact (Int.natCast_emod _ _).symm
section
variable {W x:World} {p tb rb ll lc dl dc il ic kc k it:Nat} {la da ia ka:Option Addr} {by_:Int} {isl keys:List (Int × Int)} {o:Nat→Option Tr} {a:Act} {K:Act→World→Prop} {Q:Exit→Act→World→Prop}
theorem or_loop4 (hp:0 < W.heap.size) (hk:k < 2) (hlen:keys.length≤100) (hok:∀ q∈keys,isKey q.1) (f:FQ la ll lc da dl dc by_ (.slice ia il ic) (.slice ka keys.length kc) p tb rb a) (x16:a.eval (.tmp 16)=.int .i64 (k:Nat)) (h:L2 W x p tb rb it (.slice ia il ic) (.slice ka keys.length kc) isl keys o (fun m=>rootO (o m)) k []) (h0:prs (o k)=[]) (hit:it≤10000000)
  (hK:∀ a' y o',FQ la ll lc da dl dc by_ (.slice ia il ic) (.slice ka keys.length kc) p tb rb a'→a'.eval (.tmp 16)=.int .i64 (k:Nat)→prs o'=insAll [] (ordK keys (turnC by_ keys.length) k)→L2 W y p tb rb (it+20000 * keys.length) (.slice ia il ic) (.slice ka keys.length kc) isl keys (fun m=>if m=k then o' else o m) (fun m=>rootO (if m=k then o' else o m)) k []→K a' y)
  (hR:∀ a' y,a'.tmps.size=255→a'.defers=[]→a'.eval (.tmp 6)=.bool true→Turned [] W y→Q .ret a' y):(atc Tryz.f3.body [1,1,1,1,1,1,1,1,1,0,1,0,0,1,0,0]).wp Tryz.prog (Exit.then K Q) a x:=by
 refine wp_seq (or_21 f.hs f.hd f.x0 f.x1 f.x2 f.x7 f.x8 f.x12 f.x14 f.x15 x16 ?_)
 clear f x16
 intro a1 hs hd x0 x1 x2 x7 x8 x12 x14 x15 x16 x17
 refine wp_block ?_
 have e1:(fun m=>if m=k then o k else o m)=o:=by
  funext m
  by_cases e:m=k
  ·simp [e]
  ·simp [e]
 have e2:(fun m=>rootO (if m=k then o k else o m))=fun m=>rootO (o m):=by
  funext m
  rw [show (if m=k then o k else o m)=o m from congrFun e1 m]
 refine wp_loop (fun a' y=>∃ o' i,i≤keys.length∧FQ la ll lc da dl dc by_ (.slice ia il ic) (.slice ka keys.length kc) p tb rb a'∧a'.eval (.tmp 16)=.int .i64 (k:Nat)∧a'.eval (.tmp 17)=.int .i64 (i:Nat)∧prs o'=insAll [] ((ordK keys (turnC by_ keys.length) k).take i)∧L2 W y p tb rb (it+20000 * i) (.slice ia il ic) (.slice ka keys.length kc) isl keys (fun m=>if m=k then o' else o m) (fun m=>rootO (if m=k then o' else o m)) k []) (fun a' _=>keys.length - (intOf (a'.eval (.tmp 17))).toNat) ⟨o k,0,Nat.zero_le _,⟨hs,hd,x0,x1,x2,x7,x8,x12,x14,x15⟩,x16,x17,by rw [h0]; rfl,by rw [e1,e2]; exact h⟩ ?_
 clear hs hd x0 x1 x2 x7 x8 x12 x14 x15 x16 x17 h h0 e1 e2
 rintro a2 y ⟨o',i,hi,f,x16,x17,hprs,h⟩
 have hmu:(intOf (a2.eval (.tmp 17))).toNat=i:=by rw [x17]; simp [intOf]
 rw [hmu]
 by_cases hlt:i < keys.length
 ·have hne:keys≠[]:=fun e=>by rw [e] at hlt; simp at hlt
  obtain ⟨kb,kc',hkv⟩:∃ kb kc',(Value.slice ka keys.length kc)=.slice (some ⟨kb,0,none⟩) keys.length kc':=by
   rcases h.ksr.form with ⟨_,h0⟩ | ⟨g',c',cs,hv,_⟩
   ·exact absurd h0 hne
   ·exact ⟨g',c',hv⟩
  simp only [Value.slice.injEq] at hkv
  obtain ⟨rfl,-,rfl⟩:=hkv
  refine wp_seq (or_22in f.hs f.hd f.x0 f.x1 f.x2 f.x7 f.x8 f.x12 f.x14 f.x15 x16 x17 (by omega) ?_)
  clear f x16 x17 hmu
  intro a3 hs hd x0 x1 x2 x7 x8 x12 x14 x15 x16 x17
  refine wp_seq (wp_block ?_)
  refine wp_seq (or_24 hs hd x0 x1 x2 x7 x8 x12 x14 x15 x16 x17 ?_)
  clear hs hd x0 x1 x2 x7 x8 x12 x14 x15 x16 x17
  intro a4 hs hd x0 x1 x2 x7 x8 x12 x14 x15 x16 x17 x18
  have rest:∀ {Q':Exit→Act→World→Prop} (a5:Act) (j:Nat) (hj:j < keys.length),keys[j]=(ordK keys (turnC by_ keys.length) k)[i]'(by rw [ordK_len]; exact hlt)→FQ la ll lc da dl dc by_ (.slice ia il ic) (.slice (some ⟨kb,0,none⟩) keys.length kc) p tb rb a5→a5.eval (.tmp 16)=.int .i64 (k:Nat)→a5.eval (.tmp 17)=.int .i64 (i:Nat)→a5.eval (.tmp 18)=.int .i64 (j:Nat)→(∀ a' y o'',FQ la ll lc da dl dc by_ (.slice ia il ic) (.slice (some ⟨kb,0,none⟩) keys.length kc) p tb rb a'→a'.eval (.tmp 16)=.int .i64 (k:Nat)→a'.eval (.tmp 17)=.int .i64 (i:Nat)→prs o''=insAll [] ((ordK keys (turnC by_ keys.length) k).take (i+1))→L2 W y p tb rb (it+20000 * (i+1)) (.slice ia il ic) (.slice (some ⟨kb,0,none⟩) keys.length kc) isl keys (fun m=>if m=k then o'' else o m) (fun m=>rootO (if m=k then o'' else o m)) k []→Q' .normal a' y)→(∀ a' y,a'.tmps.size=255→a'.defers=[]→a'.eval (.tmp 6)=.bool true→Turned [] W y→Q' .ret a' y)→(atc Tryz.f3.body [1,1,1,1,1,1,1,1,1,0,1,0,0,1,0,0,1,0,0,1,0,0,1,1]).wp Tryz.prog Q' a5 y:=by
   intro Q' a5 j hj hjk f5 y16 y17 y18 hN hR'
   refine or_put hp hk hj (hok _ (List.getElem_mem hj)) f5 y16 y17 y18 h (by omega) (fun a' z o'' f' z16 z17 hpr h'=>?_) hR'
   have hl:i < (ordK keys (turnC by_ keys.length) k).length:=by rw [ordK_len]; exact hlt
   refine hN a' z o'' f' z16 z17 ?_ ?_
   ·rw [insAll_take hl,← hjk,← hprs,hpr]
    simp
   ·have e3:(fun m=>if m=k then o'' else (if m=k then o' else o m))=fun m=>if m=k then o'' else o m:=by
     funext m
     by_cases e:m=k <;> simp [e]
    have e4:(fun m=>rootO (if m=k then o'' else (if m=k then o' else o m)))=fun m=>rootO (if m=k then o'' else o m):=by
     funext m
     by_cases e:m=k <;> simp [e]
    rw [e3,e4] at h'
    rw [show it+20000 * (i+1)=it+20000 * i+20000 by omega]
    exact h'
  have fin:∀ {Q':Exit→Act→World→Prop} (a':Act) (z:World) (o'':Option Tr),FQ la ll lc da dl dc by_ (.slice ia il ic) (.slice (some ⟨kb,0,none⟩) keys.length kc) p tb rb a'→a'.eval (.tmp 16)=.int .i64 (k:Nat)→a'.eval (.tmp 17)=.int .i64 (i:Nat)→prs o''=insAll [] ((ordK keys (turnC by_ keys.length) k).take (i+1))→L2 W z p tb rb (it+20000 * (i+1)) (.slice ia il ic) (.slice (some ⟨kb,0,none⟩) keys.length kc) isl keys (fun m=>if m=k then o'' else o m) (fun m=>rootO (if m=k then o'' else o m)) k []→(atc Tryz.f3.body [1,1,1,1,1,1,1,1,1,0,1,0,0,1,0,0,1,0,0,1,1]).wp Tryz.prog (Exit.then (fun a' y=>(∃ o' i,i≤keys.length∧FQ la ll lc da dl dc by_ (.slice ia il ic) (.slice (some ⟨kb,0,none⟩) keys.length kc) p tb rb a'∧a'.eval (.tmp 16)=.int .i64 (k:Nat)∧a'.eval (.tmp 17)=.int .i64 (i:Nat)∧prs o'=insAll [] ((ordK keys (turnC by_ keys.length) k).take i)∧L2 W y p tb rb (it+20000 * i) (.slice ia il ic) (.slice (some ⟨kb,0,none⟩) keys.length kc) isl keys (fun m=>if m=k then o' else o m) (fun m=>rootO (if m=k then o' else o m)) k [])∧keys.length - (intOf (a'.eval (.tmp 17))).toNat < keys.length - i) Q') a' z:=by
   intro Q' a' z o'' f z16 z17 hpr h'
   refine wp_endB (or_23 f.hs f.hd f.x0 f.x1 f.x2 f.x7 f.x8 f.x12 f.x14 f.x15 z16 z17 (by omega) ?_)
   intro a'' hs hd x0 x1 x2 x7 x8 x12 x14 x15 y16 y17
   refine ⟨⟨o'',i+1,by omega,⟨hs,hd,x0,x1,x2,x7,x8,x12,x14,x15⟩,y16,y17,hpr,h'⟩,?_⟩
   rw [y17]; simp only [intOf]; omega
  rcases (by omega:k=0∨k=1) with rfl | rfl
  ·refine wp_seq (or_25z hs hd x0 x1 x2 x7 x8 x12 x14 x15 x16 x17 x18 ?_)
   clear hs hd x0 x1 x2 x7 x8 x12 x14 x15 x16 x17 x18
   intro a5 hs hd x0 x1 x2 x7 x8 x12 x14 x15 x16 x17 x18
   exact rest a5 i hlt (by simp [ordK]) ⟨hs,hd,x0,x1,x2,x7,x8,x12,x14,x15⟩ x16 x17 x18 (fun a' z o'' f' z16 z17 hpr h'=>fin a' z o'' f' z16 z17 hpr h') (fun a' z b1 b2 b3 b4=>hR a' z b1 b2 b3 b4)
  ·obtain ⟨t1,t2,t3,t4⟩:=turn_ok (by_:=by_) (len:=keys.length) (by omega)
   refine wp_seq (or_25o hs hd x0 x1 x2 x7 x8 x12 x14 x15 x16 x17 x18 (by omega) (by omega) rfl t1 t2 t3 (by omega) (turn_jm hlt) ?_)
   clear hs hd x0 x1 x2 x7 x8 x12 x14 x15 x16 x17 x18
   intro a5 hs hd x0 x1 x2 x7 x8 x12 x14 x15 x16 x17 x18
   exact rest a5 (jm keys.length (turnC by_ keys.length) i) (jm_lt (by omega)) (ordK_at hlt).symm ⟨hs,hd,x0,x1,x2,x7,x8,x12,x14,x15⟩ x16 x17 x18 (fun a' z o'' f' z16 z17 hpr h'=>fin a' z o'' f' z16 z17 hpr h') (fun a' z b1 b2 b3 b4=>hR a' z b1 b2 b3 b4)
 ·have e:i=keys.length:=by omega
  subst e
  refine wp_seq (or_22out f.hs f.hd f.x0 f.x1 f.x2 f.x7 f.x8 f.x12 f.x14 f.x15 x16 x17 (by omega) ?_)
  intro a3 hs hd x0 x1 x2 x7 x8 x12 x14 x15 x16
  refine hK a3 y o' ⟨hs,hd,x0,x1,x2,x7,x8,x12,x14,x15⟩ x16 ?_ h
  rw [hprs,List.take_of_length_le (by rw [ordK_len]; exact Nat.le_refl _)]
end
end Go.Proofs.YtcinlaacgbfojaaGreatDoor
/- TrieOrders: the puts of both maps. (Written by tools/gen/genorl2.py.) -/
namespace Go.Proofs.YtcinlaacgbfojaaGreatDoor
open Go.RowKit
section
variable {W x y:World} {p tb rb it it' k:Nat} {isv ksv:Value} {isl keys:List (Int × Int)} {o:Nat→Option Tr} {r:Nat→Int} {gn:List Int}
theorem L2.swap (hk:k < 2) (h:L2 W x p tb rb it isv ksv isl keys o r k gn):L2 W x p tb rb it isv ksv isl keys o r (1 - k) gn :=
 ⟨by
  have:=h.t2.swap
  rwa [show 1 - (1 - k)=k by omega],h.isr,h.ksr,h.box,h.rlow⟩
theorem L2.more (h:L2 W x p tb rb it isv ksv isl keys o r k gn) (hi:it≤it'):L2 W x p tb rb it' isv ksv isl keys o r k gn:=⟨h.t2.more hi,h.isr,h.ksr,h.box,h.rlow⟩
theorem L2.to (hk:k < 2) {k':Nat} (hk':k' < 2) (h:L2 W x p tb rb it isv ksv isl keys o r k gn):L2 W x p tb rb it isv ksv isl keys o r k' gn:=by
 by_cases e:k'=k
 ·subst e; exact h
 ·have:=h.swap hk
  rwa [show 1 - k=k' by omega] at this
end
section
variable {W x:World} {p tb rb ll lc dl dc il ic kc it:Nat} {la da ia ka:Option Addr} {by_:Int} {isl keys:List (Int × Int)} {o:Nat→Option Tr} {a:Act} {K:Act→World→Prop} {Q:Exit→Act→World→Prop}
theorem or_loop2 (hp:0 < W.heap.size) (hlen:keys.length≤100) (hok:∀ q∈keys,isKey q.1) (f:FQ la ll lc da dl dc by_ (.slice ia il ic) (.slice ka keys.length kc) p tb rb a) (h:L2 W x p tb rb 0 (.slice ia il ic) (.slice ka keys.length kc) isl keys (fun _=>none) (fun _=>0) 0 [])
  (hK:∀ a' y o,FQ la ll lc da dl dc by_ (.slice ia il ic) (.slice ka keys.length kc) p tb rb a'→(∀ m,m < 2→prs (o m)=insAll [] (ordK keys (turnC by_ keys.length) m))→L2 W y p tb rb 10000000 (.slice ia il ic) (.slice ka keys.length kc) isl keys o (fun m=>rootO (o m)) 0 []→K a' y)
  (hR:∀ a' y,a'.tmps.size=255→a'.defers=[]→a'.eval (.tmp 6)=.bool true→Turned [] W y→Q .ret a' y):(atc Tryz.f3.body [1,1,1,1,1,1,1,1,1,0]).wp Tryz.prog (Exit.then K Q) a x:=by
 refine wp_seq (or_18 f.hs f.hd f.x0 f.x1 f.x2 f.x7 f.x8 f.x12 f.x14 f.x15 ?_)
 clear f
 intro a1 hs hd x0 x1 x2 x7 x8 x12 x14 x15 x16
 refine wp_block ?_
 refine wp_loop (fun a' y=>∃ k o,k≤2∧FQ la ll lc da dl dc by_ (.slice ia il ic) (.slice ka keys.length kc) p tb rb a'∧a'.eval (.tmp 16)=.int .i64 (k:Nat)∧(∀ m,m < k→prs (o m)=insAll [] (ordK keys (turnC by_ keys.length) m))∧(∀ m,k≤m→prs (o m)=[])∧L2 W y p tb rb (3000000 * k) (.slice ia il ic) (.slice ka keys.length kc) isl keys o (fun m=>rootO (o m)) 0 []) (fun a' _=>2 - (intOf (a'.eval (.tmp 16))).toNat) ⟨0,fun _=>none,by omega,⟨hs,hd,x0,x1,x2,x7,x8,x12,x14,x15⟩,x16,(fun m hm=>by omega),(fun _ _=>rfl),h⟩ ?_
 clear hs hd x0 x1 x2 x7 x8 x12 x14 x15 x16 h
 rintro a2 y ⟨k,o,hk,f,x16,hd1,hd2,h⟩
 have hmu:(intOf (a2.eval (.tmp 16))).toNat=k:=by rw [x16]; simp [intOf]
 rw [hmu]
 by_cases hlt:k < 2
 ·refine wp_seq (or_19in f.hs f.hd f.x0 f.x1 f.x2 f.x7 f.x8 f.x12 f.x14 f.x15 x16 (by omega) ?_)
  clear f x16 hmu
  intro a3 hs hd x0 x1 x2 x7 x8 x12 x14 x15 x16
  refine wp_seq (wp_block ?_)
  refine wp_endB (or_loop4 hp hlt hlen hok ⟨hs,hd,x0,x1,x2,x7,x8,x12,x14,x15⟩ x16 (h.to (by omega) hlt) (hd2 k (Nat.le_refl _)) (by omega) ?_ (fun a' z b1 b2 b3 b4=>hR a' z b1 b2 b3 b4))
  clear hs hd x0 x1 x2 x7 x8 x12 x14 x15 x16
  intro a4 z o' f x16 hpr h'
  refine wp_endB (or_20 f.hs f.hd f.x0 f.x1 f.x2 f.x7 f.x8 f.x12 f.x14 f.x15 x16 (by omega) ?_)
  clear f x16
  intro a5 hs hd x0 x1 x2 x7 x8 x12 x14 x15 x16
  refine ⟨⟨k+1,(fun m=>if m=k then o' else o m),by omega,⟨hs,hd,x0,x1,x2,x7,x8,x12,x14,x15⟩,x16,fun m hm=>?_,fun m hm=>?_,(h'.to hlt (by omega)).more (by omega)⟩,?_⟩
  ·by_cases e:m=k
   ·subst e; simp only [if_pos]; exact hpr
   ·simp only [if_neg e]; exact hd1 m (by omega)
  ·have e:¬ m=k:=by omega
   simp only [if_neg e]; exact hd2 m (by omega)
  ·rw [x16]; simp only [intOf]; omega
 ·have e:k=2:=by omega
  subst e
  refine wp_seq (or_19out f.hs f.hd f.x0 f.x1 f.x2 f.x7 f.x8 f.x12 f.x14 f.x15 x16 ?_)
  intro a3 hs hd x0 x1 x2 x7 x8 x12 x14 x15
  exact hK a3 y o ⟨hs,hd,x0,x1,x2,x7,x8,x12,x14,x15⟩ hd1 (h.more (by omega))
end
end Go.Proofs.YtcinlaacgbfojaaGreatDoor
/- TrieOrders: the drops of both maps. (Written by tools/gen/genorl2.py.) -/
namespace Go.Proofs.YtcinlaacgbfojaaGreatDoor
open Go.RowKit
def ordD (ds:List Int) (k:Nat):List Int:=if k=0 then ds else ds.reverse
theorem ordD_len (ds:List Int) (k:Nat):(ordD ds k).length=ds.length:=by unfold ordD; split <;> simp
theorem delL_len (l:List (Int × Int)) (k:Int):(delL l k).length≤l.length:=by
 cases h:getL l k with
 | none=>rw [delL_none h]; exact Nat.le_refl _
 | some v=>have:=delL_length (l:=l) (k:=k) (by rw [h]; rfl); omega
theorem delAll_len (ds:List Int):∀ l,(delAll l ds).length≤l.length:=by
 induction ds with
 | nil=>intro l; exact Nat.le_refl _
 | cons x ds ih=>intro l; exact Nat.le_trans (ih _) (delL_len l x)
section
variable {W x:World} {p tb rb ll lc dc il ic kl kc i db dq it:Nat} {la ia ka:Option Addr} {by_:Int} {isl keys L0:List (Int × Int)} {ds:List Int} {o:Nat→Option Tr} {a:Act} {K:Act→World→Prop} {Q:Exit→Act→World→Prop}
theorem or_loop8 (hp:0 < W.heap.size) (hL0:L0.length≤100) (hds:ds.length≤100) (hi:i < ds.length) (hcell:∀ j (h:j < ds.length),W.cell? ⟨db,dq+j,none⟩=some (.int .i64 ds[j])) (f:FQ la ll lc (some ⟨db,dq,none⟩) ds.length dc by_ (.slice ia il ic) (.slice ka kl kc) p tb rb a) (x21:a.eval (.tmp 21)=.int .i64 (i:Nat)) (h:L2 W x p tb rb it (.slice ia il ic) (.slice ka kl kc) isl keys o (fun m=>rootO (o m)) 0 []) (hit:it≤600000000) (hpr:∀ m,m < 2→prs (o m)=delAll L0 ((ordD ds m).take i))
  (hK:∀ a' y o,FQ la ll lc (some ⟨db,dq,none⟩) ds.length dc by_ (.slice ia il ic) (.slice ka kl kc) p tb rb a'→a'.eval (.tmp 21)=.int .i64 (i:Nat)→(∀ m,m < 2→prs (o m)=delAll L0 ((ordD ds m).take (i+1)))→L2 W y p tb rb (it+40000) (.slice ia il ic) (.slice ka kl kc) isl keys o (fun m=>rootO (o m)) 0 []→K a' y):(atc Tryz.f3.body [1,1,1,1,1,1,1,1,1,1,0,1,0,0,1,0,0]).wp Tryz.prog (Exit.then K Q) a x:=by
 refine wp_seq (or_36 f.hs f.hd f.x0 f.x1 f.x2 f.x7 f.x8 f.x12 f.x14 f.x15 x21 ?_)
 clear f x21
 intro a1 hs hd x0 x1 x2 x7 x8 x12 x14 x15 x21 x22
 refine wp_block ?_
 refine wp_loop (fun a' y=>∃ k o,k≤2∧FQ la ll lc (some ⟨db,dq,none⟩) ds.length dc by_ (.slice ia il ic) (.slice ka kl kc) p tb rb a'∧a'.eval (.tmp 21)=.int .i64 (i:Nat)∧a'.eval (.tmp 22)=.int .i64 (k:Nat)∧(∀ m,m < 2→prs (o m)=delAll L0 ((ordD ds m).take (if m < k then i+1 else i)))∧L2 W y p tb rb (it+20000 * k) (.slice ia il ic) (.slice ka kl kc) isl keys o (fun m=>rootO (o m)) 0 []) (fun a' _=>2 - (intOf (a'.eval (.tmp 22))).toNat) ⟨0,o,by omega,⟨hs,hd,x0,x1,x2,x7,x8,x12,x14,x15⟩,x21,x22,(fun m hm=>by rw [if_neg (by omega)]; exact hpr m hm),h⟩ ?_
 clear hs hd x0 x1 x2 x7 x8 x12 x14 x15 x21 x22 h hpr
 rintro a2 y ⟨k,o,hk,f,x21,x22,hpr,h⟩
 have hmu:(intOf (a2.eval (.tmp 22))).toNat=k:=by rw [x22]; simp [intOf]
 rw [hmu]
 by_cases hlt:k < 2
 ·refine wp_seq (or_37in f.hs f.hd f.x0 f.x1 f.x2 f.x7 f.x8 f.x12 f.x14 f.x15 x21 x22 (by omega) ?_)
  clear f x21 x22 hmu
  intro a3 hs hd x0 x1 x2 x7 x8 x12 x14 x15 x21 x22
  refine wp_seq (wp_block ?_)
  refine wp_seq (or_39 hs hd x0 x1 x2 x7 x8 x12 x14 x15 x21 x22 ?_)
  clear hs hd x0 x1 x2 x7 x8 x12 x14 x15 x21 x22
  intro a4 hs hd x0 x1 x2 x7 x8 x12 x14 x15 x21 x22 x23
  have hcnt:∀ m,m < 2→(hsx (o m)).length≤199:=fun m hm=>by
   have h1:=Holds.count (o m)
   have h2:=delAll_len ((ordD ds m).take (if m < k then i+1 else i)) L0
   rw [← hpr m hm] at h2
   omega
  have hk1:=hcnt k hlt
  have hk2:=hcnt (1 - k) (by omega)
  have rest:∀ {Q':Exit→Act→World→Prop} (a5:Act) (j:Nat) (hj:j < ds.length),ds[j]=(ordD ds k)[i]'(by rw [ordD_len]; exact hi)→FQ la ll lc (some ⟨db,dq,none⟩) ds.length dc by_ (.slice ia il ic) (.slice ka kl kc) p tb rb a5→a5.eval (.tmp 21)=.int .i64 (i:Nat)→a5.eval (.tmp 22)=.int .i64 (k:Nat)→a5.eval (.tmp 23)=.int .i64 (j:Nat)→(∀ a' y o',FQ la ll lc (some ⟨db,dq,none⟩) ds.length dc by_ (.slice ia il ic) (.slice ka kl kc) p tb rb a'→a'.eval (.tmp 21)=.int .i64 (i:Nat)→a'.eval (.tmp 22)=.int .i64 (k:Nat)→prs o'=delL (prs (o k)) ((ordD ds k)[i]'(by rw [ordD_len]; exact hi))→L2 W y p tb rb (it+20000 * k+20000) (.slice ia il ic) (.slice ka kl kc) isl keys (fun m=>if m=k then o' else o m) (fun m=>rootO (if m=k then o' else o m)) k []→Q' .normal a' y)→(atc Tryz.f3.body [1,1,1,1,1,1,1,1,1,1,0,1,0,0,1,0,0,1,0,0,1,0,0,1,1]).wp Tryz.prog Q' a5 y:=by
   intro Q' a5 j hj hjk f5 y21 y22 y23 hN
   rw [← hjk] at hN
   exact or_drop hp hlt hj (hcell j hj) f5 y21 y22 y23 (h.to (by omega) hlt) (by omega) (by omega) hN
  have fin:∀ {Q':Exit→Act→World→Prop} (a':Act) (z:World) (o':Option Tr),FQ la ll lc (some ⟨db,dq,none⟩) ds.length dc by_ (.slice ia il ic) (.slice ka kl kc) p tb rb a'→a'.eval (.tmp 21)=.int .i64 (i:Nat)→a'.eval (.tmp 22)=.int .i64 (k:Nat)→prs o'=delL (prs (o k)) ((ordD ds k)[i]'(by rw [ordD_len]; exact hi))→L2 W z p tb rb (it+20000 * k+20000) (.slice ia il ic) (.slice ka kl kc) isl keys (fun m=>if m=k then o' else o m) (fun m=>rootO (if m=k then o' else o m)) k []→(atc Tryz.f3.body [1,1,1,1,1,1,1,1,1,1,0,1,0,0,1,0,0,1,0,0,1,1]).wp Tryz.prog (Exit.then (fun a' y=>(∃ k o,k≤2∧FQ la ll lc (some ⟨db,dq,none⟩) ds.length dc by_ (.slice ia il ic) (.slice ka kl kc) p tb rb a'∧a'.eval (.tmp 21)=.int .i64 (i:Nat)∧a'.eval (.tmp 22)=.int .i64 (k:Nat)∧(∀ m,m < 2→prs (o m)=delAll L0 ((ordD ds m).take (if m < k then i+1 else i)))∧L2 W y p tb rb (it+20000 * k) (.slice ia il ic) (.slice ka kl kc) isl keys o (fun m=>rootO (o m)) 0 [])∧2 - (intOf (a'.eval (.tmp 22))).toNat < 2 - k) Q') a' z:=by
   intro Q' a' z o' f z21 z22 hpr' h'
   refine wp_endB (or_38 f.hs f.hd f.x0 f.x1 f.x2 f.x7 f.x8 f.x12 f.x14 f.x15 z21 z22 (by omega) ?_)
   intro a'' hs hd x0 x1 x2 x7 x8 x12 x14 x15 y21 y22
   refine ⟨⟨k+1,(fun m=>if m=k then o' else o m),by omega,⟨hs,hd,x0,x1,x2,x7,x8,x12,x14,x15⟩,y21,y22,fun m hm=>?_,?_⟩,?_⟩
   ·by_cases e:m=k
    ·subst e
     simp only [if_pos]
     rw [if_pos (by omega),delAll_take (by rw [ordD_len]; exact hi),hpr',hpr m hm,if_neg (by omega)]
    ·simp only [if_neg e]
     rw [hpr m hm]
     by_cases e2:m < k
     ·rw [if_pos e2,if_pos (by omega)]
     ·rw [if_neg e2,if_neg (by omega)]
   ·rw [show it+20000 * (k+1)=it+20000 * k+20000 by omega]
    exact h'.to hlt (by omega)
   ·rw [y22]; simp only [intOf]; omega
  rcases (by omega:k=0∨k=1) with rfl | rfl
  ·refine wp_seq (or_40z hs hd x0 x1 x2 x7 x8 x12 x14 x15 x21 x22 x23 ?_)
   clear hs hd x0 x1 x2 x7 x8 x12 x14 x15 x21 x22 x23
   intro a5 hs hd x0 x1 x2 x7 x8 x12 x14 x15 x21 x22 x23
   exact rest a5 i hi (by simp [ordD]) ⟨hs,hd,x0,x1,x2,x7,x8,x12,x14,x15⟩ x21 x22 x23 (fun a' z o' f' z1 z2 q1 q2=>fin a' z o' f' z1 z2 q1 q2)
  ·refine wp_seq (or_40o (j:=ds.length - 1 - i) hs hd x0 x1 x2 x7 x8 x12 x14 x15 x21 x22 x23 (by omega) (by omega) (by omega) ?_)
   clear hs hd x0 x1 x2 x7 x8 x12 x14 x15 x21 x22 x23
   intro a5 hs hd x0 x1 x2 x7 x8 x12 x14 x15 x21 x22 x23
   exact rest a5 (ds.length - 1 - i) (by omega) (by simp [ordD]) ⟨hs,hd,x0,x1,x2,x7,x8,x12,x14,x15⟩ x21 x22 x23 (fun a' z o' f' z1 z2 q1 q2=>fin a' z o' f' z1 z2 q1 q2)
 ·have e:k=2:=by omega
  subst e
  refine wp_seq (or_37out f.hs f.hd f.x0 f.x1 f.x2 f.x7 f.x8 f.x12 f.x14 f.x15 x21 x22 ?_)
  intro a3 hs hd x0 x1 x2 x7 x8 x12 x14 x15 x21
  exact hK a3 y o ⟨hs,hd,x0,x1,x2,x7,x8,x12,x14,x15⟩ x21 (fun m hm=>by rw [hpr m hm,if_pos hm]) h
end
end Go.Proofs.YtcinlaacgbfojaaGreatDoor
/- TrieOrders: all drops; the plain map without them. (Written by tools/gen/genorl2.py.) -/
namespace Go.Proofs.YtcinlaacgbfojaaGreatDoor
open Go.RowKit
structure DropsAt (W:World) (da:Option Addr) (ds:List Int):Prop where
 at_:ds≠[]→∃ db dq,da=some ⟨db,dq,none⟩∧∀ j (h:j < ds.length),W.cell? ⟨db,dq+j,none⟩=some (.int .i64 ds[j])
section
variable {W x:World} {p tb rb ll lc dc il ic kl kc it:Nat} {la ia ka da:Option Addr} {by_:Int} {isl keys L0:List (Int × Int)} {ds:List Int} {o:Nat→Option Tr} {a:Act} {K:Act→World→Prop} {Q:Exit→Act→World→Prop}
theorem or_loop6 (hp:0 < W.heap.size) (hL0:L0.length≤100) (hds:ds.length≤100) (hD:DropsAt W da ds) (f:FQ la ll lc da ds.length dc by_ (.slice ia il ic) (.slice ka kl kc) p tb rb a) (h:L2 W x p tb rb it (.slice ia il ic) (.slice ka kl kc) isl keys o (fun m=>rootO (o m)) 0 []) (hit:it≤500000000) (hpr:∀ m,m < 2→prs (o m)=L0)
  (hK:∀ a' y o,FQ la ll lc da ds.length dc by_ (.slice ia il ic) (.slice ka kl kc) p tb rb a'→(∀ m,m < 2→prs (o m)=delAll L0 (ordD ds m))→L2 W y p tb rb (it+4000000) (.slice ia il ic) (.slice ka kl kc) isl keys o (fun m=>rootO (o m)) 0 []→K a' y):(atc Tryz.f3.body [1,1,1,1,1,1,1,1,1,1,0]).wp Tryz.prog (Exit.then K Q) a x:=by
 refine wp_seq (or_33 f.hs f.hd f.x0 f.x1 f.x2 f.x7 f.x8 f.x12 f.x14 f.x15 ?_)
 clear f
 intro a1 hs hd x0 x1 x2 x7 x8 x12 x14 x15 x21
 refine wp_block ?_
 refine wp_loop (fun a' y=>∃ i o,i≤ds.length∧FQ la ll lc da ds.length dc by_ (.slice ia il ic) (.slice ka kl kc) p tb rb a'∧a'.eval (.tmp 21)=.int .i64 (i:Nat)∧(∀ m,m < 2→prs (o m)=delAll L0 ((ordD ds m).take i))∧L2 W y p tb rb (it+40000 * i) (.slice ia il ic) (.slice ka kl kc) isl keys o (fun m=>rootO (o m)) 0 []) (fun a' _=>ds.length - (intOf (a'.eval (.tmp 21))).toNat) ⟨0,o,Nat.zero_le _,⟨hs,hd,x0,x1,x2,x7,x8,x12,x14,x15⟩,x21,(fun m hm=>by rw [hpr m hm]; rfl),h⟩ ?_
 clear hs hd x0 x1 x2 x7 x8 x12 x14 x15 x21 h hpr
 rintro a2 y ⟨i,o,hi,f,x21,hpr,h⟩
 have hmu:(intOf (a2.eval (.tmp 21))).toNat=i:=by rw [x21]; simp [intOf]
 rw [hmu]
 by_cases hlt:i < ds.length
 ·obtain ⟨db,dq,rfl,hcell⟩:=hD.at_ (fun e=>by rw [e] at hlt; simp at hlt)
  refine wp_seq (or_34in f.hs f.hd f.x0 f.x1 f.x2 f.x7 f.x8 f.x12 f.x14 f.x15 x21 (by omega) ?_)
  clear f x21 hmu
  intro a3 hs hd x0 x1 x2 x7 x8 x12 x14 x15 x21
  refine wp_seq (wp_block ?_)
  refine wp_endB (or_loop8 hp hL0 hds hlt hcell ⟨hs,hd,x0,x1,x2,x7,x8,x12,x14,x15⟩ x21 h (by omega) hpr ?_)
  clear hs hd x0 x1 x2 x7 x8 x12 x14 x15 x21
  intro a4 z o' f x21 hpr' h'
  refine wp_endB (or_35 f.hs f.hd f.x0 f.x1 f.x2 f.x7 f.x8 f.x12 f.x14 f.x15 x21 (by omega) ?_)
  clear f x21
  intro a5 hs hd x0 x1 x2 x7 x8 x12 x14 x15 x21
  refine ⟨⟨i+1,o',by omega,⟨hs,hd,x0,x1,x2,x7,x8,x12,x14,x15⟩,x21,hpr',by rw [show it+40000 * (i+1)=it+40000 * i+40000 by omega]; exact h'⟩,?_⟩
  rw [x21]; simp only [intOf]; omega
 ·have e:i=ds.length:=by omega
  subst e
  refine wp_seq (or_34out f.hs f.hd f.x0 f.x1 f.x2 f.x7 f.x8 f.x12 f.x14 f.x15 x21 (by omega) ?_)
  intro a3 hs hd x0 x1 x2 x7 x8 x12 x14 x15
  exact hK a3 y o ⟨hs,hd,x0,x1,x2,x7,x8,x12,x14,x15⟩ (fun m hm=>by rw [hpr m hm,List.take_of_length_le (by rw [ordD_len]; exact Nat.le_refl _)]) (h.more (by omega))
theorem or_loop10 (hds:ds.length≤100) (hL:L0.length≤100) (hD:DropsAt W da ds) (f:FQ la ll lc da ds.length dc by_ (.slice ia il ic) (.slice ka kl kc) p tb rb a) (h:L2 W x p tb rb it (.slice ia il ic) (.slice ka kl kc) L0 keys o (fun m=>rootO (o m)) 0 [])
  (hK:∀ a' y isv,FQ la ll lc da ds.length dc by_ isv (.slice ka kl kc) p tb rb a'→L2 W y p tb rb it isv (.slice ka kl kc) (delAll L0 ds) keys o (fun m=>rootO (o m)) 0 []→K a' y):(atc Tryz.f3.body [1,1,1,1,1,1,1,1,1,1,1,0]).wp Tryz.prog (Exit.then K Q) a x:=by
 refine wp_seq (or_47 f.hs f.hd f.x0 f.x1 f.x2 f.x7 f.x8 f.x12 f.x14 f.x15 ?_)
 clear f
 intro a1 hs hd x0 x1 x2 x7 x8 x12 x14 x15 x26
 refine wp_block ?_
 refine wp_loop (fun a' y=>∃ i isv,i≤ds.length∧FQ la ll lc da ds.length dc by_ isv (.slice ka kl kc) p tb rb a'∧a'.eval (.tmp 26)=.int .i64 (i:Nat)∧L2 W y p tb rb it isv (.slice ka kl kc) (delAll L0 (ds.take i)) keys o (fun m=>rootO (o m)) 0 []) (fun a' _=>ds.length - (intOf (a'.eval (.tmp 26))).toNat) ⟨0,_,Nat.zero_le _,⟨hs,hd,x0,x1,x2,x7,x8,x12,x14,x15⟩,x26,h⟩ ?_
 clear hs hd x0 x1 x2 x7 x8 x12 x14 x15 x26 h
 rintro a2 y ⟨i,isv,hi,f,x26,h⟩
 obtain ⟨ia,ic,rfl⟩:=h.isr.isSl
 have hmu:(intOf (a2.eval (.tmp 26))).toNat=i:=by rw [x26]; simp [intOf]
 rw [hmu]
 by_cases hlt:i < ds.length
 ·obtain ⟨db,dq,rfl,hcell⟩:=hD.at_ (fun e=>by rw [e] at hlt; simp at hlt)
  have hlen:=delAll_len (ds.take i) L0
  have hsz:=h.t2.turned.size
  refine wp_seq (or_48in f.hs f.hd f.x0 f.x1 f.x2 f.x7 f.x8 f.x12 f.x14 f.x15 x26 (by omega) ?_)
  clear f x26 hmu
  intro a3 hs hd x0 x1 x2 x7 x8 x12 x14 x15 x26
  refine wp_seq (wp_block ?_)
  refine wp_endB (or_50 hs hd x0 x1 x2 x7 x8 x12 x14 x15 x26 (by omega) (h.t2.turned.cell (hcell i hlt) (by simp)) (PP:=fun v x'=>PR y.heap.size x' v (delL (delAll L0 (ds.take i)) ds[i])∧Turned [] y x') ((cWithout h.isr (by omega) ds[i]).mono fun e x' ⟨v,q1,q2,q3⟩=>⟨v,q1,q2,q3⟩) ?_)
  clear hs hd x0 x1 x2 x7 x8 x12 x14 x15 x26
  rintro a4 z v hs hd x0 x1 x2 x7 x8 x12 x14 x15 x26 ⟨hv,ht⟩
  obtain ⟨ia2,ic2,rfl⟩:=hv.isSl
  have h2:=h.still ht
  refine wp_endB (or_49 hs hd x0 x1 x2 x7 x8 x12 x14 x15 x26 (by omega) ?_)
  clear hs hd x0 x1 x2 x7 x8 x12 x14 x15 x26
  intro a5 hs hd x0 x1 x2 x7 x8 x12 x14 x15 x26
  refine ⟨⟨i+1,_,by omega,⟨hs,hd,x0,x1,x2,x7,x8,x12,x14,x15⟩,x26,⟨h2.t2,by rw [delAll_take hlt]; exact hv.lower hsz,h2.ksr,h2.box,h2.rlow⟩⟩,?_⟩
  rw [x26]; simp only [intOf]; omega
 ·have e:i=ds.length:=by omega
  subst e
  refine wp_seq (or_48out f.hs f.hd f.x0 f.x1 f.x2 f.x7 f.x8 f.x12 f.x14 f.x15 x26 (by omega) ?_)
  intro a3 hs hd x0 x1 x2 x7 x8 x12 x14 x15
  rw [List.take_of_length_le (Nat.le_refl _)] at h x7
  refine hK a3 y _ ⟨hs,hd,x0,x1,x2,x7,x8,x12,x14,x15⟩ h
end
end Go.Proofs.YtcinlaacgbfojaaGreatDoor

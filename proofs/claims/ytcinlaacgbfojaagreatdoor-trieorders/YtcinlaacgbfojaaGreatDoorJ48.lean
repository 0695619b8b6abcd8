/- TrieOrders answers true at every input: two orders of the same Puts of unlike keys, and the same Drops behind them, come to the same pairs and as many nodes. Conditions: the table of bits starts as the program's text lays it (the card ties it). -/
import Derived.Test.YtcinlaacgbfojaaGreatDoorRows
import Derived.Test.YtcinlaacgbfojaaGreatDoorTie
import Derived.Test.YtcinlaacgbfojaaGreatDoorCards
import Derived.Test.YtcinlaacgbfojaaGreatDoorJ38
import Derived.Test.YtcinlaacgbfojaaGreatDoorJ47
import Derived.ProofKit
import Derived.LaidMore
import Derived.OpenShut
import Derived.Stop.Joined
import Derived.SizedLaws
import Derived.Lib.LaidTab
import Derived.SevenTiedAt
import Derived.Deep.Slices
namespace Go.Proofs.YtcinlaacgbfojaaGreatDoor
open Go.ChangeShapes Go.WideShapes Go.ChangeAt Go.WideMaps Go.WideElems Go.RowKit Go.Deep
theorem Tryz.own:ownKnob Tryz.prog.godebug=none:=by kernel_rfl
theorem gBit:Tryz.prog.globalNamed "skein/word.bitAt" = some 0:=by kernel_rfl
theorem tBit:(Tryz.prog.globals[0]?).map (·.type)=some 202:=by kernel_rfl
theorem cellsIntR:Tryz.prog.cellsOf 3=1:=by kernel_rfl
theorem cellsPairR:Tryz.prog.cellsOf 28=2:=by kernel_rfl
theorem cellsBit:Tryz.prog.cellsOf 202=32:=by kernel_rfl
theorem laidOutR:laidOutB Tryz.prog=true:=by kernel_rfl
def laidOne:List (String × DataW Unit):=[("skein/word.bitAt",Rows.laid_skein_word_bitAt)]
def zsB:List Int:=(List.range 32).map p2
theorem zs_at (i:Nat) (h:i < 32):zsB[i]?=some (p2 i):=by
 simp [zsB,h]
theorem laid_zs:laidOne=[("skein/word.bitAt",Lib.tabData .i64 zsB)]:=by kernel_rfl
theorem tab_of_laid {W:World} (h:laidMetH Tryz.prog laidOne W):Tab W:=by
 rw [MakeChecks.laidMetH_plain _ _ _ (by kernel_rfl)] at h
 rw [laid_zs] at h
 have ht:=Lib.tabIs_of_head gBit tBit Tryz.underlying202 Tryz.underlying3 cellsIntR cellsBit h
 intro i hi
 have hc:=World.var?_cell gBit ht i
 rw [hc]
 simp [zs_at i hi]
theorem door_met (os:Os) (args:Array Value):laidMetH Tryz.prog laidOne ((World.doorLaid Tryz.prog 1103 os).forCall (fun _ _=>0) ⟨#[],args,[]⟩).memory :=
 laidMetH_of_parts3 (fuel:=8) (laidMet_of_run' 8 (by kernel_rfl) (by kernel_rfl)) (by kernel_rfl) (by kernel_rfl)
theorem Tab.pos {w:World} (hT:Tab w):0 < w.heap.size:=by
 have h:=hT 0 (by omega)
 apply Classical.byContradiction
 intro hn
 rw [World.cell?] at h
 have:w.heap[0]?=none:=Array.getElem?_eq_none (by omega)
 simp [this] at h
set_option maxRecDepth 100000 in
set_option maxHeartbeats 1600000 in
theorem or_long (W:World) (hTab:Tab W) (la da:Option Addr) (ll lc dl dc:Nat) (by_:Int) (hL:100 < ll∨100 < dl) :
  Calls Tryz.prog 3 #[.slice la ll lc,.slice da dl dc,.int .i64 by_] W fun e w'=>e=.returned (.bool true)∧Turned [] W w':=by
 have HK:Hid (Calls Tryz.prog 4 #[] W fun e w'=>e=.returned (.bool true)∧Turned [] W w'):=cKnown hTab hTab.pos
 rcases (by omega:(100:Int) < (ll:Int)∨(¬ (100:Int) < (ll:Int)∧(100:Int) < (dl:Int))) with h | ⟨h1,h⟩
 all_goals
  clear hL hTab
  go_enter Tryz.func3,Tryz.ntmps3
  go_wp2_with (go_at_call 4; refine HK.out.mono ?_; rintro e w1 ⟨rfl,ht1⟩; have HT1:Hid _:=ht1; clear ht1)
  go_ret
  exact ⟨rfl,HT1.out⟩
set_option maxRecDepth 100000 in
set_option maxHeartbeats 3200000 in
theorem or_good (W:World) (hTab:Tab W) (la da:Option Addr) (ll lc dc:Nat) (ds:List Int) (by_:Int) (hL:ll≤100) (hds:ds.length≤100) (hS:PairsAt W la ll) (hD:DropsAt W da ds) :
  Calls Tryz.prog 3 #[.slice la ll lc,.slice da ds.length dc,.int .i64 by_] W fun e w'=>e=.returned (.bool true)∧Turned [] W w':=by
 have HK:Hid (Calls Tryz.prog 4 #[] W fun e w'=>e=.returned (.bool true)∧Turned [] W w'):=cKnown hTab hTab.pos
 have d1:¬ (100:Int) < (ll:Int):=by omega
 have d2:¬ (100:Int) < (ds.length:Int):=by omega
 have HH:Hid (Tab W∧ll≤100∧ds.length≤100∧PairsAt W la ll∧DropsAt W da ds):=⟨hTab,hL,hds,hS,hD⟩
 clear hTab hL hds hS hD
 go_enter Tryz.func3,Tryz.ntmps3
 refine wp_seq_k fun K0 hK0=>?_
 have H0:Hid _:=hK0
 clear hK0
 go_wp2
 refine H0.out _ _ ?_
 clear H0 K0
 refine wp_seq_k fun K0 hK0=>?_
 have H0:Hid _:=hK0
 clear hK0
 go_wp2_with (go_at_call 4; refine HK.out.mono ?_; rintro e w1 ⟨rfl,ht1⟩; have HT1:Hid _:=ht1; clear ht1)
 refine H0.out _ _ ?_
 clear H0 K0 HK
 refine wp_seq_k fun K0 hK0=>?_
 have H0:Hid _:=hK0
 clear hK0
 go_wp2
 refine H0.out _ _ ?_
 clear H0 K0
 refine wp_seq_k fun K0 hK0=>?_
 have H0:Hid _:=hK0
 clear hK0
 go_wp2
 refine H0.out _ _ ?_
 clear H0 K0
 refine (show (Code.seq (atc Tryz.f3.body [1,1,1,1,0]) (atc Tryz.f3.body [1,1,1,1,1])).wp _ _ _ _ from ?_)
 obtain ⟨hT,hL,hds,hS,hD⟩:=HH.out
 refine wp_seq (or_loop1 (la:=la) (ll:=ll) (lc:=lc) (da:=da) (dl:=ds.length) (dc:=dc) (by_:=by_) ⟨rfl,rfl,rfl,rfl,rfl,rfl,rfl⟩ hL hS HT1.out ?_)
 intro a2 y isv ksv keys f h
 refine or_rest hT.pos hT hL hds hD f h ?_
 intro a3 y3 hs hd x6 ht
 exact bodyPost_ret (results_tmp rfl _ _ _) hd ⟨congrArg Ending.returned x6,ht⟩
theorem or_walk (W:World) (hTab:Tab W) (la da:Option Addr) (ll lc dc:Nat) (ds:List Int) (by_:Int) (hS:PairsAt W la ll) (hD:DropsAt W da ds) :
  Calls Tryz.prog 3 #[.slice la ll lc,.slice da ds.length dc,.int .i64 by_] W fun e w'=>e=.returned (.bool true)∧Turned [] W w':=by
 by_cases hL:100 < ll∨100 < ds.length
 ·exact or_long W hTab la da ll lc ds.length dc by_ hL
 ·exact or_good W hTab la da ll lc dc ds by_ (by omega) (by omega) hS hD
section
variable {H:Type} {enc:TypeId × Value→H} {W:World} {base:Nat} {v:Value} {d:DataW H} {p:List MemPlace}
set_option maxRecDepth 100000 in
theorem view_drops (hok:Value.okWide Tryz.prog W .any base 23 v) (h:DataW.Trod enc Tryz.prog W 0 (fun _=>true) true 23 v d p):∃ da dc ds,v=.slice da (ds:List Int).length dc∧DropsAt W da ds:=by
 obtain ⟨a0,len0,cap0,rfl⟩:=okWide_slice Tryz.underlying23 hok
 obtain ⟨fuel,hf⟩:=h
 rcases open_ints Tryz.underlying23 Tryz.underlying3 cellsIntR hf with ⟨hcs,hx⟩ | ⟨a,len,cap,zs,hcs,_,hl,hm,hz,hx,hcell,hwz⟩
 ·simp [Value.cells] at hcs
  obtain ⟨rfl,rfl,rfl⟩:=hcs
  exact ⟨none,0,[],rfl,⟨fun h=>absurd rfl h⟩⟩
 ·simp [Value.cells] at hcs
  obtain ⟨rfl,rfl,rfl⟩:=hcs
  simp only [if_true] at hz
  have hlen:(zs.take len0).length=len0:=by rw [List.length_take,Nat.min_eq_left (by omega)]
  refine ⟨some a,cap0,zs.take len0,by rw [hlen],⟨fun hne=>?_⟩⟩
  have hpos:0 < len0:=by
   rcases Nat.eq_zero_or_pos len0 with e | e
   ·subst e; simp at hne
   ·exact e
  obtain ⟨b,off,spot⟩:=a
  have hspot:spot=none:=by simpa [Addr.add] using World.cell?_spot (hcell 0 (by omega))
  subst hspot
  refine ⟨b,off,rfl,fun j hj=>?_⟩
  have hj':j < zs.length:=by rw [List.length_take] at hj; omega
  have:=hcell j hj'
  rw [show (⟨b,off,none⟩:Addr).add j=⟨b,off+j,none⟩ by unfold Addr.add; split <;> simp_all] at this
  rw [this,List.getElem_take]
  simp [hj']
set_option maxRecDepth 100000 in
theorem view_pairs (hok:Value.okWide Tryz.prog W .any base 22 v) (h:DataW.Trod enc Tryz.prog W 0 (fun _=>true) true 22 v d p):∃ la ll lc,v=.slice la ll lc∧PairsAt W la ll:=by
 obtain ⟨a0,len,cap,rfl⟩:=okWide_slice Tryz.underlying22 hok
 obtain ⟨fuel,hf⟩:=h
 rcases open_slice Tryz.underlying22 hf with ⟨hcs,_⟩ | ⟨a,len',cap',m,n,D,Pl,hcs,_,hl,_,hm,_,hel⟩
 ·simp [Value.cells] at hcs
  obtain ⟨rfl,rfl,rfl⟩:=hcs
  exact ⟨none,0,0,rfl,⟨fun j hj=>absurd hj (Nat.not_lt_zero _)⟩⟩
 ·simp [Value.cells] at hcs
  obtain ⟨rfl,rfl,rfl⟩:=hcs
  simp only [if_true] at hm
  refine ⟨some a,len,cap,rfl,⟨fun i hi=>?_⟩⟩
  obtain ⟨cs0,h10,-⟩:=hel 0 (by omega)
  rw [cellsPairR] at h10
  obtain ⟨-,hl0,hc0⟩:=World.cells?_some h10
  have t00:=hc0 0 (by omega)
  rw [add_add] at t00
  obtain ⟨cs',h1,h2⟩:=hel i (by omega)
  rw [cellsPairR] at h1
  obtain ⟨_,hlen,hcell⟩:=World.cells?_some h1
  obtain ⟨xs,k,_,_,_,hxl,hfs⟩:=DataW.trod_struct Tryz.underlying28 h2
  match xs,hxl,cs',hlen with
  | [y0,y1],_,[v0,v1],_ =>
   have g0:=hfs 0 _ rfl
   have g1:=hfs 1 _ rfl
   simp [cellsIntR] at g0 g1
   obtain ⟨z0,e0,_⟩:=DataW.trod_int Tryz.underlying3 g0
   obtain ⟨z1,e1,_⟩:=DataW.trod_int Tryz.underlying3 g1
   simp at e0 e1
   subst e0 e1
   obtain ⟨b,off,spot⟩:=a
   have q:∀ j,j < 2→W.cell? ((⟨b,off,spot⟩:Addr).add (i * 2+j))=[Value.int .i64 z0,.int .i64 z1][j]?:=fun j hj=>by
    have t0:=hcell j (by simpa using hj)
    rw [add_add] at t0
    exact t0.trans (by simp)
   have hspot:spot=none:=by simpa [Addr.add] using World.cell?_spot (t00.trans (List.getElem?_eq_getElem (show 0 < cs0.length by omega)))
   subst hspot
   have q':∀ j,j < 2→W.cell? ⟨b,off+i * 2+j,none⟩=[Value.int .i64 z0,.int .i64 z1][j]?:=fun j hj=>by
    have:=q j hj
    simpa [add_plain,Nat.add_assoc] using this
   exact ⟨b,off,z0,z1,rfl,q' 0 (by omega),q' 1 (by omega)⟩
end
set_option maxHeartbeats 1600000 in
set_option maxRecDepth 100000 in
theorem trieOrders_lifted (os:Os) (started:os.Started) (H:Type) (enc:TypeId × Value→H) :
  ReturnsInHanded {} Tryz.checked os 3 .any (fun w args=>(Rows.trieOrdersSpec.pre enc Tryz.prog Tryz.f3 [] false w args∧laidMetH Tryz.prog laidOne w)∧sizedMet enc Tryz.prog Tryz.f3 (OpenSpec.ofChange Rows.trieOrdersSpec) false w args)
   (Rows.trieOrdersSpec.post enc Tryz.prog Tryz.f3 false true false false):=by
 refine returnsInHanded_of_change_and (C:=Tryz.checked) (X:=fun w _=>laidMetH Tryz.prog laidOne w) (fun _ _ _ hh h=>h.of_heap hh) Tryz.own started (by kernel_rfl) Tryz.func3
  (ChangeSpec.witness_shaped (enc:=enc) (C:=Tryz.checked) (os:=os) (X:=fun w _=>laidMetH Tryz.prog laidOne w) false (World.doorLaid Tryz.prog 1103 os) #[.slice none 0 0,.slice none 0 0,.int .i64 0] 8 rfl (World.shaped_of_RefB (by kernel_rfl) (by kernel_rfl)) (by kernel_rfl) (by kernel_rfl) (by kernel_rfl) (door_met os _)) ?_
 intro W base args ds gs before hval0 hW _ _ hL _
 have hval:∀ (j:Nat) t v,Tryz.f3.params[j]?=some t→args[j]?=some v→Value.okWide Tryz.prog W .any base t v:=hval0
 have hW':=hW
 obtain ⟨p,q,hA0,hV,rfl,hfz,hnd⟩:=hW
 have hA:DataW.TrodAll enc Tryz.prog W 0 (fun _=>true) true Tryz.f3.params.toList args.toList ds p:=hA0
 rw [Tryz.params3] at hA hval
 obtain ⟨v0,v1,v2,d0,d1,d2,p0,p1,p2,rfl,rfl,rfl,h0,h1,h2⟩:=trodAll_three hA
 obtain ⟨rfl,rfl⟩:=trodVars_none hV
 clear hA0 hval0 hA
 simp only [List.append_nil] at hW' hfz
 have hlt0:∀ x,x∈p0→x.block < W.heap.size:=fun x hx=>hW'.lt x (by simp [hx])
 have hlt1:∀ x,x∈p1→x.block < W.heap.size:=fun x hx=>hW'.lt x (by simp [hx])
 obtain ⟨x2,rfl,rfl,rfl,wx2⟩:=open_int Tryz.underlying3 (hval 2 3 v2 rfl rfl) h2
 obtain ⟨la,ll,lc,rfl,hS⟩:=view_pairs (hval 0 22 v0 rfl rfl) h0
 obtain ⟨da,dc,dl,rfl,hD⟩:=view_drops (hval 1 23 v1 rfl rfl) h1
 refine (or_walk W (tab_of_laid hL) la da ll lc dc dl x2 hS hD).mono fun e W' ⟨he,ht⟩=>?_
 have hb:Below W.heap.size W W':=ht.below (Below.refl _ _) (by simp) (Nat.le_refl _)
 subst he
 exact ⟨_,rfl,_,_,_,[],_,[],hW',trodAll_mk1 (shut_bool Tryz.underlying4 _),trodAll_mk3 (Below.trod laidOutR (by kernel_rfl) (of_decide_eq_true (by kernel_rfl)) h0 hb hlt0) (Below.trod laidOutR (by kernel_rfl) (of_decide_eq_true (by kernel_rfl)) h1 hb hlt1) (shut_int Tryz.underlying3 wx2),rfl,hb.frame _,fun h=>by cases h⟩
theorem trieOrders_holds:Rows.TrieOrdersSaid :=
 OpenClaim.holds_of_wide 3 Tryz.f3 rfl rfl rfl rfl rfl rfl rfl ⟨rfl,rfl,rfl,rfl,rfl⟩ rfl rfl rfl rfl rfl (by kernel_rfl) Tryz.func3 (by kernel_rfl)
  (of_decide_eq_true (by kernel_rfl)) (by unfold Func.isWrapper; rw [if_neg (of_decide_eq_false (by kernel_rfl))]; exact ⟨rfl,rfl⟩)
  (fun os started H enc _=>trieOrders_lifted os started H enc)
theorem trieOrders_card:Rows.TrieOrdersCardSaid :=
 Claim7.holds_tied_plain_at .later [] [.called] true (true,"493cc13ac5d58d7bca2e3eee2857b96b63ac58e243f5132e875163c894f8a16d") true
  trieOrders_holds (fun _ h=>by cases h) (by kernel_rfl) (fun _ h=>by cases h) trieOrders_row_tie rfl ⟨rfl,rfl⟩ (by kernel_rfl) rfl
  (fun f fn hf hfn=>by
   obtain rfl:f=3:=Option.some.inj ((show Tryz.prog.funcNamed "skein/skeinlaw12.TrieOrders" = some 3 by kernel_rfl).symm.trans hf) |>.symm
   obtain rfl:fn=Tryz.f3:=(Option.some.inj (Tryz.func3.symm.trans hfn)).symm
   exact ⟨by kernel_rfl,fun j t ht=>by
    rw [Tryz.params3] at ht
    have hm:t∈[22,23,3]:=by simpa using Array.mem_of_getElem? ht
    have hall:([22,23,3].all fun u=>!Tryz.prog.wantsStandIn u)=true:=by kernel_rfl
    exact (show Tryz.prog.wantsStandIn t=false by simpa using List.all_eq_true.1 hall t hm)⟩)
  (by kernel_rfl)
#print axioms trieOrders_card
end Go.Proofs.YtcinlaacgbfojaaGreatDoor

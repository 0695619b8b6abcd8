/- TrieDiffs answers true at every input: a tree of changes, each of any map by then; Diff of any two of them gives what they differ in, by keys, and that makes the one the other. Conditions: the table of bits starts as the program's text lays it (the card ties it). -/
import Derived.Test.YtloljphbdfjgdaaGreatDoorK42
import Derived.Test.YtloljphbdfjgdaaGreatDoorK49
import Derived.Carry
namespace Go.Proofs.YtloljphbdfjgdaaGreatDoor
open Go.ChangeShapes Go.WideShapes Go.ChangeAt Go.WideMaps Go.WideElems Go.RowKit Go.Deep
set_option maxRecDepth 100000 in
set_option maxHeartbeats 1600000 in
theorem df_long (W:World) (hTab:Tab W) (av bv:Int) (la:Option Addr) (ll lc:Nat) (hL:120 < ll) :
  Calls Tryz.prog 4 #[.slice la ll lc,.int .i64 av,.int .i64 bv] W fun e w'=>e=.returned (.bool true)∧Turned [] W w':=by
 have HK:Hid (Calls Tryz.prog 5 #[] W fun e w'=>e=.returned (.bool true)∧Turned [] W w'):=cKnown hTab hTab.pos
 have h:(120:Int) < (ll:Int):=by omega
 clear hL hTab
 go_enter Tryz.func4,Tryz.ntmps4
 go_wp2_with (go_at_call 5; refine HK.out.mono ?_; rintro e w1 ⟨rfl,ht1⟩; have HT1:Hid _:=ht1; clear ht1)
 go_ret
 exact ⟨rfl,HT1.out⟩
set_option maxRecDepth 100000 in
set_option maxHeartbeats 3200000 in
theorem df_good (W:World) (hTab:Tab W) (av bv:Int) (la:Option Addr) (ll lc:Nat) (hL:ll≤120) (hS:ChgsAt W la ll) :
  Calls Tryz.prog 4 #[.slice la ll lc,.int .i64 av,.int .i64 bv] W fun e w'=>e=.returned (.bool true)∧Turned [] W w':=by
 have HK:Hid (Calls Tryz.prog 5 #[] W fun e w'=>e=.returned (.bool true)∧Turned [] W w'):=cKnown hTab hTab.pos
 have d1:¬ (120:Int) < (ll:Int):=by omega
 have HH:Hid (Tab W∧ll≤120∧ChgsAt W la ll):=⟨hTab,hL,hS⟩
 clear hTab hL hS
 go_enter Tryz.func4,Tryz.ntmps4
 refine wp_seq_k fun K0 hK0=>?_
 have H0:Hid _:=hK0
 clear hK0
 go_wp2
 refine H0.out _ _ ?_
 clear H0 K0
 refine wp_seq_k fun K0 hK0=>?_
 have H0:Hid _:=hK0
 clear hK0
 go_wp2_with (go_at_call 5; refine HK.out.mono ?_; rintro e w1 ⟨rfl,ht1⟩; have HT1:Hid (Turned [] W w1):=ht1; clear ht1)
 refine H0.out _ _ ?_
 clear H0 K0
 clear HK
 refine wp_seq_k fun K0 hK0=>?_
 have H0:Hid _:=hK0
 clear hK0
 go_wp2
 refine H0.out _ _ ?_
 clear H0 K0
 have HP:=poolLawsZ.new w1 4096 (by decide) (by decide) (Nat.lt_of_lt_of_le HH.out.1.pos HT1.out.size)
 refine wp_seq_k fun K0 hK0=>?_
 have H0:Hid _:=hK0
 clear hK0
 go_wp2_with (go_at_call 6; refine HP.mono ?_; rintro e w2 ⟨p,Fp,rfl,t2,a2,f2⟩; have H2:Hid (Turned [] w1 w2∧AtZ w2 p Fp (PSt.new 4096)∧∀ z,z∈Fp→w1.heap.size≤z):=⟨t2,a2,f2⟩; clear t2 a2 f2)
 refine H0.out _ _ ?_
 clear H0 K0
 clear HP
 refine wp_seq_k fun K0 hK0=>?_
 have H0:Hid _:=hK0
 clear hK0
 go_wp2_with (go_at_call 7; refine (cNum _ _).mono ?_; rintro e w' ⟨rfl,hw⟩; obtain rfl:=hw.symm)
 refine H0.out _ _ ?_
 clear H0 K0
 have HN:=trieLaws.new w2 p (fun i hi=>(HT1.out.trans H2.out.1).cell (HH.out.1 i hi) (by simp))
 refine wp_seq_k fun K0 hK0=>?_
 have H0:Hid _:=hK0
 clear hK0
 go_wp2_with (go_at_call 8; refine HN.mono ?_; rintro e w3 ⟨tb,rfl,t3,b3,l3⟩; have H3:Hid (Turned [] w2 w3∧TrieB w3 tb p∧w2.heap.size≤tb):=⟨t3,b3,l3⟩; clear t3 b3 l3)
 refine H0.out _ _ ?_
 clear H0 K0
 clear HN
 refine wp_seq_k fun K0 hK0=>?_
 have H0:Hid _:=hK0
 clear hK0
 go_wp2
 refine H0.out _ _ ?_
 clear H0 K0
 obtain ⟨hT,hL,hS⟩:=HH.out
 obtain ⟨t2,a2,f2⟩:=H2.out
 obtain ⟨t3,b3,l3⟩:=H3.out
 have t1:=HT1.out
 have tA:Turned [] w3 (w3.alloc (.cells #[.int .i64 0,.slice none 0 0] 33 (0,0))):=(Turned.refl [] _).alloc _
 have tW3:Turned [] W w3:=(t1.trans t2).trans t3
 have ntb:tb∉Fp:=fun hm=>by have:=poolLawsZ.lt a2 _ hm; omega
 have hbx:=blk_new w3 (.cells #[.int .i64 0,.slice none 0 0] 33 (0,0))
 have h0:ML2 W (w3.alloc (.cells #[.int .i64 0,.slice none 0 0] 33 (0,0))) p tb 0 (.slice (some ⟨w3.heap.size,0,none⟩) 1 1) [⟨none,.slice none 0 0⟩]:=by
  refine ⟨⟨Fp,PSt.new 4096,List.range' 1 4096,0,⟨poolLawsZ.keep (poolLawsZ.keep a2 t3 (by simp)) tA (by simp),b3.still tA,ntb,PV.new (by decide) (by decide),Nat.le_refl _,fun q hq=>?_,fun q hq=>?_,fun q hq=>?_,rfl,tW3.trans tA,fun z hz=>Nat.le_trans t1.size (f2 z hz)⟩⟩,⟨⟨rfl,.inr ⟨w3.heap.size,1,_,rfl,tW3.size,hbx,Nat.le_refl _,by unfold maxLen; decide,rfl,rfl⟩⟩,fun q hq=>?_⟩,by simp,by simp⟩
  all_goals
   simp only [List.mem_singleton] at hq
   subst hq
  ·exact Holds.none _
  ·exact PR.nil _ _
  ·exact Nat.le_refl _
  ·rfl
 refine (show (atc Tryz.f4.body [1,1,1,1,1,1,1]).wp _ _ _ _ from ?_)
 refine df_rest hT.pos hL hS ⟨rfl,rfl,rfl,rfl,rfl,rfl,rfl,rfl⟩ h0 ?_
 intro a' y hs hd x6 ht
 exact bodyPost_ret (results_tmp rfl _ _ _) hd ⟨congrArg Ending.returned x6,ht⟩
theorem df_walk (W:World) (hTab:Tab W) (av bv:Int) (la:Option Addr) (ll lc:Nat) (hS:ChgsAt W la ll) :
  Calls Tryz.prog 4 #[.slice la ll lc,.int .i64 av,.int .i64 bv] W fun e w'=>e=.returned (.bool true)∧Turned [] W w':=by
 by_cases hL:120 < ll
 ·exact df_long W hTab av bv la ll lc hL
 ·exact df_good W hTab av bv la ll lc (by omega) hS
set_option maxHeartbeats 1600000 in
set_option maxRecDepth 100000 in
theorem trieDiffs_lifted (os:Os) (started:os.Started) (H:Type) (enc:TypeId × Value→H) :
  ReturnsInHanded {} Tryz.checked os 4 .any (fun w args=>(Rows.trieDiffsSpec.pre enc Tryz.prog Tryz.f4 [] false w args∧laidMetH Tryz.prog laidOne w)∧sizedMet enc Tryz.prog Tryz.f4 (OpenSpec.ofChange Rows.trieDiffsSpec) false w args)
   (Rows.trieDiffsSpec.post enc Tryz.prog Tryz.f4 false true false false):=by
 refine returnsInHanded_of_change_and (C:=Tryz.checked) (X:=fun w _=>laidMetH Tryz.prog laidOne w) (fun _ _ _ hh h=>h.of_heap hh) Tryz.own started (by kernel_rfl) Tryz.func4
  (ChangeSpec.witness_shaped (enc:=enc) (C:=Tryz.checked) (os:=os) (X:=fun w _=>laidMetH Tryz.prog laidOne w) false (World.doorLaid Tryz.prog 1103 os) #[.slice none 0 0,.int .i64 0,.int .i64 0] 8 rfl (World.shaped_of_RefB (by kernel_rfl) (by kernel_rfl)) (by kernel_rfl) (by kernel_rfl) (by kernel_rfl) (door_met os _)) ?_
 intro W base args ds gs before hval0 hW _ _ hL _
 have hval:∀ (j:Nat) t v,Tryz.f4.params[j]?=some t→args[j]?=some v→Value.okWide Tryz.prog W .any base t v:=hval0
 have hW':=hW
 obtain ⟨p,q,hA0,hV,rfl,hfz,hnd⟩:=hW
 have hA:DataW.TrodAll enc Tryz.prog W 0 (fun _=>true) true Tryz.f4.params.toList args.toList ds p:=hA0
 rw [Tryz.params4] at hA hval
 obtain ⟨v0,v1,v2,d0,d1,d2,p0,p1,p2,rfl,rfl,rfl,h0,h1,h2⟩:=trodAll_three hA
 obtain ⟨rfl,rfl⟩:=trodVars_none hV
 clear hA0 hval0 hA
 simp only [List.append_nil] at hW' hfz
 have hlt0:∀ x,x∈p0→x.block < W.heap.size:=fun x hx=>hW'.lt x (by simp [hx])
 obtain ⟨x1,rfl,rfl,rfl,wx1⟩:=open_int Tryz.underlying3 (hval 1 3 v1 rfl rfl) h1
 obtain ⟨x2,rfl,rfl,rfl,wx2⟩:=open_int Tryz.underlying3 (hval 2 3 v2 rfl rfl) h2
 obtain ⟨la,ll,lc,rfl,hS⟩:=view_chgs (hval 0 22 v0 rfl rfl) h0
 refine (df_walk W (tab_of_laid hL) x1 x2 la ll lc hS).mono fun e W' ⟨he,ht⟩=>?_
 have hb:Below W.heap.size W W':=ht.below (Below.refl _ _) (by simp) (Nat.le_refl _)
 subst he
 exact ⟨_,rfl,_,_,_,[],_,[],hW',trodAll_mk1 (shut_bool Tryz.underlying4 _),trodAll_mk3 (Below.trod laidOutR (by kernel_rfl) (of_decide_eq_true (by kernel_rfl)) h0 hb hlt0) (shut_int Tryz.underlying3 wx1) (shut_int Tryz.underlying3 wx2),rfl,hb.frame _,fun h=>by cases h⟩
theorem trieDiffs_holds:Rows.TrieDiffsSaid :=
 OpenClaim.holds_of_wide 4 Tryz.f4 rfl rfl rfl rfl rfl rfl rfl ⟨rfl,rfl,rfl,rfl,rfl⟩ rfl rfl rfl rfl rfl (by kernel_rfl) Tryz.func4 (by kernel_rfl)
  (of_decide_eq_true (by kernel_rfl)) (by unfold Func.isWrapper; rw [if_neg (of_decide_eq_false (by kernel_rfl))]; exact ⟨rfl,rfl⟩)
  (fun os started H enc _=>trieDiffs_lifted os started H enc)
theorem trieDiffs_card:Rows.TrieDiffsCardSaid :=
 Claim7.holds_tied_plain_at .later [] [.called] true (true,"6086b420a3f9e9a511acb1a8d243cbd7d3db8878fee71ef949457a567e25051b") true
  trieDiffs_holds (fun _ h=>by cases h) (by kernel_rfl) (fun _ h=>by cases h) trieDiffs_row_tie rfl ⟨rfl,rfl⟩ (by kernel_rfl) rfl
  (fun f fn hf hfn=>by
   obtain rfl:f=4:=Option.some.inj ((show Tryz.prog.funcNamed "skein/skeinlaw12.TrieDiffs" = some 4 by kernel_rfl).symm.trans hf) |>.symm
   obtain rfl:fn=Tryz.f4:=(Option.some.inj (Tryz.func4.symm.trans hfn)).symm
   exact ⟨by kernel_rfl,fun j t ht=>by
    rw [Tryz.params4] at ht
    have hm:t∈[22,3,3]:=by simpa using Array.mem_of_getElem? ht
    have hall:([22,3,3].all fun u=>!Tryz.prog.wantsStandIn u)=true:=by kernel_rfl
    exact (show Tryz.prog.wantsStandIn t=false by simpa using List.all_eq_true.1 hall t hm)⟩)
  (by kernel_rfl)
#print axioms trieDiffs_card
end Go.Proofs.YtloljphbdfjgdaaGreatDoor

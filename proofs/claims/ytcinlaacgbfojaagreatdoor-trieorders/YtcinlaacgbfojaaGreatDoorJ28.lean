/- A change of a map in the midst of its making: its memory. -/
import Derived.Test.YtcinlaacgbfojaaGreatDoorJ27
import Derived.Test.YtcinlaacgbfojaaGreatDoorJ03
namespace Go.Proofs.YtcinlaacgbfojaaGreatDoor
open Go.RowKit
abbrev chObj (tb:Nat) (root old:Int) (had:Bool) (gv mv:Value) (err:Int):Obj:=.cells #[.pointer (some ⟨tb,0,none⟩),.pointer none,.int .i64 root,.int .i64 old,.bool had,gv,mv,.int .i64 err] 86 (0,0)
abbrev lsts (gv mv:Value):List Nat:=gv.ownBlock.toList ++ mv.ownBlock.toList
structure CG (B:Nat) (w:World) (cb tb p:Nat) (F:List Nat) (s:PSt) (root old:Int) (had:Bool) (gv mv:Value) (gone made:List Int) (err:Int):Prop where
 obj:w.heap[cb]?=some (chObj tb root old had gv mv err)
 at_:PoolAt w p F s
 tr:w.heap[tb]?=some (.cells #[.pointer (some ⟨p,0,none⟩)] 81 (0,0))
 gr:IR B w gv gone
 mr:IR B w mv made
 ap:∀ g,gv.ownBlock=some g→mv.ownBlock≠some g
section
variable {B:Nat} {w w':World} {cb tb p:Nat} {F:List Nat} {s:PSt} {root old:Int} {had:Bool} {gv mv:Value} {gone made:List Int} {err:Int}
theorem IR.type {v:Value} {l:List Int} (h:IR B w v l) {g:Nat} (hg:v.ownBlock=some g):∃ cs,w.heap[g]?=some (.cells cs 3 (0,0)):=by
 rcases h.own.2 with ⟨h0,_⟩ | ⟨g',c,cs,hv,_,hh,_⟩
 ·rw [h0] at hg; cases hg
 ·rw [hv] at hg; cases hg; exact ⟨cs,hh⟩
theorem CG.ncb (h:CG B w cb tb p F s root old had gv mv gone made err):cb∉F:=poolAt_other h.at_ h.obj (by decide)
theorem CG.ntb (h:CG B w cb tb p F s root old had gv mv gone made err):tb∉F:=poolAt_other h.at_ h.tr (by decide)
theorem CG.ntc (h:CG B w cb tb p F s root old had gv mv gone made err):tb≠cb:=other_type h.tr h.obj (by decide)
theorem CG.ngF (h:CG B w cb tb p F s root old had gv mv gone made err) {g:Nat} (hg:gv.ownBlock=some g):g∉F:=by
 obtain ⟨cs,hc⟩:=h.gr.type hg
 exact poolAt_other h.at_ hc (by decide)
theorem CG.nmF (h:CG B w cb tb p F s root old had gv mv gone made err) {g:Nat} (hg:mv.ownBlock=some g):g∉F:=by
 obtain ⟨cs,hc⟩:=h.mr.type hg
 exact poolAt_other h.at_ hc (by decide)
theorem CG.ngc (h:CG B w cb tb p F s root old had gv mv gone made err) {g:Nat} (hg:gv.ownBlock=some g):g≠cb:=by
 obtain ⟨cs,hc⟩:=h.gr.type hg
 exact other_type hc h.obj (by decide)
theorem CG.nmc (h:CG B w cb tb p F s root old had gv mv gone made err) {g:Nat} (hg:mv.ownBlock=some g):g≠cb:=by
 obtain ⟨cs,hc⟩:=h.mr.type hg
 exact other_type hc h.obj (by decide)
theorem CG.ngt (h:CG B w cb tb p F s root old had gv mv gone made err) {g:Nat} (hg:gv.ownBlock=some g):g≠tb:=by
 obtain ⟨cs,hc⟩:=h.gr.type hg
 exact other_type hc h.tr (by decide)
theorem CG.nmt (h:CG B w cb tb p F s root old had gv mv gone made err) {g:Nat} (hg:mv.ownBlock=some g):g≠tb:=by
 obtain ⟨cs,hc⟩:=h.mr.type hg
 exact other_type hc h.tr (by decide)
theorem CG.keep (h:CG B w cb tb p F s root old had gv mv gone made err) {L:List Nat} (ht:Turned L w w') (h1:cb∉L) (h2:tb∉L) (h3:∀ x,x∈L→x∉F) (h4:∀ g,gv.ownBlock=some g→g∉L) (h5:∀ g,mv.ownBlock=some g→g∉L):CG B w' cb tb p F s root old had gv mv gone made err :=
 ⟨ht.heap h.obj h1,poolLaws.keep h.at_ ht h3,ht.heap h.tr h2,h.gr.keep ht h4,h.mr.keep ht h5,h.ap⟩
theorem CG.still (h:CG B w cb tb p F s root old had gv mv gone made err) (ht:Turned [] w w'):CG B w' cb tb p F s root old had gv mv gone made err:=h.keep ht (by simp) (by simp) (by simp) (by simp) (by simp)
theorem CG.pool (h:CG B w cb tb p F s root old had gv mv gone made err) (ht:Turned F w w') {F':List Nat} {s':PSt} (hA:PoolAt w' p F' s'):CG B w' cb tb p F' s' root old had gv mv gone made err :=
 ⟨ht.heap h.obj h.ncb,hA,ht.heap h.tr h.ntb,h.gr.keep ht (fun _ hg=>h.ngF hg),h.mr.keep ht (fun _ hg=>h.nmF hg),h.ap⟩
theorem CG.cell (h:CG B w cb tb p F s root old had gv mv gone made err) {root' old':Int} {had':Bool} {err':Int} {k:Nat} {v:Value} (hk:(#[.pointer (some ⟨tb,0,none⟩),.pointer none,.int .i64 root,.int .i64 old,.bool had,gv,mv,.int .i64 err]:Array Value).setIfInBounds k v=#[.pointer (some ⟨tb,0,none⟩),.pointer none,.int .i64 root',.int .i64 old',.bool had',gv,mv,.int .i64 err']) :
  CG B (w.setCell ⟨cb,k,none⟩ v) cb tb p F s root' old' had' gv mv gone made err':=by
 have ht:Turned [cb] w (w.setCell ⟨cb,k,none⟩ v):=(Turned.refl _ _).set (.inl (by simp)) _ _
 refine ⟨?_,poolLaws.keep h.at_ ht (by simpa using h.ncb),ht.heap h.tr (by simpa using h.ntc),h.gr.keep ht (fun g hg=>by simpa using h.ngc hg),h.mr.keep ht (fun g hg=>by simpa using h.nmc hg),h.ap⟩
 have:=blk_set h.obj k v
 rw [hk] at this
 exact this
theorem CG.grew (h:CG B w cb tb p F s root old had gv mv gone made err) {mv':Value} {made':List Int} (ht:Turned mv.ownBlock.toList w w') (hr:IR B w' mv' made') (ho:mv'.ownBlock=mv.ownBlock∨mv'.ownBlock=some w.heap.size) :
  CG B (w'.setCell ⟨cb,6,none⟩ mv') cb tb p F s root old had gv mv' gone made' err∧w'.heap[cb]?=some (chObj tb root old had gv mv err):=by
 have hcb:w'.heap[cb]?=some (chObj tb root old had gv mv err):=ht.heap h.obj (fun hm=>h.nmc (Option.mem_toList.1 hm) rfl)
 have hlt:=lt_of_heap h.obj
 have t2:Turned [cb] w' (w'.setCell ⟨cb,6,none⟩ mv'):=(Turned.refl _ _).set (.inl (by simp)) _ _
 have hnew:∀ g,mv'.ownBlock=some g→g≠cb∧∀ k,gv.ownBlock=some k→k≠g:=fun g hg=>by
  rcases ho with e | e
  ·rw [e] at hg
   exact ⟨h.nmc hg,fun k hk e'=>by subst e'; exact h.ap k hk hg⟩
  ·rw [e] at hg
   cases hg
   exact ⟨by omega,fun k hk e'=>by have:=(h.gr.fresh hk).2; omega⟩
 refine ⟨⟨?_,poolLaws.keep (poolLaws.keep h.at_ ht (fun x hx=>h.nmF (Option.mem_toList.1 hx))) t2 (by simpa using h.ncb),t2.heap (ht.heap h.tr (fun hm=>h.nmt (Option.mem_toList.1 hm) rfl)) (by simpa using h.ntc),(h.gr.keep ht (fun g hg hm=>h.ap g hg (Option.mem_toList.1 hm))).keep t2 (fun g hg=>by simpa using h.ngc hg),hr.keep t2 (fun g hg=>by simpa using (hnew g hg).1),fun g hg e=>(hnew g e).2 g hg rfl⟩,hcb⟩
 exact blk_set hcb 6 mv'
theorem CG.went (h:CG B w cb tb p F s root old had gv mv gone made err) {gv':Value} {gone':List Int} (ht:Turned gv.ownBlock.toList w w') (hr:IR B w' gv' gone') (ho:gv'.ownBlock=gv.ownBlock∨gv'.ownBlock=some w.heap.size) :
  CG B (w'.setCell ⟨cb,5,none⟩ gv') cb tb p F s root old had gv' mv gone' made err∧w'.heap[cb]?=some (chObj tb root old had gv mv err):=by
 have hcb:w'.heap[cb]?=some (chObj tb root old had gv mv err):=ht.heap h.obj (fun hm=>h.ngc (Option.mem_toList.1 hm) rfl)
 have hlt:=lt_of_heap h.obj
 have t2:Turned [cb] w' (w'.setCell ⟨cb,5,none⟩ gv'):=(Turned.refl _ _).set (.inl (by simp)) _ _
 have hnew:∀ g,gv'.ownBlock=some g→g≠cb∧∀ k,mv.ownBlock=some k→k≠g:=fun g hg=>by
  rcases ho with e | e
  ·rw [e] at hg
   exact ⟨h.ngc hg,fun k hk e'=>by subst e'; exact h.ap k hg hk⟩
  ·rw [e] at hg
   cases hg
   exact ⟨by omega,fun k hk e'=>by have:=(h.mr.fresh hk).2; omega⟩
 refine ⟨⟨?_,poolLaws.keep (poolLaws.keep h.at_ ht (fun x hx=>h.ngF (Option.mem_toList.1 hx))) t2 (by simpa using h.ncb),t2.heap (ht.heap h.tr (fun hm=>h.ngt (Option.mem_toList.1 hm) rfl)) (by simpa using h.ntc),hr.keep t2 (fun g hg=>by simpa using (hnew g hg).1),(h.mr.keep ht (fun g hg hm=>h.ap g (Option.mem_toList.1 hm) hg)).keep t2 (fun g hg=>by simpa using h.nmc hg),fun g hg e=>(hnew g hg).2 g e rfl⟩,hcb⟩
 exact blk_set hcb 5 gv'
end
theorem infoIntT:(Tryz.prog.info? 3).map (fun i=>(i.zero,i.size,i.bytes))=some (some (.int .i64 0),1,8):=by kernel_rfl
theorem undIntsT:Tryz.prog.underlying 23=some (.slice 3):=by kernel_rfl
theorem run_apInt {w:World} {B:Nat} {v:Value} {l:List Int} {x:Int} {g c:Nat} (hr:IR B w v l) (hg:w.cell? ⟨g,0,none⟩=some (.int .i64 x)) (hm:l.length≤100000) (hB:B≤w.heap.size) :
  ∃ v' w',(Builtin.append_ #[23,23] 23 #[v,.slice (some ⟨g,0,none⟩) 1 c]).run Tryz.prog w=.ok v' w'∧IR B w' v' (l ++ [x])∧Turned v.ownBlock.toList w w'∧(v'.ownBlock=v.ownBlock∨v'.ownBlock=some w.heap.size):=by
 obtain ⟨i,hi,hzz⟩:=Option.map_eq_some_iff.1 infoIntT
 simp only [Prod.mk.injEq] at hzz
 obtain ⟨hz,hs1,hb⟩:=hzz
 obtain ⟨v',w',hrun,h2,h3,h4,h5⟩:=run_append_own_at (P:=Tryz.prog) w B 23 23 3 i _ 1 8 undIntsT hi hz hs1 hb rfl (by decide) v l.length (l.map (.int .i64 ·)) hr.own ⟨g,0,none⟩ 1 c [.int .i64 x] rfl (fun j u hj=>by
  cases j with
  | zero=>simp at hj; subst hj; simpa [Addr.add] using hg
  | succ j=>simp at hj) (by intro u hu; simp at hu; subst hu; rfl) (by unfold maxLen; omega) (by omega) hB
 exact ⟨v',w',hrun,⟨by rw [List.length_append,List.map_append]; simpa using h2⟩,⟨h3.os,h3.tape,h3.output,h3.size,fun k hk hn=>h3.block k hk fun e=>hn (by rw [← e]; simp)⟩,h5⟩
end Go.Proofs.YtcinlaacgbfojaaGreatDoor
/- A frame, spelled out. -/
namespace Go.Proofs.YtcinlaacgbfojaaGreatDoor
open Go.RowKit
def lit52 (c:Nat→Value):Array Value:=#[c 0,c 1,c 2,c 3,c 4,c 5,c 6,c 7,c 8,c 9,c 10,c 11,c 12,c 13,c 14,c 15,c 16,c 17,c 18,c 19,c 20,c 21,c 22,c 23,c 24,c 25,c 26,c 27,c 28,c 29,c 30,c 31,c 32,c 33,c 34,c 35,c 36,c 37,c 38,c 39,c 40,c 41,c 42,c 43,c 44,c 45,c 46,c 47,c 48,c 49,c 50,c 51]
set_option maxRecDepth 100000 in
theorem lit52_eq (c:Nat→Value):lit52 c=((List.range 52).map c).toArray:=by rfl
theorem expand52 {a:Act} (hs:a.tmps.size=52) (hd:a.defers=[]):∃ c:Nat→Value,a=⟨lit52 c,[]⟩∧∀ s,c s=a.eval (.tmp s):=by
 refine ⟨fun s=>a.tmps.getD s undef,?_,fun s=>rfl⟩
 obtain ⟨t,d⟩:=a
 simp only at hs hd
 subst hd
 congr 1
 rw [lit52_eq]
 refine Array.ext (by simp [hs]) fun i h1 h2=>?_
 simp [Array.getD,h1]
end Go.Proofs.YtcinlaacgbfojaaGreatDoor

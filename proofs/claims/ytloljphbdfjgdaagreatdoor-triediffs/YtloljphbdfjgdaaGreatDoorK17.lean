/- Package pile, alone: a set of places, held against itself whole. -/
import Derived.Test.YtloljphbdfjgdaaGreatDoorK16
import Derived.Test.YtloljphbdfjgdaaGreatDoorK02
import Derived.Deep.WholeRow
import Derived.ChangeKeysEq
import Derived.Laws.StructEq
import Derived.Laws.Cells
namespace Go.Proofs.YtloljphbdfjgdaaGreatDoor
open Go.RowKit

theorem infoSet:(Tryz.prog.info? 216).map (·.size)=some 64:=by kernel_rfl
theorem undSet:Tryz.prog.underlying 216=some (.array 64 214):=by kernel_rfl
theorem undU64:Tryz.prog.underlying 214=some (.int .u64):=by kernel_rfl
theorem run_eqItems_ints (d:Nat) (f g:Nat→Int) (n:Nat) (w:World):∀ l:List Nat,(∀ k∈l,k < n) →
  (Op.eqItems (d+1) 214 1 ((List.range n).map fun k=>Value.int .u64 (f k)).toArray ((List.range n).map fun k=>Value.int .u64 (g k)).toArray l).run Tryz.prog w=.ok (l.all fun k=>f k == g k) w
 | [],_=>by simp [Op.eqItems]
 | k :: l,h=>by
  have hk:=h k (by simp)
  have ih:=run_eqItems_ints d f g n w l (fun x hx=>h x (by simp [hx]))
  have p:∀ f:Nat→Int,(part 214 ((List.range n).map fun k=>Value.int .u64 (f k)).toArray k).run Tryz.prog w=.ok (.int .u64 (f k)) w:=fun f =>
   run_part_plain w (by kernel_rfl) (by rw [List.getElem?_toArray,List.getElem?_map,List.getElem?_range hk]; rfl)
  have e:(Op.equalIn (d+1) 214 (.int .u64 (f k)) (.int .u64 (g k))).run Tryz.prog w=.ok (f k == g k) w:=by simp [Op.equalIn,run_underlying undU64]
  simp only [Op.eqItems,Nat.mul_one,Sem.run_bind,p,e,Result.andThen_ok,List.all_cons]
  cases hx:(f k == g k)
  ·simp
  ·simpa using ih
abbrev wordsObj (c:Nat→Int):Array Value:=((List.range 64).map fun k=>Value.int .u64 (c k)).toArray
theorem run_eqSet (f g:Nat→Int) (w:World):(Op.equalIn 10000 216 (.agg (wordsObj f)) (.agg (wordsObj g))).run Tryz.prog w=.ok ((List.range 64).all fun k=>f k == g k) w:=by
 cases hi:Tryz.prog.info? 214 with
 | none =>
  have:(Tryz.prog.info? 214).isSome=true:=by kernel_rfl
  rw [hi] at this; cases this
 | some i =>
  rw [show (10000:Nat)=9999+1 from rfl,run_equalIn_array w 9999 _ _ undSet hi,show Tryz.prog.cellsOf 214=1 from by kernel_rfl]
  exact run_eqItems_ints 9998 f g 64 w _ (fun k hk=>by simpa using hk)
def setObj (c:Nat→Int):Obj:=.cells (wordsObj c) 216 (0,0)
theorem words_size (c:Nat→Int):(wordsObj c).size=64:=by simp
theorem words_one (c:Nat→Int):(wordsObj c).all (·.oneCell')=true:=by
 rw [Array.all_eq_true_iff_forall_mem]; intro x hx; simp at hx; obtain ⟨k,-,rfl⟩:=hx; rfl
theorem words_cell {w:World} {b:Nat} {c:Nat→Int} (h:w.heap[b]?=some (setObj c)) {k:Nat} (hk:k < 64):w.cell? ⟨b,k,none⟩=some (.int .u64 (c k)):=by
 rw [cell_at h,List.getElem?_toArray,List.getElem?_map,List.getElem?_range hk]; rfl
theorem words_put {w:World} {b:Nat} {c:Nat→Int} (h:w.heap[b]?=some (setObj c)) (k:Nat) (v:Int):(w.setCell ⟨b,k,none⟩ (.int .u64 v)).heap[b]?=some (setObj (upd c k v)):=by
 rw [blk_set h]
 congr 2
 apply Array.ext
 ·simp
 ·intro i h1 h2
  simp only [List.size_toArray,List.length_map,List.length_range] at h2
  by_cases e:i=k
  ·subst e; simp [upd]
  ·have e':¬ k=i:=fun x=>e x.symm
   simp [upd,e,e']
theorem run_loadSet {w:World} {b:Nat} {c:Nat→Int} (h:w.heap[b]?=some (setObj c)):(Instr.loadAt 216 (.pointer (some ⟨b,0,none⟩))).run Tryz.prog w=.ok (.agg (wordsObj c)) w:=by
 simp only [Instr.loadAt,Instr.sureAddr,Sem.run_bind,Sem.run_pure,Result.andThen]
 exact run_loadVar_row w b 216 216 (wordsObj c) (0,0) _ h undSet rfl (by rw [infoSet,words_size])
theorem zeroSet (w:World):(zeroValue 216).run Tryz.prog w=.ok (.agg (wordsObj fun _=>0)) w:=Tryz.zeroValue216 w
theorem run_allocSet (w:World):(Instr.alloc 216 true (.tuple #[])).run Tryz.prog w=.ok (.pointer (some ⟨w.heap.size,0,none⟩)) (w.alloc (setObj fun _=>0)):=by
 unfold Instr.alloc
 rw [Sem.run_bind,zeroSet]
 rfl
theorem run_storeSet (w:World) (c d:Nat→Int):(Instr.storeAt 216 (.pointer (some ⟨w.heap.size,0,none⟩)) (.agg (wordsObj c))).run Tryz.prog (w.alloc (setObj d))=.ok () (w.alloc (setObj c)) :=
 run_storeAt_new w 216 (wordsObj d) (wordsObj c) (by rw [infoSet,words_size]) (by rw [words_size,words_size]) (words_one c)
theorem x_neqSet {ρ:Operand→Value} {o:Oper} {w:World} {x y:Operand} {t:TypeId} {f g:Nat→Int} (h:o.op=.binOp .neq 216 x y t) (hx:ρ x=.agg (wordsObj f)) (hy:ρ y=.agg (wordsObj g)) :
  (execOp ρ o).run Tryz.prog w=.ok (.value (.bool (!((List.range 64).all fun k=>f k == g k)))) w:=by
 have h1:=run_eqGuard_agg (P:=Tryz.prog) w .neq 216 x y (wordsObj f) (wordsObj g) (by kernel_rfl)
 have h2:=run_eqSet f g w
 generalize wordsObj f=F at *
 generalize wordsObj g=G at *
 simp only [execOp,h,hx,hy,Sem.run_bind,h1,Result.andThen,binOp,Op.equal,Op.maxDepth,h2,Sem.run_pure]
def orBit (x:Int) (j:Nat):Int:=bits BinOp.or IntKind.u64 x (IntKind.u64.wrap (2 ^ (j % 64)))
set_option maxRecDepth 100000 in
set_option maxHeartbeats 1600000 in
theorem cAdd {w:World} {b:Nat} {c:Nat→Int} (hb:w.heap[b]?=some (setObj c)) (j:Nat) (hj:j < 4096) :
  Calls Tryz.prog 114 #[.pointer (some ⟨b,0,none⟩),.int .i64 (j+1)] w fun e w'=>e=.returned (.bool (!((List.range 64).all fun k=>upd c (j / 64) (orBit (c (j / 64)) j) k == c k)))∧Turned [b] w w'∧w'.heap[b]?=some (setObj (upd c (j / 64) (orBit (c (j / 64)) j))):=by
 go_enter Tryz.func114,Tryz.ntmps114
 refine wp_seq_k fun K hK=>?_
 have HK:Hid _:=hK
 clear hK
 go_wp2
 refine HK.out _ _ ?_
 clear HK K
 refine wp_seq_k fun K hK=>?_
 have HK:Hid _:=hK
 clear hK
 refine wp_region ?_
 refine ops_run rfl rfl (x_move rfl) ?_
 refine ops_run rfl rfl (x_nil rfl rfl) ?_
 refine ops_run rfl rfl (x_load rfl (run_loadSet hb)) ?_
 refine ops_run rfl rfl (x_alloc rfl (run_allocSet w)) ?_
 refine ops_skip rfl rfl (x_store rfl (run_storeSet w c _)) ?_
 refine ops_nil ?_
 refine HK.out _ _ ?_
 clear HK K
 show Code.wp _ _ _ ⟨#[.pointer (some ⟨b,0,none⟩),.int .i64 (j+1),undef,undef,.bool false,.pointer (some ⟨w.heap.size,0,none⟩),.pointer (some ⟨b,0,none⟩),.pointer (some ⟨b,0,none⟩),.agg (wordsObj c),undef,undef,undef,undef,undef,undef,undef,undef,undef,undef,undef,undef,undef,undef,undef,undef,undef,undef,undef],[]⟩ _
 have hT:Turned [b] w (w.alloc (setObj c)):=(Turned.refl _ _).alloc _
 have hb1:=blk_old hb (setObj c)
 have hn1:=blk_new w (setObj c)
 have hne:b≠w.heap.size:=by have:=lt_of_heap hb; omega
 generalize (Value.agg (wordsObj c))=v8
 generalize w.alloc (setObj c)=w1 at *
 generalize w.heap.size=nb at *
 have ck:=words_cell hb1 (k:=j / 64) (by omega)
 have zk:=froz_at hb1 (j / 64)
 have HB1:Hid _:=hb1
 have HN1:Hid _:=hn1
 have HT:Hid _:=hT
 clear hb1 hn1 hT hb
 refine wp_seq_k fun K hK=>?_
 have HK:Hid _:=hK
 clear hK
 go_wp2
 go_region
 show K _ _
 refine HK.out _ _ ?_
 rename_i Q0
 clear Q0 HK
 clear K
 have hb2:=words_put HB1.out (j / 64) (orBit (c (j / 64)) j)
 have hn2:(w1.setCell ⟨b,j / 64,none⟩ (.int .u64 (orBit (c (j / 64)) j))).heap[nb]?=some (setObj c):=(blk_other (fun e=>hne e.symm) _ _).trans HN1.out
 have hT2:=HT.out.set (r:=b) (.inl (by simp)) (j / 64) (.int .u64 (orBit (c (j / 64)) j))
 change Code.wp _ _ _ _ (w1.setCell ⟨b,j / 64,none⟩ (.int .u64 (orBit (c (j / 64)) j))).drew
 generalize upd c (j / 64) (orBit (c (j / 64)) j)=c' at *
 generalize w1.setCell ⟨b,j / 64,none⟩ (.int .u64 (orBit (c (j / 64)) j))=w2 at *
 clear ck zk HB1 HN1 HT
 refine wp_seq ?_
 refine wp_region_tab (w1:=w2.drew.drew) (by kernel_rfl) [some 23,some 24,some 25,some 26,some 27,some 4] (fun i=>match i with
  | 0=>.pointer (some ⟨b,0,none⟩) | 1=>.pointer (some ⟨b,0,none⟩) | 2=>.agg (wordsObj c') | 3=>.agg (wordsObj c) | _=>.bool (!((List.range 64).all fun k=>c' k == c k))) (by kernel_rfl) (by decide) ?_ (.inl rfl) ?_ ?_
 ·intro i g b' h
  exact (no_guard (by kernel_rfl) h).elim
 ·intro i hi o a K ho hd _ hoff hv hK
  rw [ite_self] at hK
  rcases (by simp at hi; omega:i=0∨i=1∨i=2∨i=3∨i=4∨i=5) with rfl | rfl | rfl | rfl | rfl | rfl
  ·exact l_val hd ((x_move (op_is rfl ho)).trans (by rw [hoff 0 (by decide)]; rfl)) hK
  ·exact l_val hd (x_nil (op_is rfl ho) (hv 0 23 rfl (by kernel_rfl))) hK
  ·exact l_val hd (x_load (op_is rfl ho) (by rw [hv 1 24 rfl (by kernel_rfl)]; exact run_loadSet hb2)) hK
  ·exact l_val hd (x_load (op_is rfl ho) (by rw [hoff 5 (by decide)]; exact run_loadSet hn2)) hK
  ·exact l_val hd (x_neqSet (op_is rfl ho) (hv 2 25 rfl (by kernel_rfl)) (hv 3 26 rfl (by kernel_rfl))) hK
  ·exact l_val hd ((x_assign (op_is rfl ho)).trans (by rw [hv 4 27 rfl (by kernel_rfl)]; rfl)) hK
 ·intro a' h1 h2 h3 h4
  refine wp_ret ?_
  refine bodyPost_ret (results_tmp rfl _ _ _) h2 ?_
  exact ⟨congrArg Ending.returned (h4 5 4 rfl),hT2.drew.drew,hb2⟩
end Go.Proofs.YtloljphbdfjgdaaGreatDoor

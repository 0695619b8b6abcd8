/-
  The tables that the program's text lays, as the contracts ask for them. (By the verifier; no statement.)
-/
import Derived.Test.YtbnpdfakniebnaaGreatDoorRows
import Derived.Test.YtbnpdfakniebnaaGreatDoorSpBh
import Derived.ProofKit
import Derived.LaidMore
import Derived.OpenShut
import Derived.Lib.LaidU8
import Derived.Shelf.Vars
namespace Go.Proofs.YtbnpdfakniebnaaGreatDoor
open Go.RowKit Go.Deep
def laidSp : List (String × DataW Unit) := [("math/bits.deBruijn32tab", Rows.laid_math_bits_deBruijn32tab), ("math/bits.deBruijn64tab", Rows.laid_math_bits_deBruijn64tab), ("internal/strconv.uint64pow10", Rows.laid_internal_strconv_uint64pow10), ("unicode/utf8.acceptRanges", Rows.laid_unicode_utf8_acceptRanges), ("skein/script.callWords", Rows.laid_skein_script_callWords), ("unicode/utf8.first", Rows.laid_unicode_utf8_first)]
theorem laidSp_plain {W : World} (h : laidMetH Tryz.prog laidSp W) : laidMet Tryz.prog laidSp W := by
  rwa [MakeChecks.laidMetH_plain _ _ _ (by kernel_rfl)] at h
theorem cellsU64 : Tryz.prog.cellsOf 215 = 1 := by kernel_rfl
theorem cellsPow : Tryz.prog.cellsOf 272 = 20 := by kernel_rfl
theorem tPow : (Tryz.prog.globals[7]?).map (·.type) = some 272 := by kernel_rfl
theorem gCall : Tryz.prog.globalNamed "skein/script.callWords" = some 1 := by kernel_rfl
theorem tCall : (Tryz.prog.globals[1]?).map (·.type) = some 182 := by kernel_rfl
theorem cellsCW : Tryz.prog.cellsOf 181 = 3 := by kernel_rfl
theorem cellsS : Tryz.prog.cellsOf 9 = 1 := by kernel_rfl
theorem cellsI : Tryz.prog.cellsOf 3 = 1 := by kernel_rfl
theorem cellsBo : Tryz.prog.cellsOf 4 = 1 := by kernel_rfl
theorem powD : (Rows.laid_internal_strconv_uint64pow10 : DataW Unit) = Lib.tabData .u64 Lib.pow10Tab := by kernel_rfl
theorem powW_of {W : World} (h : laidMet Tryz.prog laidSp W) : PowW W := by
  obtain ⟨g, t, cs, fuel, p, hg, hty, hvar, hd⟩ := Lib.laidMet.reads h (n := "internal/strconv.uint64pow10") (d := Rows.laid_internal_strconv_uint64pow10) (by simp [laidSp])
  obtain rfl := Option.some.inj (gPow.symm.trans hg)
  obtain rfl := Option.some.inj (tPow.symm.trans hty)
  rw [powD] at hd
  refine ⟨?_⟩
  unfold Lib.TabIs
  rw [hvar, ← Lib.cells_of_tab Tryz.underlying272 Tryz.underlying215 cellsU64 cellsPow hd]
abbrev rowD (q : Bs × Int × Bool) : DataW Unit := .agg [.lit (.string q.1), .lit (.int .i64 q.2.1), .lit (.bool q.2.2)]
theorem callD : (Rows.laid_skein_script_callWords : DataW Unit) = .agg (callT.map rowD) := by kernel_rfl
theorem row_cells {w : World} {base : Nat} {sp : Nat → Bool} {held : Bool} {fuel : Nat} {cs : List Value} {q : Bs × Int × Bool} {p : List MemPlace} (h : DataW.trod (fun _ => ()) Tryz.prog w base sp held fuel 181 cs = some (rowD q, p)) : cs = rowV q := by
  obtain ⟨xs, n, rfl, hx, hl, hxl, hall⟩ := DataW.trod_struct Tryz.underlying181 h
  rw [cellsCW] at hl
  rcases cs with _ | ⟨c0, _ | ⟨c1, _ | ⟨c2, _ | ⟨c3, l⟩⟩⟩⟩
  · simp at hl
  · simp at hl
  · simp at hl
  · have hx1 := congrArg Prod.fst hx
    rcases xs with _ | ⟨x0, _ | ⟨x1, _ | ⟨x2, _ | ⟨x3, l⟩⟩⟩⟩
    · simp at hxl
    · simp at hxl
    · simp at hxl
    · simp only [List.map_cons, List.map_nil, DataW.agg.injEq, List.cons.injEq, and_true] at hx1
      obtain ⟨e0, e1, e2⟩ := hx1
      have f0 : DataW.trod (fun _ => ()) Tryz.prog w base sp held n 9 (([c0, c1, c2].drop 0).take (Tryz.prog.cellsOf 9)) = some x0 := hall 0 _ rfl
      have f1 : DataW.trod (fun _ => ()) Tryz.prog w base sp held n 3 (([c0, c1, c2].drop 1).take (Tryz.prog.cellsOf 3)) = some x1 := hall 1 _ rfl
      have f2 : DataW.trod (fun _ => ()) Tryz.prog w base sp held n 4 (([c0, c1, c2].drop 2).take (Tryz.prog.cellsOf 4)) = some x2 := hall 2 _ rfl
      rw [cellsS] at f0
      rw [cellsI] at f1
      rw [cellsBo] at f2
      obtain ⟨s, g0, g0', -⟩ := DataW.trod_string Tryz.underlying9 f0
      obtain ⟨m, g1, g1', -⟩ := DataW.trod_int Tryz.underlying3 f1
      obtain ⟨b, g2, g2'⟩ := DataW.trod_bool Tryz.underlying4 f2
      subst g0' g1' g2'
      have k0 : c0 = .string s := by simpa using g0
      have k1 : c1 = .int .i64 m := by simpa using g1
      have k2 : c2 = .bool b := by simpa using g2
      simp only [DataW.lit.injEq, Lit.string.injEq, Lit.int.injEq, Lit.bool.injEq, true_and] at e0 e1 e2
      subst k0 k1 k2
      unfold rowV
      rw [e0, e1, e2]
    · simp at hxl
  · simp at hl
set_option maxRecDepth 100000 in
theorem tabC_of {W : World} (h : laidMet Tryz.prog laidSp W) : TabC W := by
  obtain ⟨g, t, cs, fuel, p, hg, hty, hvar, hd⟩ := Lib.laidMet.reads h (n := "skein/script.callWords") (d := Rows.laid_skein_script_callWords) (by simp [laidSp])
  obtain rfl := Option.some.inj (gCall.symm.trans hg)
  obtain rfl := Option.some.inj (tCall.symm.trans hty)
  rw [callD] at hd
  refine ⟨fun j v hj => ?_⟩
  have hj60 : j < 60 := (List.getElem?_eq_some_iff.1 hj).1
  have hi : j / 3 < callT.length := by show j / 3 < 20; omega
  obtain ⟨fuel', d, q, hdi, he⟩ := Lib.array_elem Tryz.underlying182 hd (j / 3) hi
  rw [List.getElem?_map, List.getElem?_eq_getElem hi] at hdi
  obtain rfl : rowD callT[j / 3] = d := Option.some.inj hdi
  have hr := row_cells he
  rw [cellsCW] at hr
  have h3 : j % 3 < 3 := Nat.mod_lt _ (by decide)
  have e1 := rowO_at enRow callT hi h3
  have ej : j / 3 * 3 + j % 3 = j := by omega
  rw [ej] at e1
  have e2 : cs.toList[j]? = ((cs.toList.drop (j / 3 * 3)).take 3)[j % 3]? := by
    rw [List.getElem?_take, if_pos h3, List.getElem?_drop, ej]
  have hj' : (callT.flatMap rowV)[j]? = some v := hj
  rw [Nat.zero_add, World.var?_cell gCall hvar j, ← Array.getElem?_toList, e2, hr, ← e1, hj']
theorem libW_of {W : World} (h : W.ShapedOpen Tryz.prog) : LibW W :=
  ⟨cell_of_shapedOpen_int (g := 4) (t := 3) (zero := #[.int .i64 0]) h (of_decide_eq_true (by kernel_rfl)) (by kernel_rfl) rfl (by kernel_rfl) (by kernel_rfl) Tryz.underlying3⟩
end Go.Proofs.YtbnpdfakniebnaaGreatDoor

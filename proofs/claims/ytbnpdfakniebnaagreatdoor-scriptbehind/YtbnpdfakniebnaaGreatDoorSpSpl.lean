/-
  strings.Split at line feeds, strings.Count of them, by the text's lines. (By the verifier; no statement.)
-/
import Derived.Test.YtbnpdfakniebnaaGreatDoorSpNewL
namespace Go.Proofs.YtbnpdfakniebnaaGreatDoor
open Go.RowKit
theorem count_lines : ∀ (n : Nat) (l : Bs), l.length ≤ n → (linesB [] l).length = Lib.count l [10] + 1
  | n, l, hn => by
    rcases first_nl l with h | ⟨a, r, rfl, h2⟩
    · rw [Lib.count_miss (index_no 10 l h), lines_one l [] h]; rfl
    · have hi := index_one 10 a r h2
      have hd : (a ++ 10 :: r).drop (a.length + 1) = r := by rw [List.drop_append]; simp
      rw [Lib.count_hit (by simp) hi, lines_run a [] r h2]
      show _ = 1 + Lib.count ((a ++ 10 :: r).drop (a.length + 1)) [10] + 1
      rw [hd]
      cases n with
      | zero => simp at hn
      | succ n =>
        have := count_lines n r (by simp at hn; omega)
        simp
        omega
theorem cSplit {w : World} (hL : LibW w) {t : Bs} (ht : t.length < 4294967281) : Calls Tryz.prog 23 #[sV t, .string ⟨#[10]⟩] w fun q w' => q = .returned (.slice (some ⟨w.heap.size, 0, none⟩) (linesB [] t).length (linesB [] t).length) ∧ w' = w.alloc (.cells ((linesB [] t).map sV).toArray 9) := by
  obtain ⟨m, hm⟩ := hL.mx
  refine (Tryz.strings_Split ⟨t.toArray⟩ nlB m w (by rw [size_of]; exact ht) hm (by decide)).mono ?_
  rintro q w' ⟨rfl, rfl⟩
  have h1 : (Lib.splitB nlB 0 (Lib.countB ⟨t.toArray⟩ nlB) ⟨t.toArray⟩).map (fun x => x.data.toList) = linesB [] t := lines_b ⟨t.toArray⟩
  have h2 : (Lib.splitB nlB 0 (Lib.countB ⟨t.toArray⟩ nlB) ⟨t.toArray⟩).map Value.string = (linesB [] t).map sV := by
    rw [← h1, List.map_map]
    rfl
  have h3 : Lib.countB ⟨t.toArray⟩ nlB + 1 = (linesB [] t).length := (count_lines _ t (Nat.le_refl _)).symm
  rw [h2, h3]
  exact ⟨rfl, rfl⟩
end Go.Proofs.YtbnpdfakniebnaaGreatDoor


/- The law FormatWides, whole, by what Wide, Column and Number answer. Conditions: as each theorem says. -/
import Derived.Test.YtnelglmbckgbgaaDoorFwh
import Derived.BigQuiet
namespace Go.Proofs.YtnelglmbckgbgaaDoor.fw
open Go.RowKit Go.Sort
theorem ext_txt (b : ByteArray) (i j : Nat) : b.extract i j = txt ((b.toList.take j).drop i) := by
  apply ByteArray.ext
  rw [ByteArray.data_extract, ByteArray.toList_eq]
  apply Array.toList_inj.1
  rw [Array.toList_extract]
  simp [txt, List.drop_take]
theorem txt_toList (b : ByteArray) : txt b.toList = b := by
  apply ByteArray.ext
  rw [ByteArray.toList_eq]
  simp [txt]
theorem wide_head (s : ByteArray) (wd : Nat) : (txt (wideL s.toList wd 0)).extract 0 (min s.size wd) = s.extract 0 (min s.size wd) := by
  rw [ext_txt, ext_txt, txt_list, List.drop_zero, List.drop_zero, ← size_list s, wideL_head]
theorem wide_tail (s : ByteArray) (wd : Nat) (h : s.size ≤ wd) : (txt (wideL s.toList wd 2)).extract (wd - s.size) wd = s := by
  rw [ext_txt, txt_list, List.take_of_length_le (by rw [wideL_len]; exact Nat.le_refl _), ← size_list s, wideL_tail _ _ (by rw [size_list]; exact h), txt_toList]
theorem drewN_bw (w : World) (m : Nat) : Bw w (w.drewN m) := ⟨rfl, rfl, rfl, Nat.le_refl _, fun _ _ => rfl⟩
theorem co_28 : coE 28 = 0 ∧ coT 28 = ⟨#[65, 66]⟩ := by
  have h : coB 28 = true := by decide
  unfold coE coT
  rw [h, show Int.toNat 28 = 28 from rfl, letL_28]
  exact ⟨rfl, rfl⟩
end Go.Proofs.YtnelglmbckgbgaaDoor.fw

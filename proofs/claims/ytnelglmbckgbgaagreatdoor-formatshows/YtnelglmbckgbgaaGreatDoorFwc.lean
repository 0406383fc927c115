
/- The document's Letters, walked. Conditions: as each theorem says. -/
import Derived.Test.YtnelglmbckgbgaaGreatDoorFwa
namespace Go.Proofs.YtnelglmbckgbgaaGreatDoor.fw
open Go.RowKit Go.Sort
/-- The letters of a column. -/
def letL (n : Nat) : List UInt8 := if _h : n = 0 then [] else letL ((n - 1) / 26) ++ [UInt8.ofNat (65 + (n - 1) % 26)]
termination_by n
decreasing_by omega
theorem letL_zero : letL 0 = [] := by unfold letL; rw [dif_pos rfl]
theorem letL_pos {n : Nat} (h : 0 < n) : letL n = letL ((n - 1) / 26) ++ [UInt8.ofNat (65 + (n - 1) % 26)] := by
  conv => lhs; unfold letL
  rw [dif_neg (by omega)]
theorem txt_size (l : List UInt8) : (txt l).size = l.length := rfl
theorem txt_cons (b : UInt8) (t : List UInt8) : txt [b] ++ txt t = txt (b :: t) := by
  unfold txt
  apply ByteArray.ext
  simp
theorem one_text (w : World) (d : Nat) (hd : d < 256) : (convert 69 9 (.slice (some ⟨w.heap.size, 0, none⟩) 1 1)).run Tryz.prog (w.alloc (.cells #[.int .u8 (d : Int)] 5)) = .ok (.string (txt [UInt8.ofNat d])) (w.alloc (.cells #[.int .u8 (d : Int)] 5)) := by
  have h1 := run_convert_bytes_back (P := Tryz.prog) (w.alloc (.cells #[.int .u8 (d : Int)] 5)) 69 9 5 ⟨w.heap.size, 0, none⟩ 1 [UInt8.ofNat d] Tryz.underlying69 Tryz.underlying5 Tryz.underlying9 (fun j hj => by
    have : j = 0 := by simp at hj; omega
    subst this
    have hb := heap_alloc_new w (.cells #[.int .u8 (d : Int)] 5)
    have e : (UInt8.ofNat d).toNat = d := by rw [UInt8.toNat_ofNat']; exact Nat.mod_eq_of_lt hd
    show World.cell? _ ⟨w.heap.size, 0, none⟩ = some (.int .u8 ((UInt8.ofNat d).toNat : Int))
    rw [e]
    simp only [World.cell?, hb]
    rfl)
  exact h1
end Go.Proofs.YtnelglmbckgbgaaGreatDoor.fw

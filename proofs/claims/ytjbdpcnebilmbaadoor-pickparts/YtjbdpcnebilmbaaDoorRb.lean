
/- The document's columns; rows that are alike; rows that are like none ahead; two lists of numbers. Conditions: as each theorem says. -/
import Derived.Test.YtjbdpcnebilmbaaDoorRa
import Derived.Laws.StructEq
namespace Go.Proofs.YtjbdpcnebilmbaaDoor.so
open Go.RowKit Go.Sort Go.Shelf
def RB (T : Tb) (x : Int) (e : Ending) : Prop := ∃ b : Bool, e = .returned (.bool b) ∧ (b = true ↔ colOk T x)
def CB (T : Tb) (x : Int) (b : Bool) : Prop := (b = true ↔ colOk T x)
theorem eqInV (k n : Int) (s : ByteArray) (k' n' : Int) (s' : ByteArray) (W : World) : (Op.equalIn 10000 30 (V k n s) (V k' n' s')).run Tryd.prog W = .ok (k == k' && n == n' && s.toList == s'.toList) W := by
  have hS : Tryd.prog.underlying 30 = some (.struct (Tryd.prog.fieldsOf 30)) := by kernel_rfl
  have hp : Tryd.prog.stoodInHeld 30 = false := by kernel_rfl
  rw [run_equalIn_struct W 9999 30 _ _ hS hp]
  simp only [Program.fieldsOf, Tryd.underlying30]
  by_cases h1 : k = k' <;> by_cases h2 : n = n' <;> by_cases h3 : s.toList = s'.toList <;> simp [Op.eqFields, go_sem, h1, h2, h3]
theorem neqV (k n : Int) (s : ByteArray) (k' n' : Int) (s' : ByteArray) (W : World) : (binOp BinOp.neq 30 (V k n s) (V k' n' s')).run Tryd.prog W = .ok (.bool (!(k == k' && n == n' && s.toList == s'.toList))) W := by
  rw [run_neq_struct, eqInV]; rfl
theorem bytes_ext {s t : ByteArray} : s.toList = t.toList ↔ s = t := by
  constructor
  · intro h
    rw [ByteArray.toList_eq, ByteArray.toList_eq] at h
    obtain ⟨⟨a⟩⟩ := s
    obtain ⟨⟨b⟩⟩ := t
    simp at h
    rw [h]
  · intro h; rw [h]
theorem tM : Tryd.prog.eqGuardType Tryd.prog.depth 30 = false := by kernel_rfl
end Go.Proofs.YtjbdpcnebilmbaaDoor.so


/- An error held against a number. Conditions: as each theorem says. -/
import Derived.Test.YtjbdpcnebilmbaaGreatDoorSb
import Derived.Test.YtjbdpcnebilmbaaGreatDoorAs
namespace Go.Proofs.YtjbdpcnebilmbaaGreatDoor.so
open Go.RowKit Go.Sort
theorem rsame_any (e m : Int) (w : World) (hg : ErrTy w) : Calls Tryz.prog 7 #[errV e, .int .i64 m] w fun r w' => r = .returned (.bool (e == m)) ∧ Bw w w' := by
  by_cases h : e = 0
  · subst h; exact same_nil m w
  · rw [errV_of h]; exact same_errno e m w hg
theorem errTy_next {w w' : World} (h : ErrTy w) (hb : Bw w w') : ErrTy w' := ⟨Nat.lt_of_lt_of_le h.1 hb.size, by rw [hb.cell (p := ⟨_, _, none⟩) h.1]; exact h.2⟩
end Go.Proofs.YtjbdpcnebilmbaaGreatDoor.so

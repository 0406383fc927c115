
/- The document's columns; rows that are alike; rows that are like none ahead; two lists of numbers. Conditions: as each theorem says. -/
import Derived.Test.YtjbdpcnebilmbaaGreatDoorRa
import Derived.Laws.StructEq
namespace Go.Proofs.YtjbdpcnebilmbaaGreatDoor.so
open Go.RowKit Go.Sort Go.Shelf
def RB (T : Tb) (x : Int) (e : Ending) : Prop := ∃ b : Bool, e = .returned (.bool b) ∧ (b = true ↔ colOk T x)
def CB (T : Tb) (x : Int) (b : Bool) : Prop := (b = true ↔ colOk T x)
set_option maxRecDepth 100000 in
set_option maxHeartbeats 1000000 in
theorem rcolumn_any (T : Tb) (p : Option Addr) (c : Nat) (x : Int) (w : World) (hT : TM w p T) (hq : T.q ≤ 60) (hL : ∀ i, i < T.q → T.L i ≤ 12) :
    Calls Tryz.prog 11 #[.slice p T.q c, .int .i64 x] w fun e w' => RB T x e ∧ w' = w := by
  obtain ⟨W, hW⟩ : ∃ W : Nat, wid T = W := ⟨_, rfl⟩
  have HP : Hid (∀ b : Bool, (b = true ↔ (0 ≤ x ∧ x < (W : Int))) → (b = true ↔ colOk T x)) := by
    intro b h; unfold colOk; rw [hW]; exact h
  obtain ⟨q, P, L, C, v⟩ := T
  simp only at hq hL ⊢
  by_cases h0 : q = 0
  · subst h0
    have e : (12 : Int) = W := by rw [← hW]; rfl
    have HE : Hid ((12 : Int) = W) := e
    clear hT hL hW e
    by_cases h1 : 0 ≤ x
    · have h1' : x ≥ 0 := h1
      go_enter Tryz.func11, Tryz.ntmps11
      go_wp2_with fail
      go_ret
      exact ⟨⟨decide (x < 12), by simp, HP.out _ (by rw [← HE.out]; simp; intro _; exact h1)⟩, rfl⟩
    · have h1' : ¬ x ≥ 0 := h1
      go_enter Tryz.func11, Tryz.ntmps11
      go_wp2_with fail
      go_ret
      exact ⟨⟨false, rfl, HP.out _ (by simp; omega)⟩, rfl⟩
  · have e : L 0 = W := by rw [← hW]; unfold wid; rw [if_neg h0]
    rcases hT with h | ⟨g, o, rfl, hg, h3⟩
    · exact absurd h h0
    obtain ⟨y0, -⟩ := h3 0 (by show 0 < q; omega)
    have hl := hL 0 (by omega)
    have hq1 : (0 : Int) < (q : Int) := by omega
    simp only [Nat.add_zero] at y0
    rw [e] at y0 hl
    clear h3 hg hL h0 hW e
    by_cases h1 : 0 ≤ x
    · have h1' : x ≥ 0 := h1
      go_enter Tryz.func11, Tryz.ntmps11
      go_wp2_with fail
      go_ret
      exact ⟨⟨decide (x < (W : Int)), by simp, HP.out _ (by simp; intro _; exact h1)⟩, rfl⟩
    · have h1' : ¬ x ≥ 0 := h1
      go_enter Tryz.func11, Tryz.ntmps11
      go_wp2_with fail
      go_ret
      exact ⟨⟨false, rfl, HP.out _ (by simp; omega)⟩, rfl⟩
theorem eqInV (k n : Int) (s : ByteArray) (k' n' : Int) (s' : ByteArray) (W : World) : (Op.equalIn 10000 38 (V k n s) (V k' n' s')).run Tryz.prog W = .ok (k == k' && n == n' && s.toList == s'.toList) W := by
  have hS : Tryz.prog.underlying 38 = some (.struct (Tryz.prog.fieldsOf 38)) := by kernel_rfl
  have hp : Tryz.prog.stoodInHeld 38 = false := by kernel_rfl
  rw [run_equalIn_struct W 9999 38 _ _ hS hp]
  simp only [Program.fieldsOf, Tryz.underlying38]
  by_cases h1 : k = k' <;> by_cases h2 : n = n' <;> by_cases h3 : s.toList = s'.toList <;> simp [Op.eqFields, go_sem, h1, h2, h3]
theorem neqV (k n : Int) (s : ByteArray) (k' n' : Int) (s' : ByteArray) (W : World) : (binOp BinOp.neq 38 (V k n s) (V k' n' s')).run Tryz.prog W = .ok (.bool (!(k == k' && n == n' && s.toList == s'.toList))) W := by
  rw [run_neq_struct, eqInV]; rfl
theorem bytes_ext {s t : ByteArray} : s.toList = t.toList ↔ s = t := by
  constructor
  · intro h
    rw [ByteArray.toList_eq, ByteArray.toList_eq] at h
    obtain ⟨⟨a⟩⟩ := s
    obtain ⟨⟨b⟩⟩ := t
    simp at h
    rw [h]
  · intro h; rw [h]
theorem tM : Tryz.prog.eqGuardType Tryz.prog.depth 38 = false := by kernel_rfl
end Go.Proofs.YtjbdpcnebilmbaaGreatDoor.so

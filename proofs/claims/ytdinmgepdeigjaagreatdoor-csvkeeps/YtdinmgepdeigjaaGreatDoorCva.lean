
/- Rows of texts as memory has them; sccsame.Rows at two that are the same. Conditions: as each theorem says. -/
import Derived.Test.YtdinmgepdeigjaaGreatDoorFwa
import Derived.BigQuiet
namespace Go.Proofs.YtdinmgepdeigjaaGreatDoor.fw
open Go.RowKit Go.Sort
/-- Texts lie in memory. -/
def SM (w : World) (p : Option Addr) (r : List ByteArray) : Prop :=
  r = [] ∨ ∃ g o, p = some ⟨g, o, none⟩ ∧ g < w.heap.size ∧ ∀ (i : Nat) (s : ByteArray), r[i]? = some s → w.cell? ⟨g, o + i, none⟩ = some (.string s)
theorem SM.next {w w' : World} {p : Option Addr} {r : List ByteArray} (h : SM w p r) (hb : Bw w w') : SM w' p r := by
  rcases h with h | ⟨g, o, h1, h2, h3⟩
  · exact .inl h
  · refine .inr ⟨g, o, h1, Nat.lt_of_lt_of_le h2 hb.size, fun i s hs => ?_⟩
    rw [hb.cell (p := ⟨g, _, none⟩) h2]
    exact h3 i s hs
theorem SM.at {w : World} {p : Option Addr} {r : List ByteArray} (h : SM w p r) {i : Nat} {s : ByteArray} (hs : r[i]? = some s) : ∃ g o, p = some ⟨g, o, none⟩ ∧ w.cell? ⟨g, o + i, none⟩ = some (.string s) := by
  rcases h with rfl | ⟨g, o, h1, -, h3⟩
  · simp at hs
  · exact ⟨g, o, h1, h3 i s hs⟩
/-- Rows of texts lie in memory. -/
def RM (w : World) (p : Option Addr) (t : List (List ByteArray)) : Prop :=
  t = [] ∨ ∃ g o, p = some ⟨g, o, none⟩ ∧ g < w.heap.size ∧ ∀ (i : Nat) (r : List ByteArray), t[i]? = some r → ∃ q c, w.cell? ⟨g, o + i, none⟩ = some (.slice q r.length c) ∧ SM w q r
theorem RM.next {w w' : World} {p : Option Addr} {t : List (List ByteArray)} (h : RM w p t) (hb : Bw w w') : RM w' p t := by
  rcases h with h | ⟨g, o, h1, h2, h3⟩
  · exact .inl h
  · refine .inr ⟨g, o, h1, Nat.lt_of_lt_of_le h2 hb.size, fun i r hr => ?_⟩
    obtain ⟨q, c, e1, e2⟩ := h3 i r hr
    exact ⟨q, c, by rw [hb.cell (p := ⟨g, _, none⟩) h2]; exact e1, e2.next hb⟩
theorem RM.at {w : World} {p : Option Addr} {t : List (List ByteArray)} (h : RM w p t) {i : Nat} {r : List ByteArray} (hr : t[i]? = some r) : ∃ g o q c, p = some ⟨g, o, none⟩ ∧ w.cell? ⟨g, o + i, none⟩ = some (.slice q r.length c) ∧ SM w q r := by
  rcases h with rfl | ⟨g, o, h1, -, h3⟩
  · simp at hr
  · obtain ⟨q, c, e1, e2⟩ := h3 i r hr
    exact ⟨g, o, q, c, h1, e1, e2⟩
theorem drN_bw2 (w : World) (n : Nat) : Bw w (w.drewN n) := ⟨rfl, rfl, rfl, Nat.le_refl _, fun _ _ => rfl⟩
end Go.Proofs.YtdinmgepdeigjaaGreatDoor.fw


/- Two lists of numbers held against each other. Conditions: as each theorem says. -/
import Derived.Test.YtjbdpcnebilmbaaGreatDoorRb
namespace Go.Proofs.YtjbdpcnebilmbaaGreatDoor.so
open Go.RowKit Go.Sort Go.Shelf
/-- Are two lists the same? -/
def sameI (n : Nat) (a : Nat → Int) (m : Nat) (b : Nat → Int) : Bool := n == m && (List.range n).all fun i => a i == b i
theorem sameI_true {n : Nat} {a : Nat → Int} {m : Nat} {b : Nat → Int} : sameI n a m b = true ↔ n = m ∧ ∀ i, i < n → a i = b i := by
  unfold sameI
  simp
theorem sameI_false {n : Nat} {a : Nat → Int} {m : Nat} {b : Nat → Int} {i : Nat} (hi : i < n) (h : a i ≠ b i) : sameI n a m b = false := by
  cases e : sameI n a m b with
  | false => rfl
  | true => exact absurd ((sameI_true.1 e).2 i hi) h
set_option maxRecDepth 100000 in
set_option maxHeartbeats 4000000 in
theorem rints_any (p1 : Option Addr) (n c1 : Nat) (a : Nat → Int) (p2 : Option Addr) (m c2 : Nat) (b : Nat → Int) (w : World) (h1 : IM w p1 n a) (h2 : IM w p2 m b) (hn : n ≤ 9223372036854775807) (hm : m ≤ 9223372036854775807) :
    Calls Tryz.prog 9 #[.slice p1 n c1, .slice p2 m c2] w fun e w' => e = .returned (.bool (sameI n a m b)) ∧ Bw w w' := by
  have H1 : Hid (IM w p1 n a) := h1
  have H2 : Hid (IM w p2 m b) := h2
  clear h1 h2
  by_cases hne : n = m
  · subst hne
    obtain ⟨A, hA⟩ : ∃ A, sameI n a n b = A := ⟨_, rfl⟩
    have HA : Hid (sameI n a n b = A) := hA
    rw [hA]
    clear hA
    have mixed := mixed
    go_enter Tryz.func9, Tryz.ntmps9
    go_wp2_with fail
    go_loopw [5] (fun i wr => ∃ j : Nat, i = .int .i64 j ∧ j ≤ n ∧ Hid (Bw w wr) ∧ Hid (∀ i, i < j → a i = b i)) (fun i _ => n - (intOf i).toNat)
    case atStart => exact ⟨0, rfl, Nat.zero_le _, Below.refl _ _, fun i hi => absurd hi (Nat.not_lt_zero _)⟩
    case round =>
      obtain ⟨j, rfl, hj, HB, HD⟩ := hrel
      by_cases hlt : j < n
      · have hlt' : (j : Int) < (n : Int) := by omega
        have hj0 : (0 : Int) ≤ (j : Int) := by omega
        rcases H1.out.next HB.out with h | ⟨g1, o1, rfl, hg1, h1⟩
        · omega
        rcases H2.out.next HB.out with h | ⟨g2, o2, rfl, hg2, h2⟩
        · omega
        have y1 := h1 j hlt
        have y2 := h2 j hlt
        clear h1 h2 hg1 hg2
        have y1q : ∀ m, (wr.drewN m).cell? ⟨g1, o1 + j, none⟩ = some (.int .i64 (a j)) := fun m => y1
        have y2q : ∀ m, (wr.drewN m).cell? ⟨g2, o2 + j, none⟩ = some (.int .i64 (b j)) := fun m => y2
        clear y1 y2
        obtain ⟨x, hx⟩ : ∃ x, a j = x := ⟨_, rfl⟩
        obtain ⟨y, hy⟩ : ∃ y, b j = y := ⟨_, rfl⟩
        have HX : Hid (a j = x ∧ b j = y) := ⟨hx, hy⟩
        rw [hx] at y1q
        rw [hy] at y2q
        clear hx hy
        by_cases hxy : x = y
        · subst hxy
          go_wp2_with fail
          go_quiet (fail)
          go_wp2_with fail
          exact ⟨⟨j + 1, by simp, hlt, HB.out.tr (Bw.drewN _ _), fun i hi => by
            by_cases e : i = j
            · subst e; rw [HX.out.1, HX.out.2]
            · exact HD.out i (by omega)⟩, by simp [intOf]; omega⟩
        · have HF : Hid (A = false) := by show A = false; rw [← HA.out]; exact sameI_false hlt (by rw [HX.out.1, HX.out.2]; exact hxy)
          have hxy' : (x != y) = true := by simp; exact hxy
          go_wp2_with fail
          go_quiet (fail)
          go_wp2_with fail
          go_ret
          exact ⟨by rw [HF.out]; rfl, HB.out.tr (Bw.drewN _ _)⟩
      · have hj2 : ¬ (j : Int) < (n : Int) := by omega
        go_wp2_with fail
        go_ret
        exact ⟨by rw [← HA.out, sameI_true.2 ⟨rfl, fun i hi => HD.out i (by omega)⟩]; rfl, HB.out⟩
  · have e : sameI n a m b = false := by
      cases e : sameI n a m b with
      | false => rfl
      | true => exact absurd (sameI_true.1 e).1 hne
    rw [e]
    have hne' : ((n : Int) != (m : Int)) = true := by simp; omega
    clear e hne
    go_enter Tryz.func9, Tryz.ntmps9
    go_wp2_with fail
    go_ret
    exact ⟨rfl, Below.refl _ _⟩
end Go.Proofs.YtjbdpcnebilmbaaGreatDoor.so

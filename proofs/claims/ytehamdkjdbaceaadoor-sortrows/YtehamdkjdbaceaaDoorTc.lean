
/- Go's own stable sort: a piece is moved behind the next one. Conditions: as each theorem says. -/
import Derived.Test.YtehamdkjdbaceaaDoorTa
namespace Go.Proofs.YtehamdkjdbaceaaDoor.so
open Go.RowKit Go.Sort
variable {α : Type} [Inhabited α] {P : Program}
set_option maxRecDepth 1000000 in
set_option maxHeartbeats 2000000 in
theorem rotate_any (K : KT P) (enc : α → Value) (E X Y S : List α) (hX : 0 < X.length) (hY : 0 < Y.length) (fv : Value) (blk off cap : Nat) (d0 : Array α) (w0 w : World) (R : Row1 enc w0 blk off d0) (hs : d0.size = (E ++ X ++ Y ++ S).length) (hsz : d0.size ≤ 4398046511104) (hW : SW enc w0 blk off (E ++ X ++ Y ++ S).toArray w) :
    Calls P 52 #[.slice (some ⟨blk, off, none⟩) d0.size cap, .int .i64 (E.length : Nat), .int .i64 ((E.length + X.length : Nat) : Int), .int .i64 ((E.length + X.length + Y.length : Nat) : Int), fv] w fun e w' => e = .returned (.tuple #[]) ∧ SW enc w0 blk off (E ++ Y ++ X ++ S).toArray w' := by
  obtain ⟨z, hz⟩ : ∃ z, d0.size = z := ⟨_, rfl⟩
  obtain ⟨a, ha⟩ : ∃ a, E.length = a := ⟨_, rfl⟩
  obtain ⟨i0, hi0⟩ : ∃ i, X.length = i := ⟨_, rfl⟩
  obtain ⟨j0, hj0⟩ : ∃ j, Y.length = j := ⟨_, rfl⟩
  obtain ⟨m, hm⟩ : ∃ m, a + i0 = m := ⟨_, rfl⟩
  obtain ⟨b, hb⟩ : ∃ b, m + j0 = b := ⟨_, rfl⟩
  rw [ha, hi0, hj0, hm, hb, hz]
  have S0 : Aside (SW enc w0 blk off (E ++ X ++ Y ++ S).toArray w) := hW
  have HE : Hid (E.length = a ∧ X.length = i0 ∧ Y.length = j0 ∧ d0.size = (E ++ X ++ Y ++ S).length) := ⟨ha, hi0, hj0, hs⟩
  have HZ : Hid (d0.size = z) := hz
  have hz1 : z ≤ 4398046511104 := by omega
  have hbz : b ≤ z := by rw [← hz, hs, ← hb, ← hm, ← ha, ← hi0, ← hj0]; simp; omega
  have hmb : m ≤ b := by omega
  have e1 : (m : Int) - (a : Int) = (i0 : Int) := by omega
  have e2 : (b : Int) - (m : Int) = (j0 : Int) := by omega
  have hi1 : 0 < i0 := by omega
  have hj1 : 0 < j0 := by omega
  have hi2 : i0 ≤ m := by omega
  have HMB : Hid (m + j0 = b ∧ a + i0 = m) := ⟨hb, hm⟩
  have HS : Hid (∀ (E A M B S : List α) (wx : World) (ia ib ic : Int), A.length = B.length → ia = (E.length : Nat) → ib = ((E.length + A.length + M.length : Nat) : Int) → ic = (A.length : Nat) → (E ++ A ++ M ++ B ++ S).length = z → SW enc w0 blk off (E ++ A ++ M ++ B ++ S).toArray wx → Calls P 55 #[.slice (some ⟨blk, off, none⟩) z cap, .int .i64 ia, .int .i64 ib, .int .i64 ic, fv] wx fun e w' => e = .returned (.tuple #[]) ∧ SW enc w0 blk off (E ++ B ++ M ++ A ++ S).toArray w') := by
    intro E A M B S wx ia ib ic hAB h1 h2 h3 hl hW
    subst h1 h2 h3
    have := swapRange_any K enc E A M B S hAB fv blk off cap d0 w0 wx R (by rw [hz, hl]) (by omega) hW
    rwa [hz] at this
  have mixed := K.mixed; have t0 := K.t0; have a0 := K.a0; have z0 := K.z0; have v0 := K.v0; have t3 := K.t3; have a3 := K.a3; have z3 := K.z3; have v3 := K.v3; have t4 := K.t4; have a4 := K.a4; have z4 := K.z4; have v4 := K.v4; have t22 := K.t22; have a22 := K.a22; have z22 := K.z22; have v22 := K.v22; have t79 := K.t79; have a79 := K.a79; have z79 := K.z79; have v79 := K.v79
  have FG := K.fRo
  have e125 : ∀ args w, (callFunc 55 args).run P w = .ok (.enter 55 args) w := enters_of K.fSw (by kernel_rfl) rfl
  generalize hF : E ++ Y ++ X ++ S = F
  have HF : Hid (E ++ Y ++ X ++ S = F) := hF
  clear hW hs hsz hz hF ha hi0 hj0 hm hb hX hY
  go_enter FG, Tryd.ntmps52
  go_wp2
  go_loopg [10, 11] (i0 + j0) (fun kx s10 s11 wr => ∃ (i j : Nat) (E X Y S : List α), s10 = .int .i64 i ∧ s11 = .int .i64 j ∧ 0 < i ∧ 0 < j ∧ i ≤ m ∧ m + j ≤ b ∧ i + j ≤ kx ∧ Hid (X.length = i ∧ Y.length = j ∧ E.length + i = m ∧ (E ++ X ++ Y ++ S).length = z ∧ E ++ Y ++ X ++ S = F) ∧ Aside (SW enc w0 blk off (E ++ X ++ Y ++ S).toArray wr))
  case atStart => exact ⟨i0, j0, E, X, Y, S, rfl, rfl, hi1, hj1, hi2, by have := HMB.out; omega, Nat.le_refl _, ⟨HE.out.2.1, HE.out.2.2.1, by have := HE.out.1; have := HMB.out; omega, by rw [← HZ.out, HE.out.2.2.2], HF.out⟩, S0⟩
  case round =>
    clear S0
    obtain ⟨i, j, E', X', Y', S', rfl, rfl, hi, hj, him, hjb, hkx, HL, S1⟩ := hrel
    obtain ⟨hX1, hY1, hEm, hlen, hFin⟩ := HL.out
    by_cases hij : i = j
    · subst hij
      have HCC : Hid (Calls P 55 #[.slice (some ⟨blk, off, none⟩) z cap, .int .i64 ((m : Int) - (i : Int)), .int .i64 (m : Int), .int .i64 (i : Int), fv] wr fun e w' => e = .returned (.tuple #[]) ∧ SW enc w0 blk off (E' ++ Y' ++ [] ++ X' ++ S').toArray w') := HS.out E' X' [] Y' S' wr ((m : Int) - (i : Int)) (m : Int) (i : Int) (by omega) (by omega) (by simp; omega) (by omega) (by simpa using hlen) (by simpa using S1.out)
      have HFi : Hid (E' ++ Y' ++ X' ++ S' = F) := hFin
      have hwm : IntKind.i64.wrap ((m : Int) - (i : Int)) = (m : Int) - (i : Int) := by rw [IntKind.wrap_i64]; omega
      clear hX1 hY1 hEm hlen hFin HL S1
      go_wp2_with (go_at_fn 55; refine HCC.out.mono ?_; rintro e w' ⟨rfl, hS2⟩)
      go_end0
      exact ⟨rfl, by rw [← HFi.out]; simpa using hS2⟩
    · by_cases hgt : j < i
      · have hgtI : (j : Int) < (i : Int) := by omega
        have hne : ¬ (i : Int) = (j : Int) := by omega
        have HCC : Hid (Calls P 55 #[.slice (some ⟨blk, off, none⟩) z cap, .int .i64 ((m : Int) - (i : Int)), .int .i64 (m : Int), .int .i64 (j : Int), fv] wr fun e w' => e = .returned (.tuple #[]) ∧ SW enc w0 blk off (E' ++ Y' ++ (X'.drop j) ++ (X'.take j) ++ S').toArray w') := HS.out E' (X'.take j) (X'.drop j) Y' S' wr ((m : Int) - (i : Int)) (m : Int) (j : Int) (by rw [List.length_take]; omega) (by omega) (by simp; omega) (by rw [List.length_take]; omega) (by rw [List.append_assoc E', List.take_append_drop]; exact hlen) (by rw [List.append_assoc E', List.take_append_drop]; exact S1.out)
        have HFi : Hid (X'.length = i ∧ Y'.length = j ∧ E'.length + i = m ∧ (E' ++ X' ++ Y' ++ S').length = z ∧ E' ++ Y' ++ X' ++ S' = F) := HL
        have hwm : IntKind.i64.wrap ((m : Int) - (i : Int)) = (m : Int) - (i : Int) := by rw [IntKind.wrap_i64]; omega
        have hwj : IntKind.i64.wrap ((i : Int) - (j : Int)) = (i : Int) - (j : Int) := by rw [IntKind.wrap_i64]; omega
        clear hX1 hY1 hEm hlen hFin HL S1
        go_wp2_with (go_at_fn 55; refine HCC.out.mono ?_; rintro e w' ⟨rfl, hS2⟩)
        have HS2 : Aside _ := hS2
        clear hS2
        go_roundg (i - j + j)
        case measure => omega
        case rel =>
          obtain ⟨q1, q2, q3, q4, q5⟩ := HFi.out
          refine ⟨i - j, j, E' ++ Y', X'.drop j, X'.take j, S', by congr 1; omega, rfl, by omega, hj, by omega, hjb, Nat.le_refl _, ⟨by rw [List.length_drop]; omega, by rw [List.length_take]; omega, by rw [List.length_append]; omega, ?_, ?_⟩, HS2⟩
          · rw [← q4]; simp; omega
          · rw [← q5]; rw [List.append_assoc (E' ++ Y'), List.take_append_drop]
      · have hgtI : ¬ (j : Int) < (i : Int) := by omega
        have hne : ¬ (i : Int) = (j : Int) := by omega
        have HCC : Hid (Calls P 55 #[.slice (some ⟨blk, off, none⟩) z cap, .int .i64 ((m : Int) - (i : Int)), .int .i64 ((m : Int) + (j : Int) - (i : Int)), .int .i64 (i : Int), fv] wr fun e w' => e = .returned (.tuple #[]) ∧ SW enc w0 blk off (E' ++ (Y'.drop (j - i)) ++ (Y'.take (j - i)) ++ X' ++ S').toArray w') := HS.out E' X' (Y'.take (j - i)) (Y'.drop (j - i)) S' wr ((m : Int) - (i : Int)) ((m : Int) + (j : Int) - (i : Int)) (i : Int) (by rw [List.length_drop]; omega) (by omega) (by simp; omega) (by omega) (by rw [List.append_assoc (E' ++ X'), List.take_append_drop]; exact hlen) (by rw [List.append_assoc (E' ++ X'), List.take_append_drop]; exact S1.out)
        have HFi : Hid (X'.length = i ∧ Y'.length = j ∧ E'.length + i = m ∧ (E' ++ X' ++ Y' ++ S').length = z ∧ E' ++ Y' ++ X' ++ S' = F) := HL
        have hwm : IntKind.i64.wrap ((m : Int) - (i : Int)) = (m : Int) - (i : Int) := by rw [IntKind.wrap_i64]; omega
        have hwj : IntKind.i64.wrap ((j : Int) - (i : Int)) = (j : Int) - (i : Int) := by rw [IntKind.wrap_i64]; omega
        have hwk : IntKind.i64.wrap ((m : Int) + (j : Int)) = (m : Int) + (j : Int) := by rw [IntKind.wrap_i64]; omega
        have hwl : IntKind.i64.wrap ((m : Int) + (j : Int) - (i : Int)) = (m : Int) + (j : Int) - (i : Int) := by rw [IntKind.wrap_i64]; omega
        clear hX1 hY1 hEm hlen hFin HL S1
        go_wp2_with (go_at_fn 55; refine HCC.out.mono ?_; rintro e w' ⟨rfl, hS2⟩)
        have HS2 : Aside _ := hS2
        clear hS2
        go_roundg (i + (j - i))
        case measure => omega
        case rel =>
          obtain ⟨q1, q2, q3, q4, q5⟩ := HFi.out
          refine ⟨i, j - i, E', Y'.drop (j - i), Y'.take (j - i), X' ++ S', rfl, by congr 1; omega, hi, by omega, him, by omega, Nat.le_refl _, ⟨by rw [List.length_drop]; omega, by rw [List.length_take]; omega, q3, ?_, ?_⟩, ?_⟩
          · rw [← q4]; simp; omega
          · rw [← q5]; rw [List.append_assoc E', List.take_append_drop]; simp
          · have := HS2.out
            rw [List.append_assoc] at this
            exact this
end Go.Proofs.YtehamdkjdbaceaaDoor.so

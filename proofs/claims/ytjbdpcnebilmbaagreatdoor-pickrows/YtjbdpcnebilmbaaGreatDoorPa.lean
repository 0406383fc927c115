
/- Package pick: what is wrong with a table and wants. Conditions: as each theorem says. -/
import Derived.Test.YtjbdpcnebilmbaaGreatDoorSq
import Derived.Test.YtjbdpcnebilmbaaGreatDoorSy
namespace Go.Proofs.YtjbdpcnebilmbaaGreatDoor.so
open Go.RowKit Go.Sort Go.Shelf
/-- A want as a value. -/
abbrev WV (c o k n : Int) (s : ByteArray) : Value := .agg #[.int .i64 c, .int .i64 o, .int .i64 k, .int .i64 n, .string s]
set_option maxRecDepth 100000 in
set_option maxHeartbeats 4000000 in
theorem checkWant_any (T : Tb) (p : Option Addr) (c : Nat) (u : Wt) (w : World) (hT : TM w p T) (hS : Snd T) :
    Calls Tryz.prog 48 #[.slice p T.q c, WV u.c u.o u.v.k u.v.n u.v.s] w fun e w' => (∃ x, e = .returned (errV x) ∧ ((x = 0 ∧ wOk T u) ∨ (x = 1 ∧ ¬ wOk T u))) ∧ Bw w w' := by
  have HC : Hid (∀ y wx, TM wx p T → Calls Tryz.prog 72 #[.slice p T.q c, .int .i64 y] wx fun e w' => e = .returned (.bool (hasC T y)) ∧ w' = wx) := fun y wx h => hasColumn_any T p c y wx h hS.few hS.thin
  have HV : Hid (∀ wx, Calls Tryz.prog 73 #[V u.v.k u.v.n u.v.s] wx fun e w' => e = .returned (errV (if u.v.ok = true then 0 else 1)) ∧ Bw wx w') := vcheck_any u.v
  have HT : Hid (TM w p T) := hT
  have HO : Hid (wOk T u ↔ (hasC T u.c = true ∧ u.v.ok = true ∧ 1 ≤ u.o ∧ u.o ≤ 6)) := by show _ ↔ _; unfold wOk; rw [hasC_true]
  clear hT hS
  obtain ⟨q, eq⟩ : ∃ q, T.q = q := ⟨_, rfl⟩
  rw [eq] at HC ⊢
  clear eq
  obtain ⟨b1, hb1⟩ : ∃ b, hasC T u.c = b := ⟨_, rfl⟩
  obtain ⟨b2, hb2⟩ : ∃ b, u.v.ok = b := ⟨_, rfl⟩
  have HH : Hid (∀ wx, TM wx p T → Calls Tryz.prog 72 #[.slice p q c, .int .i64 u.c] wx fun e w' => e = .returned (.bool (hasC T u.c)) ∧ w' = wx) := HC.out u.c
  rw [hb1] at HH HO
  rw [hb2] at HV HO
  clear hb1 hb2 HC
  obtain ⟨P, hP⟩ : ∃ P, wOk T u = P := ⟨_, rfl⟩
  rw [hP] at HO ⊢
  clear hP
  obtain ⟨uc, uo, ⟨uk, un, us⟩⟩ := u
  dsimp only at HV HO HH ⊢
  go_enter Tryz.func48, Tryz.ntmps48
  go_wp2_with fail
  refine (HH.out _ (HT.out.next (Bw.al _ _))).mono ?_
  rintro e w1 ⟨rfl, rfl⟩
  clear HH
  cases b1 with
  | false =>
    go_wp2_with fail
    go_ret
    exact ⟨⟨1, rfl, .inr ⟨rfl, fun h => by have := HO.out.1 h; simp at this⟩⟩, Bw.al _ _⟩
  | true =>
    by_cases h1 : uo < 1
    · have h1' : decide (uo < 1) = true := by simp; exact h1
      go_wp2_with fail
      go_ret
      exact ⟨⟨1, rfl, .inr ⟨rfl, fun h => by have := (HO.out.1 h).2.2.1; omega⟩⟩, Bw.al _ _⟩
    have h1' : decide (uo < 1) = false := by simp; omega
    by_cases h6 : uo > 6
    · have h6' : decide (uo > 6) = true := by simp; exact h6
      go_wp2_with fail
      go_ret
      exact ⟨⟨1, rfl, .inr ⟨rfl, fun h => by have := (HO.out.1 h).2.2.2; omega⟩⟩, Bw.al _ _⟩
    have h6' : decide (uo > 6) = false := by simp; omega
    have HX : Hid (P ↔ b2 = true) := by show _ ↔ _; rw [HO.out]; simp; omega
    clear HO
    cases b2 with
    | true =>
      rw [if_pos rfl, errV_0] at HV
      go_wp2_with fail
      refine (HV.out _).mono ?_
      rintro e w1 ⟨rfl, hb⟩
      clear HV
      have HB : Hid (Bw w w1) := (Bw.al _ _).tr hb
      clear hb
      go_wp2_with fail
      go_ret
      exact ⟨⟨0, rfl, .inl ⟨rfl, HX.out.2 trivial⟩⟩, HB.out⟩
    | false =>
      rw [if_neg (by simp), errV_of (by decide)] at HV
      go_wp2_with fail
      refine (HV.out _).mono ?_
      rintro e w1 ⟨rfl, hb⟩
      clear HV
      have HB : Hid (Bw w w1) := (Bw.al _ _).tr hb
      clear hb
      go_wp2_with fail
      go_ret
      exact ⟨⟨1, rfl, .inr ⟨rfl, fun h => by have := HX.out.1 h; simp at this⟩⟩, HB.out⟩
set_option maxRecDepth 100000 in
set_option maxHeartbeats 4000000 in
theorem pcheck_any (T : Tb) (p : Option Addr) (c : Nat) (p2 : Option Addr) (n c2 : Nat) (f : Nat → Wt) (w : World) (hT : TM w p T) (hW : WM w p2 n f) (hq : T.q ≤ 9223372036854775807) (hn : n ≤ 9223372036854775807) (hL : ∀ i, i < T.q → T.L i ≤ 9223372036854775807) :
    Calls Tryz.prog 29 #[.slice p T.q c, .slice p2 n c2] w fun e w' => (∃ x, e = .returned (errV x) ∧ WF T n f x) ∧ Bw w w' := by
  have HC : Hid (∀ wx, TM wx p T → Calls Tryz.prog 47 #[.slice p T.q c] wx fun e w' => (∃ x, e = .returned (errV x) ∧ TF T x) ∧ Bw wx w') := fun wx h => check_any T p c wx h hq hL
  have HWD : Hid (Snd T → ∀ (u : Wt) wx, TM wx p T → Calls Tryz.prog 48 #[.slice p T.q c, WV u.c u.o u.v.k u.v.n u.v.s] wx fun e w' => (∃ x, e = .returned (errV x) ∧ ((x = 0 ∧ wOk T u) ∨ (x = 1 ∧ ¬ wOk T u))) ∧ Bw wx w') := fun hs u wx h => checkWant_any T p c u wx h hs
  have HT : Hid (TM w p T) := hT
  have HI : Hid (WM w p2 n f) := hW
  clear hT hW hL
  obtain ⟨q, eq⟩ : ∃ q, T.q = q := ⟨_, rfl⟩
  rw [eq] at HC HWD hq ⊢
  clear eq
  go_enter Tryz.func29, Tryz.ntmps29
  have HW := HC.out w HT.out
  go_wp2_with fail
  refine HW.mono ?_
  clear HC HW
  rintro e w1 ⟨⟨x, rfl, hx⟩, hb⟩
  have HX : Hid (TF T x) := hx
  have HB : Hid (Bw w w1) := hb
  clear hx hb
  by_cases hx0 : x = 0
  · subst hx0
    rw [errV_0]
    by_cases h12 : 12 < (n : Int)
    · go_wp2_with fail
      go_ret
      exact ⟨⟨4, rfl, .inr ⟨HX.out, .inl ⟨rfl, by omega⟩⟩⟩, HB.out⟩
    have hn12 : n ≤ 12 := by omega
    have HWX : Hid (∀ (u : Wt) wx, TM wx p T → Calls Tryz.prog 48 #[.slice p q c, WV u.c u.o u.v.k u.v.n u.v.s] wx fun e w' => (∃ x, e = .returned (errV x) ∧ ((x = 0 ∧ wOk T u) ∨ (x = 1 ∧ ¬ wOk T u))) ∧ Bw wx w') := fun u wx h => HWD.out HX.out.zero u wx h
    clear HWD
    go_wp2_with fail
    go_loopw [20] (fun i wr => ∃ j : Nat, i = .int .i64 j ∧ j ≤ n ∧ Hid (Bw w wr) ∧ Hid (∀ i, i < j → wOk T (f i))) (fun i _ => n - (intOf i).toNat)
    case atStart => exact ⟨0, rfl, Nat.zero_le _, HB, fun i hi => absurd hi (Nat.not_lt_zero _)⟩
    case round =>
      obtain ⟨j, rfl, hj, HBR, HD⟩ := hrel
      by_cases hlt : j < n
      · have hlt' : (j : Int) < (n : Int) := by omega
        have hj0 : (0 : Int) ≤ (j : Int) := by omega
        rcases HI.out.next HBR.out with h | ⟨g, o, rfl, hg, h3⟩
        · omega
        obtain ⟨y0, y1, y2, y3, y4⟩ := h3 j hlt
        clear h3 hg
        have HY : Hid (∀ wx, TM wx p T → Calls Tryz.prog 48 #[.slice p q c, WV (f j).c (f j).o (f j).v.k (f j).v.n (f j).v.s] wx fun e w' => (∃ x, e = .returned (errV x) ∧ ((x = 0 ∧ wOk T (f j)) ∨ (x = 1 ∧ ¬ wOk T (f j)))) ∧ Bw wx w') := HWX.out (f j)
        obtain ⟨u, hu⟩ : ∃ u, f j = u := ⟨_, rfl⟩
        have HU : Hid (f j = u) := hu
        rw [hu] at y0 y1 y2 y3 y4 HY
        clear hu
        have HTX : Hid (∀ wx, Bw wr wx → TM wx p T) := fun wx h => HT.out.next (HBR.out.tr h)
        obtain ⟨OK, hOK⟩ : ∃ P, wOk T u = P := ⟨_, rfl⟩
        have HOK : Hid (wOk T (f j) = OK) := by rw [HU.out]; exact hOK
        rw [hOK] at HY
        clear hOK
        obtain ⟨uc, uo, ⟨uk, un, us⟩⟩ := u
        dsimp only at y0 y1 y2 y3 y4 HY
        go_wp2_with fail
        refine (HY.out _ (HTX.out _ (Bw.al _ _))).mono ?_
        clear HY
        rintro e w2 ⟨⟨x, rfl, hx⟩, hb⟩
        have HB2 : Hid (Bw w w2) := HBR.out.tr ((Bw.al _ _).tr hb)
        clear hb y0 y1 y2 y3 y4
        rcases hx with ⟨rfl, hx⟩ | ⟨rfl, hx⟩
        · have HO : Hid (wOk T (f j)) := by rw [HOK.out]; exact hx
          clear hx
          rw [errV_0]
          go_wp2_with fail
          exact ⟨⟨j + 1, by simp, hlt, HB2, fun i hi => by
            by_cases e : i = j
            · subst e; exact HO.out
            · exact HD.out i (by omega)⟩, by simp [intOf]; omega⟩
        · have HO : Hid (¬ wOk T (f j)) := by rw [HOK.out]; exact hx
          clear hx
          rw [errV_of (by decide)]
          go_wp2_with fail
          go_ret
          exact ⟨⟨1, rfl, .inr ⟨HX.out, .inr (.inl ⟨rfl, hn12, j, hlt, HO.out⟩)⟩⟩, HB2.out⟩
      · have hj2 : ¬ (j : Int) < (n : Int) := by omega
        go_wp2_with fail
        go_ret
        exact ⟨⟨0, rfl, .inr ⟨HX.out, .inr (.inr ⟨rfl, hn12, fun i hi => HD.out i (by omega)⟩)⟩⟩, HBR.out⟩
  · rw [errV_of hx0]
    go_wp2_with fail
    go_ret
    exact ⟨⟨x, by rw [errV_of hx0]; rfl, .inl ⟨hx0, HX.out⟩⟩, HB.out⟩
end Go.Proofs.YtjbdpcnebilmbaaGreatDoor.so

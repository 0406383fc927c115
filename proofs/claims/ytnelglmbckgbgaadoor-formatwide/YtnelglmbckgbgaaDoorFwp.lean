
/- The program's Wide, walked at any text. Conditions: as each theorem says. -/
import Derived.Test.YtnelglmbckgbgaaDoorFwn
import Derived.Test.YtnelglmbckgbgaaDoorShf
import Derived.Test.YtnelglmbckgbgaaDoorFwi
namespace Go.Proofs.YtnelglmbckgbgaaDoor.fw
open Go.RowKit Go.Sort
theorem repeat_32 (c : Nat) : Lib.repeatL [32] c = List.replicate c 32 := by
  induction c with
  | zero => rfl
  | succ c ih => simp only [Lib.repeatL] at ih ⊢; simp [List.replicate_succ, ih]
theorem rep_any (z : Int) (w : World) (h0 : 0 ≤ z) (h1 : z ≤ 1000) :
    Calls Tryd.prog 14 #[.string ⟨#[32]⟩, .int .i64 z] w fun e w' => e = .returned (.string (txt (List.replicate z.toNat 32))) ∧ Bw w w' := by
  have h := Tryd.strings_Repeat ⟨#[32]⟩ z.toNat w (by omega) (by show 1 * _ ≤ _; omega)
  rw [show ((z.toNat : Nat) : Int) = z by omega] at h
  refine h.mono ?_
  rintro e w' ⟨rfl, hb⟩
  refine ⟨?_, hb⟩
  have e1 : Lib.repeatL (⟨#[32]⟩ : ByteArray).data.toList z.toNat = List.replicate z.toNat 32 := repeat_32 _
  rw [e1]
  rfl
theorem wide_is (s : List UInt8) (wide : Nat) (side : Int) : List.replicate (lft s.length wide side) 32 ++ s.take (min s.length wide) ++ List.replicate (wide - s.length - lft s.length wide side) 32 = wideL s wide side := by
  unfold wideL
  have hl : lft s.length wide side ≤ wide - s.length := by
    unfold lft
    split
    · omega
    · split <;> omega
  generalize lft s.length wide side = a at *
  rcases Nat.le_total s.length wide with h | h
  · rw [Nat.min_eq_left h, List.take_length, List.take_append, List.take_of_length_le (by simp; omega), List.take_replicate]
    congr 2
    simp
    omega
  · have h0 : wide - s.length = 0 := by omega
    have ha : a = 0 := by omega
    subst ha
    rw [Nat.min_eq_right h, h0]
    simp [List.take_append, h0]
theorem wi_no {wide side : Int} (s : ByteArray) (h : wiB wide side = false) : wiE wide side = 1 ∧ wiT s wide side = ⟨#[]⟩ := by unfold wiE wiT; rw [h]; exact ⟨rfl, rfl⟩
/-- What the last region reads. -/
abbrev MW (w : World) (g k : Nat) (A : Int) (wx : World) : Prop := wx.cell? ⟨g, k, none⟩ = some (.int .i64 A) ∧ Bw w wx
theorem mw_bw {w : World} {g k : Nat} {A : Int} {wx : World} (h : MW w g k A wx) : Bw w wx := h.2
set_option maxRecDepth 100000 in
set_option maxHeartbeats 4000000 in
theorem wide_any (s : ByteArray) (wide side : Int) (w : World) (hs : s.size ≤ 140737488351232) :
    Calls Tryd.prog 6 #[.string s, .int .i64 wide, .int .i64 side] w fun e w' => e = .returned (.tuple #[.string (wiT s wide side), errV (wiE wide side)]) ∧ Bw w w' := by
  have HSL : Hid (s.toList.length = s.size) := size_list s
  by_cases h1 : wide < 0
  · have hB : wiB wide side = false := by unfold wiB; rw [decide_eq_false (by omega : ¬ 0 ≤ wide)]; rfl
    rw [(wi_no s hB).1, (wi_no s hB).2, errV_one]
    clear hB
    go_enter Tryd.func6, Tryd.ntmps6
    go_wp2_with fail
    exact bodyPost_ret (v := .tuple #[_, _]) (by simp [results, Tryd.results6, go_sem]) rfl ⟨rfl, Below.refl _ _⟩
  · by_cases h2 : wide > 200
    · have hB : wiB wide side = false := by unfold wiB; rw [decide_eq_false (by omega : ¬ wide ≤ 200)]; simp
      rw [(wi_no s hB).1, (wi_no s hB).2, errV_one]
      clear hB
      go_enter Tryd.func6, Tryd.ntmps6
      go_wp2_with fail
      exact bodyPost_ret (v := .tuple #[_, _]) (by simp [results, Tryd.results6, go_sem]) rfl ⟨rfl, Below.refl _ _⟩
    · obtain ⟨wd, rfl⟩ : ∃ wd : Nat, wide = (wd : Int) := ⟨wide.toNat, by omega⟩
      have h1' : ¬ (wd : Int) < 0 := h1
      have h2' : ¬ (wd : Int) > 200 := h2
      have hmax : max 0 ((wd : Int) - (s.size : Int)) = ((wd - s.size : Nat) : Int) := by omega
      have hmin : min (s.size : Int) (wd : Int) = ((min s.size wd : Nat) : Int) := by omega
      by_cases h3 : side < 0
      · have hB : wiB wd side = false := by unfold wiB; rw [decide_eq_false (by omega : ¬ 0 ≤ side)]; simp
        rw [(wi_no s hB).1, (wi_no s hB).2, errV_one]
        clear hB
        go_enter Tryd.func6, Tryd.ntmps6
        go_wp2_with fail
        exact bodyPost_ret (v := .tuple #[_, _]) (by simp [results, Tryd.results6, go_sem]) rfl ⟨rfl, Bw.al _ _⟩
      · by_cases h4 : side ≥ 3
        · have hB : wiB wd side = false := by unfold wiB; rw [decide_eq_false (by omega : ¬ side ≤ 2)]; simp
          rw [(wi_no s hB).1, (wi_no s hB).2, errV_one]
          clear hB
          go_enter Tryd.func6, Tryd.ntmps6
          go_wp2_with fail
          exact bodyPost_ret (v := .tuple #[_, _]) (by simp [results, Tryd.results6, go_sem]) rfl ⟨rfl, Bw.al _ _⟩
        · obtain ⟨k, rfl⟩ : ∃ k : Nat, side = (k : Int) := ⟨side.toNat, by omega⟩
          have hk3 : k < 3 := by omega
          obtain ⟨A, hA⟩ : ∃ A, lft s.size wd (k : Int) = A := ⟨_, rfl⟩
          obtain ⟨B, hB⟩ : ∃ B, wd - s.size = B := ⟨_, rfl⟩
          have hAB : A ≤ B := by
            rw [← hA, ← hB]
            unfold lft
            split
            · omega
            · split <;> omega
          have hA3 : (k = 0 ∧ A = 0) ∨ (k = 1 ∧ A = B / 2) ∨ (k = 2 ∧ A = B) := by
            have hk' : k = 0 ∨ k = 1 ∨ k = 2 := by omega
            rw [← hA, ← hB]
            rcases hk' with rfl | rfl | rfl
            · exact .inl ⟨rfl, by simp [lft]⟩
            · exact .inr (.inl ⟨rfl, by simp [lft]⟩)
            · exact .inr (.inr ⟨rfl, by simp [lft]⟩)
          have hYes : wiB (wd : Int) (k : Int) = true := by
            unfold wiB
            rw [decide_eq_true (by omega : (0 : Int) ≤ (wd : Int)), decide_eq_true (by omega : (wd : Int) ≤ 200), decide_eq_true (by omega : (0 : Int) ≤ (k : Int)), decide_eq_true (by omega : (k : Int) ≤ 2)]
            rfl
          have e1 : wiE (wd : Int) (k : Int) = 0 := by unfold wiE; rw [hYes]; rfl
          have e2 : wiT s (wd : Int) (k : Int) = txt (List.replicate A 32) ++ s.extract 0 (min s.size wd) ++ txt (List.replicate (B - A) 32) := by
            unfold wiT
            rw [hYes, ext_txt]
            have := wide_is s.toList wd (k : Int)
            rw [HSL.out, hA, hB] at this
            rw [if_pos rfl, show ((wd : Int)).toNat = wd by omega, ← this]
            unfold txt
            apply ByteArray.ext
            simp
          rw [e1, e2, errV_zero]
          have hsz : (txt (List.replicate A 32)).size = A := by rw [txt_size]; simp
          have hsz2 : (txt (List.replicate (B - A) 32)).size = B - A := by rw [txt_size]; simp
          have HR1 : Hid (∀ wx, Calls Tryd.prog 14 #[.string ⟨#[32]⟩, .int .i64 (A : Int)] wx fun e w' => e = .returned (.string (txt (List.replicate A 32))) ∧ Bw wx w') := fun wx => by
            have := rep_any (A : Int) wx (by omega) (by omega)
            rwa [show ((A : Int)).toNat = A by omega] at this
          have HR2 : Hid (∀ wx, Calls Tryd.prog 14 #[.string ⟨#[32]⟩, .int .i64 (IntKind.i64.wrap ((B : Int) - (A : Int)))] wx fun e w' => e = .returned (.string (txt (List.replicate (B - A) 32))) ∧ Bw wx w') := fun wx => by
            have := rep_any ((B : Int) - (A : Int)) wx (by omega) (by omega)
            rw [show ((B : Int) - (A : Int)).toNat = B - A by omega] at this
            rwa [show IntKind.i64.wrap ((B : Int) - (A : Int)) = (B : Int) - (A : Int) from Go.IntWalk.i64_in _ ⟨by omega, by omega⟩]
          rw [hB] at hmax
          generalize txt (List.replicate A 32) = TA at *
          generalize txt (List.replicate (B - A) 32) = TB at *
          have hmn : min s.size wd ≤ 200 := by omega
          have hmn2 : min s.size wd ≤ s.size := by omega
          have hxs : (s.extract 0 (min s.size wd)).size = min s.size wd := by rw [ByteArray.size_extract]; omega
          have sof : Hid (∀ wx, Bw (w.alloc (.cells #[.int .i64 0, .int .i64 ((B : Int) / 2), .int .i64 (B : Int)] 41)) wx → MW (w.alloc (.cells #[.int .i64 0, .int .i64 ((B : Int) / 2), .int .i64 (B : Int)] 41)) w.heap.size k (A : Int) wx) := fun wx hb => by
            refine ⟨?_, hb⟩
            have hbl := hb.block w.heap.size (by simp)
            rw [heap_alloc_new] at hbl
            simp only [World.cell?, hbl]
            rcases hA3 with ⟨rfl, rfl⟩ | ⟨rfl, rfl⟩ | ⟨rfl, rfl⟩ <;> simp
          have hB200 : B ≤ 200 := by omega
          generalize min s.size wd = mn at *
          have hk0 : (0 : Int) ≤ (k : Int) := by omega
          obtain ⟨R, hR⟩ : ∃ R, TA ++ s.extract 0 mn ++ TB = R := ⟨_, rfl⟩
          have HRR : Hid (TA ++ s.extract 0 mn ++ TB = R) := hR
          rw [hR]
          clear hR
          have hk3' : (k : Int) < 3 := by omega
          clear e1 e2 hYes hA hB hA3 HSL
          go_enter Tryd.func6, Tryd.ntmps6
          go_upto_region 8 with fail
          have HW1 : Hid (Bw w (w.alloc (.cells #[.int .i64 0, .int .i64 ((B : Int) / 2), .int .i64 (B : Int)] 41))) := Bw.al _ _
          generalize (w.alloc (.cells #[.int .i64 0, .int .i64 ((B : Int) / 2), .int .i64 (B : Int)] 41)) = w1 at *
          have h0d := sof.out w1.drew ((Below.refl _ _).drew)
          obtain ⟨y0, -⟩ := sof.out w1 (Below.refl _ _)
          generalize s.extract 0 mn = SX at *
          have hz1 : ¬ 9223372036854775807 < TA.size + SX.size := by omega
          have hz2 : ¬ 9223372036854775807 < TA.size + SX.size + TB.size := by omega
          clear hsz hsz2 hxs
          obtain ⟨g, hg⟩ : ∃ g, w.heap.size = g := ⟨_, rfl⟩
          rw [hg] at h0d y0 sof ⊢
          go_region_held3 (fun wx => MW w1 g k (A : Int) wx) (first | exact h0d | assumption | exact sof.out _ ((mw_bw (by assumption)).tr (by assumption))) (first | (go_at_call 14; (first | (with_reducible refine (HR1.out _).mono ?_; rintro e w3 ⟨rfl, q3⟩) | (with_reducible refine (HR2.out _).mono ?_; rintro e w4 ⟨rfl, q4⟩))))
          have HB4 : Hid (Bw w w4) := (HW1.out.tr (mw_bw h0d)).tr (q3.tr q4)
          clear h0d y0 sof HR1 HR2 q3 q4
          go_wp2_with fail
          exact bodyPost_ret (v := .tuple #[.string (TA ++ SX ++ TB), .nilIface]) (by simp [results, Tryd.results6, go_sem]) rfl ⟨by rw [HRR.out], HB4.out⟩
end Go.Proofs.YtnelglmbckgbgaaDoor.fw

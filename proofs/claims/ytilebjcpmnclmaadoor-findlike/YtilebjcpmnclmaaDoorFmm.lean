
/- The law FindLike, whole, by what sccsame.Error answers. Conditions: as the theorem says. -/
import Derived.Test.YtilebjcpmnclmaaDoorFml
namespace Go.Proofs.YtilebjcpmnclmaaDoor.fw
open Go.RowKit Go.Sort
def errV (e : Int) : Value := if e = 0 then .nilIface else .iface 35 (.int .i64 e)
/-- The fault of a text and a mask. -/
def lkE (s m : ByteArray) : Int := if 200 < s.size ∨ 200 < m.size then 4 else liE m.toList
def lkB (s m : ByteArray) : Bool := if 200 < s.size ∨ 200 < m.size then false else liB s.toList m.toList
theorem like_any (s m : ByteArray) (w : World) :
    Calls Tryd.prog 6 #[.string s, .string m] w fun e w' => e = .returned (.tuple #[.bool (lkB s m), errV (lkE s m)]) ∧ Bw w w' := by
  by_cases h : 200 < s.size ∨ 200 < m.size
  · refine (like_out s m w h).mono ?_
    rintro e w' ⟨rfl, hb⟩
    refine ⟨?_, hb⟩
    unfold lkB lkE
    rw [if_pos h, if_pos h]
    rfl
  · refine (like_in s m w (by omega) (by omega)).mono ?_
    have e1 := (mk_rd m.toList).1
    unfold rdO at e1
    unfold lkB lkE
    rw [if_neg h, if_neg h]
    unfold liB liE
    rintro e w' (⟨h1, rfl, h3⟩ | ⟨h1, rfl, h3⟩)
    · rw [h1, if_pos rfl] at e1
      rw [e1]
      exact ⟨rfl, h3⟩
    · rw [h1] at e1
      have e2 : mkL m.toList = some (rdL false m.toList).1 := by simpa using e1
      rw [e2]
      exact ⟨rfl, h3⟩
set_option maxRecDepth 1000000 in
set_option maxHeartbeats 8000000 in
theorem findLike_any (s m : ByteArray) (w : World)
    (HE : Hid (∀ wx e, Bw w wx → Calls Tryd.prog 7 #[errV e, .int .i64 e] wx fun r w' => r = .returned (.bool true) ∧ Bw wx w')) :
    Calls Tryd.prog 3 #[.string s, .string m] w fun e w' => e = .returned (.bool true) ∧ Bw w w' := by
  have HL := like_any s m
  by_cases h1 : 200 < s.size ∨ 200 < m.size
  · unfold lkB lkE at HL
    rw [if_pos h1, if_pos h1] at HL
    have HL2 : Hid (∀ wx, Calls Tryd.prog 6 #[.string s, .string m] wx fun e w' => e = .returned (.tuple #[.bool false, errV 4]) ∧ Bw wx w') := HL
    clear HL
    have HB1 : Hid (Bw w w) := Below.refl _ _
    by_cases h2 : 200 < s.size
    · have h3 : (s.size : Int) > 200 := by omega
      clear h1 h2
      go_enter Tryd.func3, Tryd.ntmps3
      go_wp2_with fail
      refine (HL2.out _).mono ?_
      rintro e w2 ⟨rfl, hb2⟩
      have HB2 : Hid (Bw w w2) := HB1.out.tr hb2
      clear hb2 HB1
      have HE2 : Hid (Calls Tryd.prog 7 #[errV 4, .int .i64 4] w2 fun r w' => r = .returned (.bool true) ∧ Bw w2 w') := HE.out w2 4 HB2.out
      generalize errV 4 = ev at *
      dsimp only
      go_wp2_with fail
      refine HE2.out.mono ?_
      rintro e w3 ⟨rfl, hb3⟩
      have HB3 : Hid (Bw w w3) := HB2.out.tr hb3
      clear hb3 HB2
      dsimp only
      go_wp2_with fail
      go_ret
      exact ⟨rfl, HB3⟩
    · have h3 : ¬ (s.size : Int) > 200 := by omega
      have h4 : (m.size : Int) > 200 := by omega
      clear h1 h2
      go_enter Tryd.func3, Tryd.ntmps3
      go_wp2_with fail
      refine (HL2.out _).mono ?_
      rintro e w2 ⟨rfl, hb2⟩
      have HB2 : Hid (Bw w w2) := HB1.out.tr hb2
      clear hb2 HB1
      have HE2 : Hid (Calls Tryd.prog 7 #[errV 4, .int .i64 4] w2 fun r w' => r = .returned (.bool true) ∧ Bw w2 w') := HE.out w2 4 HB2.out
      generalize errV 4 = ev at *
      dsimp only
      go_wp2_with fail
      refine HE2.out.mono ?_
      rintro e w3 ⟨rfl, hb3⟩
      have HB3 : Hid (Bw w w3) := HB2.out.tr hb3
      clear hb3 HB2
      dsimp only
      go_wp2_with fail
      go_ret
      exact ⟨rfl, HB3⟩
  · unfold lkB lkE at HL
    rw [if_neg h1, if_neg h1] at HL
    have h3 : ¬ (s.size : Int) > 200 := by omega
    have h4 : ¬ (m.size : Int) > 200 := by omega
    have hR := rmasks_any m w (by omega)
    have hs : s.size ≤ 200 := by omega
    clear h1
    go_enter Tryd.func3, Tryd.ntmps3
    go_wp2_with fail
    refine hR.mono ?_
    clear hR
    rintro e w1 (⟨hk, rfl, hb1⟩ | ⟨X, v, hk, hX, rfl, hv⟩)
    · unfold liB liE at HL
      rw [hk] at HL
      have HL2 : Hid (∀ wx, Calls Tryd.prog 6 #[.string s, .string m] wx fun e w' => e = .returned (.tuple #[.bool false, errV 2]) ∧ Bw wx w') := HL
      have HB1 : Hid (Bw w w1) := hb1
      clear HL hk hb1
      dsimp only
      go_wp2_with fail
      refine (HL2.out _).mono ?_
      rintro e w2 ⟨rfl, hb2⟩
      have HB2 : Hid (Bw w w2) := HB1.out.tr hb2
      clear hb2 HB1
      have HE2 : Hid (Calls Tryd.prog 7 #[errV 2, .int .i64 2] w2 fun r w' => r = .returned (.bool true) ∧ Bw w2 w') := HE.out w2 2 HB2.out
      generalize errV 2 = ev at *
      dsimp only
      go_wp2_with fail
      refine HE2.out.mono ?_
      rintro e w3 ⟨rfl, hb3⟩
      have HB3 : Hid (Bw w w3) := HB2.out.tr hb3
      clear hb3 HB2
      dsimp only
      go_wp2_with fail
      go_ret
      exact ⟨rfl, HB3⟩
    · unfold liB liE at HL
      rw [hk] at HL
      have HL2 : Hid (∀ wx, Calls Tryd.prog 6 #[.string s, .string m] wx fun e w' => e = .returned (.tuple #[.bool (lkL X s.toList), errV 0]) ∧ Bw wx w') := HL
      have HK := rlike_any s X v w w1 hv hs hX
      have HB0 : Hid (Bw w w1) := hv.below
      clear HL hk hv hX
      generalize lkL X s.toList = bb at *
      dsimp only
      go_wp2_with fail
      refine HK.mono ?_
      rintro e w4 ⟨rfl, hb4⟩
      have HB1 : Hid (Bw w w4) := HB0.out.tr hb4
      clear HB0 hb4 HK
      dsimp only
      go_wp2_with fail
      refine (HL2.out _).mono ?_
      rintro e w2 ⟨rfl, hb2⟩
      have HB2 : Hid (Bw w w2) := HB1.out.tr hb2
      clear hb2 HB1
      have HE2 : Hid (Calls Tryd.prog 7 #[errV 0, .int .i64 0] w2 fun r w' => r = .returned (.bool true) ∧ Bw w2 w') := HE.out w2 0 HB2.out
      generalize errV 0 = ev at *
      dsimp only
      go_wp2_with fail
      refine HE2.out.mono ?_
      rintro e w3 ⟨rfl, hb3⟩
      have HB3 : Hid (Bw w w3) := HB2.out.tr hb3
      clear hb3 HB2
      dsimp only
      go_wp2_with fail
      go_ret
      exact ⟨rfl, HB3⟩
end Go.Proofs.YtilebjcpmnclmaaDoor.fw

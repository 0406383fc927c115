
/- The program's readCode and Check, walked at any text. Conditions: as each theorem says. -/
import Derived.Test.YtnelglmbckgbgaaGreatDoorFxa
import Derived.Test.YtnelglmbckgbgaaGreatDoorFwd
import Derived.WalkSmall
namespace Go.Proofs.YtnelglmbckgbgaaGreatDoor.fw
open Go.RowKit Go.Sort
/-- What a code says of numbers. -/
structure LK where
  ahead : List UInt8
  three : Bool
  digits : Nat
  places : Nat
  behind : List UInt8
def ccL (l : List UInt8) : Bool × List UInt8 := if Lib.hasPrefix l [35, 44] = true then (true, l.drop 2) else (false, l)
def rcL (l : List UInt8) : Option LK :=
  if 40 < l.length then none
  else if (czL (ccL (cqL l).2).2).1 = 0 ∨ (cbL (cpL (czL (ccL (cqL l).2).2).2).2).2 ≠ [] then none
  else some ⟨(cqL l).1, (ccL (cqL l).2).1, (czL (ccL (cqL l).2).2).1, (cpL (czL (ccL (cqL l).2).2).2).1, (cbL (cpL (czL (ccL (cqL l).2).2).2).2).1⟩
theorem tail_le (l : List UInt8) : l.tail.length ≤ l.length := by simp
theorem splitQ_le (l : List UInt8) (p : List UInt8 × List UInt8) (h : splitQ l = some p) : p.1.length + p.2.length ≤ l.length := by
  obtain ⟨h1, -, -⟩ := splitQ_some l p.1 p.2 h
  have := congrArg List.length h1
  simp at this
  omega
theorem cqL_le (l : List UInt8) : (cqL l).1.length + (cqL l).2.length ≤ l.length := by
  unfold cqL
  split
  · cases h : splitQ l.tail with
    | none => simp
    | some p => have := splitQ_le _ _ h; have := tail_le l; simp only [Option.getD_some]; omega
  · simp
theorem ccL_le (l : List UInt8) : (ccL l).2.length ≤ l.length := by
  unfold ccL
  split
  · simp
  · simp
theorem czL_le (l : List UInt8) : (czL l).1 + (czL l).2.length = l.length := by
  have := dropW_le l (· == 48)
  unfold czL
  show l.length - (l.dropWhile (· == 48)).length + (l.dropWhile (· == 48)).length = _
  omega
theorem cpL_le (l : List UInt8) : (cpL l).2.length ≤ l.length ∧ (cpL l).1 ≤ 6 := by
  unfold cpL
  split
  · split
    · rename_i h; have := czL_le l.tail; have := tail_le l; exact ⟨by omega, h.2⟩
    · exact ⟨by simp, by simp⟩
  · exact ⟨by simp, by simp⟩
theorem cbL_le (l : List UInt8) : (cbL l).1.length ≤ l.length + 1 := by
  unfold cbL
  split
  · simp
  · have := cqL_le l; omega
/-- What is found is small. -/
theorem rcL_le {l : List UInt8} {k : LK} (h : rcL l = some k) : k.ahead.length ≤ 40 ∧ k.digits ≤ 40 ∧ k.places ≤ 6 ∧ k.behind.length ≤ 41 ∧ 0 < k.digits := by
  unfold rcL at h
  split at h
  · cases h
  · split at h
    · cases h
    · rename_i h40 h2
      cases h
      have h1 := cqL_le l
      have h3 := ccL_le (cqL l).2
      have h4 := czL_le (ccL (cqL l).2).2
      have h5 := cpL_le (czL (ccL (cqL l).2).2).2
      have h6 := cbL_le (cpL (czL (ccL (cqL l).2).2).2).2
      have h7 : (czL (ccL (cqL l).2).2).1 ≠ 0 := fun x => h2 (.inl x)
      refine ⟨?_, ?_, h5.2, ?_, ?_⟩
      · show (cqL l).1.length ≤ 40; omega
      · show (czL (ccL (cqL l).2).2).1 ≤ 40; omega
      · show (cbL (cpL (czL (ccL (cqL l).2).2).2).2).1.length ≤ 41; omega
      · show 0 < (czL (ccL (cqL l).2).2).1; omega
theorem Bw.set {w wx : World} (h : Bw w wx) (b o : Nat) (u : Value) (hb : w.heap.size ≤ b) : Bw w (wx.setCell ⟨b, o, none⟩ u) := Below.setCell h hb u
theorem Bw.alc {w wx : World} (h : Bw w wx) (o : Obj) : Bw w (wx.alloc o) := h.tr (Bw.al _ _)
theorem Bw.dr {w wx : World} (h : Bw w wx) (n : Nat) : Bw w (wx.drewN n) := h.tr (drewN_bw' _ _)
theorem Bw.rf (w : World) : Bw w w := Below.refl _ _
def lkV (k : LK) : Value := .agg #[.string (txt k.ahead), .bool k.three, .int .i64 (k.digits : Int), .int .i64 (k.places : Int), .string (txt k.behind)]
def lk0 : LK := ⟨[], false, 0, 0, []⟩
/-- What readCode answers. -/
def rcV (o : Option LK) : Value := match o with
  | some k => .tuple #[lkV k, .nilIface]
  | none => .tuple #[lkV lk0, .iface 50 (.int .i64 2)]
theorem cc_any (l : List UInt8) (w : World) : Calls Tryz.prog 26 #[.string (txt l), .string ⟨#[35, 44]⟩] w fun e w' => e = .returned (.tuple #[.string (txt (ccL l).2), .bool (ccL l).1]) ∧ w' = w := by
  cases h : Lib.hasPrefix l [35, 44] with
  | true =>
    have h1 := cp_yes [35, 44] (l.drop 2) w
    have e : [35, 44] ++ l.drop 2 = l := by
      unfold Lib.hasPrefix at h
      rw [List.isPrefixOf_iff_prefix] at h
      obtain ⟨t, rfl⟩ := h
      rfl
    rw [e] at h1
    have e2 : ccL l = (true, l.drop 2) := by unfold ccL; rw [if_pos h]
    rw [e2]
    exact h1
  | false =>
    have e2 : ccL l = (false, l) := by unfold ccL; rw [h]; rfl
    rw [e2]
    exact cp_no [35, 44] l h w
set_option maxRecDepth 100000 in
set_option maxHeartbeats 4000000 in
theorem readCode_any (s : ByteArray) (w : World) : Calls Tryz.prog 17 #[.string s] w fun e w' => e = .returned (rcV (rcL s.toList)) ∧ Bw w w' := by
  have hss : txt s.toList = s := by unfold txt; rw [ByteArray.toList_eq]
  have hsl := size_list s
  by_cases h40 : 40 < s.size
  · have e1 : rcL s.toList = none := by unfold rcL; rw [if_pos (by omega)]
    rw [e1]
    have h40' : (s.size : Int) > 40 := by omega
    show Calls _ _ _ _ fun e w' => e = .returned (.tuple #[.agg #[.string ⟨#[]⟩, .bool false, .int .i64 0, .int .i64 0, .string ⟨#[]⟩], .iface 50 (.int .i64 2)]) ∧ Bw w w'
    go_enter Tryz.func17, Tryz.ntmps17
    go_wp2_with fail
    exact bodyPost_ret (v := .tuple #[.agg #[.string ⟨#[]⟩, .bool false, .int .i64 0, .int .i64 0, .string ⟨#[]⟩], .iface 50 (.int .i64 2)]) (by simp [results, Tryz.results17, go_sem]) rfl ⟨rfl, Bw.al _ _⟩
  · have h40' : ¬ (s.size : Int) > 40 := by omega
    have h1 := cutQuoted_any s.toList (by omega)
    rw [hss] at h1
    have h2 := cc_any (cqL s.toList).2
    have h3 := cutZeros_any (ccL (cqL s.toList).2).2 (by have := cqL_le s.toList; have := ccL_le (cqL s.toList).2; omega)
    have h4 := cutPlaces_any (czL (ccL (cqL s.toList).2).2).2 (by have := cqL_le s.toList; have := ccL_le (cqL s.toList).2; have := czL_le (ccL (cqL s.toList).2).2; omega)
    have h5 := cutBehind_any (cpL (czL (ccL (cqL s.toList).2).2).2).2 (by have := cqL_le s.toList; have := ccL_le (cqL s.toList).2; have := czL_le (ccL (cqL s.toList).2).2; have := cpL_le (czL (ccL (cqL s.toList).2).2).2; omega)
    have HO : Hid (rcL s.toList = if (czL (ccL (cqL s.toList).2).2).1 = 0 ∨ (cbL (cpL (czL (ccL (cqL s.toList).2).2).2).2).2 ≠ [] then none
  else some ⟨(cqL s.toList).1, (ccL (cqL s.toList).2).1, (czL (ccL (cqL s.toList).2).2).1, (cpL (czL (ccL (cqL s.toList).2).2).2).1, (cbL (cpL (czL (ccL (cqL s.toList).2).2).2).2).1⟩) := by show _ = _; unfold rcL; rw [if_neg (by omega)]
    generalize rcL s.toList = O at *
    generalize cqL s.toList = q at *
    generalize ccL q.2 = c at *
    generalize czL c.2 = z at *
    generalize cpL z.2 = p at *
    generalize cbL p.2 = b at *
    by_cases hz : z.1 = 0
    · have hO : O = none := by rw [HO.out, if_pos (.inl hz)]
      have hz' : ((z.1 : Int) == 0) = true := by simp; exact hz
      subst hO
      show Calls _ _ _ _ fun e w' => e = .returned (.tuple #[.agg #[.string ⟨#[]⟩, .bool false, .int .i64 0, .int .i64 0, .string ⟨#[]⟩], .iface 50 (.int .i64 2)]) ∧ Bw w w'
      clear HO
      go_enter Tryz.func17, Tryz.ntmps17
      go_wp2_with fail
      refine (h1 _).mono ?_
      rintro e w1 ⟨rfl, n1, rfl⟩
      go_wp2_with fail
      refine (h2 _).mono ?_
      rintro e w2 ⟨rfl, rfl⟩
      go_wp2_with fail
      refine (h3 _).mono ?_
      rintro e w3 ⟨rfl, n3, rfl⟩
      go_wp2_with fail
      refine (h4 _).mono ?_
      rintro e w4 ⟨rfl, n4, rfl⟩
      go_wp2_with fail
      refine (h5 _).mono ?_
      rintro e w5 ⟨rfl, n5, rfl⟩
      go_wp2_with fail
      exact bodyPost_ret (v := .tuple #[.agg #[.string ⟨#[]⟩, .bool false, .int .i64 0, .int .i64 0, .string ⟨#[]⟩], .iface 50 (.int .i64 2)]) (by simp [results, Tryz.results17, go_sem]) rfl ⟨rfl, by (repeat (first | (with_reducible refine Bw.set ?_ _ _ _ (Nat.le_refl _)) | (with_reducible refine Bw.set ?_ _ _ _ (Nat.le_succ _)) | (with_reducible refine Bw.alc ?_ _) | (with_reducible refine Bw.dr ?_ _) | (with_reducible exact Bw.rf _)))⟩
    · have hz' : ((z.1 : Int) == 0) = false := by simp; exact hz
      by_cases hb : b.2 = []
      · have hO : O = some ⟨q.1, c.1, z.1, p.1, b.1⟩ := by rw [HO.out, if_neg (by rintro (x | x); exact hz x; exact x hb)]
        subst hO
        show Calls _ _ _ _ fun e w' => e = .returned (.tuple #[.agg #[.string (txt q.1), .bool c.1, .int .i64 (z.1 : Int), .int .i64 (p.1 : Int), .string (txt b.1)], .nilIface]) ∧ Bw w w'
        have hbe : txt b.2 = ⟨#[]⟩ := by rw [hb]; rfl
        rw [hbe] at h5
        clear HO hb
        go_enter Tryz.func17, Tryz.ntmps17
        go_wp2_with fail
        refine (h1 _).mono ?_
        rintro e w1 ⟨rfl, n1, rfl⟩
        go_wp2_with fail
        refine (h2 _).mono ?_
        rintro e w2 ⟨rfl, rfl⟩
        go_wp2_with fail
        refine (h3 _).mono ?_
        rintro e w3 ⟨rfl, n3, rfl⟩
        go_wp2_with fail
        refine (h4 _).mono ?_
        rintro e w4 ⟨rfl, n4, rfl⟩
        go_wp2_with fail
        refine (h5 _).mono ?_
        rintro e w5 ⟨rfl, n5, rfl⟩
        go_wp2_with fail
        exact bodyPost_ret (v := .tuple #[.agg #[.string (txt q.1), .bool c.1, .int .i64 (z.1 : Int), .int .i64 (p.1 : Int), .string (txt b.1)], .nilIface]) (by simp [results, Tryz.results17, go_sem]) rfl ⟨rfl, by (repeat (first | (with_reducible refine Bw.set ?_ _ _ _ (Nat.le_refl _)) | (with_reducible refine Bw.set ?_ _ _ _ (Nat.le_succ _)) | (with_reducible refine Bw.alc ?_ _) | (with_reducible refine Bw.dr ?_ _) | (with_reducible exact Bw.rf _)))⟩
      · have hO : O = none := by rw [HO.out, if_pos (.inr hb)]
        subst hO
        show Calls _ _ _ _ fun e w' => e = .returned (.tuple #[.agg #[.string ⟨#[]⟩, .bool false, .int .i64 0, .int .i64 0, .string ⟨#[]⟩], .iface 50 (.int .i64 2)]) ∧ Bw w w'
        have hbe : (txt b.2).toList.isEmpty = false := by
          rw [ByteArray.toList_eq, txt_data]
          simpa using hb
        clear HO hb
        go_enter Tryz.func17, Tryz.ntmps17
        go_wp2_with fail
        refine (h1 _).mono ?_
        rintro e w1 ⟨rfl, n1, rfl⟩
        go_wp2_with fail
        refine (h2 _).mono ?_
        rintro e w2 ⟨rfl, rfl⟩
        go_wp2_with fail
        refine (h3 _).mono ?_
        rintro e w3 ⟨rfl, n3, rfl⟩
        go_wp2_with fail
        refine (h4 _).mono ?_
        rintro e w4 ⟨rfl, n4, rfl⟩
        go_wp2_with fail
        refine (h5 _).mono ?_
        rintro e w5 ⟨rfl, n5, rfl⟩
        go_wp2_with fail
        exact bodyPost_ret (v := .tuple #[.agg #[.string ⟨#[]⟩, .bool false, .int .i64 0, .int .i64 0, .string ⟨#[]⟩], .iface 50 (.int .i64 2)]) (by simp [results, Tryz.results17, go_sem]) rfl ⟨rfl, by (repeat (first | (with_reducible refine Bw.set ?_ _ _ _ (Nat.le_refl _)) | (with_reducible refine Bw.set ?_ _ _ _ (Nat.le_succ _)) | (with_reducible refine Bw.alc ?_ _) | (with_reducible refine Bw.dr ?_ _) | (with_reducible exact Bw.rf _)))⟩
end Go.Proofs.YtnelglmbckgbgaaGreatDoor.fw

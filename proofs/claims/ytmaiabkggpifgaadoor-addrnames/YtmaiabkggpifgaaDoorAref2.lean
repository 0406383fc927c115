/- Ref: what any text is read as. Conditions: the text has at most 2^47 bytes. -/
import Derived.Test.YtmaiabkggpifgaaDoorAref
namespace Go.Proofs.YtmaiabkggpifgaaDoor.adr
open Go.RowKit
/-- What Ref makes of a text: is it a ref, and which. -/
structure Rd where
  c : Int
  r : Int
  fc : Bool
  fr : Bool
  ok : Bool
def rdR (s : ByteArray) : Rd :=
  if h : b2N (isD s 0) < s.size then
    if isC ((s[b2N (isD s 0)].toNat : Int) - 64) (rowAt s (b2N (isD s 0) + 1 + b2N (isD s (b2N (isD s 0) + 1)))) = true then ⟨(s[b2N (isD s 0)].toNat : Int) - 64, rowAt s (b2N (isD s 0) + 1 + b2N (isD s (b2N (isD s 0) + 1))), isD s 0, isD s (b2N (isD s 0) + 1), true⟩
    else ⟨0, 0, false, false, false⟩
  else ⟨0, 0, false, false, false⟩
/-- readRef, whatever the text: what is no ref may be answered with any. -/
theorem readRef_any (s : ByteArray) (w : World) (hs : s.size ≤ 140737488355328) :
    Calls Tryd.prog 26 #[.string s] w fun e w' => (∃ c r fc fr, e = .returned (.tuple #[R c r fc fr, .bool (rdR s).ok]) ∧ ((rdR s).ok = true → rdR s = ⟨c, r, fc, fr, true⟩)) ∧ Below w.heap.size w w' := by
  by_cases h : b2N (isD s 0) < s.size
  · refine (readRef_long s w hs _ rfl h _ rfl _ _ _ _ rfl rfl rfl rfl).mono ?_
    rintro e w' ⟨rfl, hb⟩
    refine ⟨⟨_, _, _, _, congrArg Ending.returned (congrArg Value.tuple (congrArg (fun x => #[R _ _ _ _, Value.bool x]) ?_)), ?_⟩, hb⟩
    · unfold rdR
      rw [dif_pos h]
      split <;> rename_i q
      · rw [q]
      · rw [Bool.not_eq_true] at q; rw [q]
    · unfold rdR
      rw [dif_pos h]
      split <;> rename_i q
      · exact fun _ => rfl
      · intro a; cases a
  · refine (readRef_short s w hs h).mono ?_
    rintro e w' ⟨rfl, hb⟩
    refine ⟨⟨_, _, _, _, congrArg Ending.returned (congrArg Value.tuple (congrArg (fun x => #[R _ _ _ _, Value.bool x]) ?_)), ?_⟩, hb⟩
    · unfold rdR
      rw [dif_neg h]
    · unfold rdR
      rw [dif_neg h]
      intro a; cases a
theorem rdR_no {s : ByteArray} (h : (rdR s).ok = false) : rdR s = ⟨0, 0, false, false, false⟩ := by
  unfold rdR at h ⊢
  split at h
  · split at h
    · cases h
    · rename_i a b; rw [dif_pos a, if_neg b]
  · rename_i a; rw [dif_neg a]
/-- The error of a text that is none. -/
def ckx (t : Bool) : Value := if t = true then .nilIface else .iface 59 (.int .i64 2)
set_option maxHeartbeats 4000000 in
theorem ref_any (s : ByteArray) (w : World) (hs : s.size ≤ 140737488355328) :
    Calls Tryd.prog 7 #[.string s] w fun e w' => e = .returned (.tuple #[R (rdR s).c (rdR s).r (rdR s).fc (rdR s).fr, ckx (rdR s).ok]) ∧ Below w.heap.size w w' := by
  go_enter Tryd.func7, Tryd.ntmps7
  go_upto_region 1 with fail
  go_cut [4] (fun s4 wx => s4 = .bool (rdR s).ok ∧ Below w.heap.size w wx ∧ ∃ c r fc fr, wx.heap[w.heap.size]? = some (.cells #[.int .i64 c, .int .i64 r, .bool fc, .bool fr] 25 (0, 0)) ∧ ((rdR s).ok = true → rdR s = ⟨c, r, fc, fr, true⟩))
  case first =>
    go_wp2_with fail
    refine (readRef_any s _ hs).mono ?_
    rintro e w1 ⟨⟨c, r, fc, fr, rfl, he⟩, b1⟩
    have HE : Hid ((rdR s).ok = true → rdR s = ⟨c, r, fc, fr, true⟩) := he
    clear he
    have hblk : w1.heap[w.heap.size]? = some (.cells #[.int .i64 0, .int .i64 0, .bool false, .bool false] 25 (0, 0)) := by rw [b1.block w.heap.size (by simp)]; exact heap_alloc_new w _
    obtain ⟨⟨o0, o1, o2, o3⟩, p0, p1, p2, p3⟩ := cells_four hblk
    have hB := bnext ((Below.refl w.heap.size w).alloc (Nat.le_refl _) _) b1 (by simp)
    go_wp2_with fail
    go_meet
    case rel => exact ⟨rfl, hB.trans (below4 (Nat.le_refl _)), c, r, fc, fr, set4 hblk, HE.out⟩
  case rest =>
  obtain ⟨rfl, hB, c, r, fc, fr, hblk, he⟩ := hcut
  obtain ⟨⟨o0, o1, o2, o3⟩, p0, p1, p2, p3⟩ := cells_four hblk
  cases hq : (rdR s).ok
  · have hz := rdR_no hq
    have HZ : Hid (rdR s = ⟨0, 0, false, false, false⟩) := hz
    clear hz hq he
    go_wp2_with fail
    exact bodyPost_ret (v := .tuple #[R 0 0 false false, .iface 59 (.int .i64 2)]) (by simp [results, Tryd.results7, go_sem, o0, o1, o2, o3]) rfl ⟨by rw [HZ.out]; rfl, by (repeat (first | exact Below.refl _ _ | assumption | (refine Below.setCell ?_ (by first | omega | (simp <;> omega)) _) | (refine Below.alloc ?_ (by first | omega | (simp <;> omega)) _) | (refine Below.drew ?_)))⟩
  · have hr := he hq
    have HR : Hid (rdR s = ⟨c, r, fc, fr, true⟩) := hr
    clear hr he hq
    go_wp2_with fail
    exact bodyPost_ret (v := .tuple #[R c r fc fr, .nilIface]) (by simp [results, Tryd.results7, go_sem, o0, o1, o2, o3]) rfl ⟨by rw [HR.out]; rfl, by (repeat (first | exact Below.refl _ _ | assumption | (refine Below.setCell ?_ (by first | omega | (simp <;> omega)) _) | (refine Below.alloc ?_ (by first | omega | (simp <;> omega)) _) | (refine Below.drew ?_)))⟩
end Go.Proofs.YtmaiabkggpifgaaDoor.adr

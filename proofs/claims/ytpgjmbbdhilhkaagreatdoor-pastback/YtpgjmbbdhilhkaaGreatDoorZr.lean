/- The statement's measure of two sheets: alike, if they are. Conditions: as each theorem says. -/
import Derived.Test.YtpgjmbbdhilhkaaGreatDoorZq
namespace Go.Proofs.YtpgjmbbdhilhkaaGreatDoor.ps
open Go.RowKit
open adr (C)
theorem eqIn33 (x : Fl) (m : Nat) (W : World) : (Op.equalIn (m + 4) 33 (FV x) (FV x)).run Tryz.prog W = .ok true W := by
  have hS : Tryz.prog.underlying 33 = some (.struct (Tryz.prog.fieldsOf 33)) := by kernel_rfl
  have hp : Tryz.prog.stoodInHeld 33 = false := by kernel_rfl
  rw [run_equalIn_struct W (m + 3) 33 _ _ hS hp]
  simp only [Program.fieldsOf, Tryz.underlying33]
  simp [Op.eqFields, go_sem, eqIn30]
theorem neq33 (x : Fl) (W : World) : (binOp BinOp.neq 33 (FV x) (FV x)).run Tryz.prog W = .ok (.bool false) W := by
  rw [run_neq_struct, show (10000 : Nat) = 9996 + 4 from rfl, eqIn33]; rfl
set_option maxRecDepth 100000 in
set_option maxHeartbeats 4000000 in
theorem sheets_eq (p q : Option Addr) (c d : Nat) (xs : List Fl) (w : World) (hx : FM w p xs) (hy : FM w q xs) (hl : xs.length ≤ 1000) :
    Calls Tryz.prog 10 #[.slice p xs.length c, .slice q xs.length d] w fun e w' => e = .returned (.bool true) ∧ Below w.heap.size w w' := by
  obtain ⟨n, hn⟩ : ∃ n, xs.length = n := ⟨_, rfl⟩
  have HN : Hid (xs.length = n) := hn
  have HX : Hid (FM w p xs ∧ FM w q xs) := ⟨hx, hy⟩
  have hl1 : (n : Int) ≤ 1000 := by omega
  rw [hn]
  clear hx hy hl hn
  go_enter Tryz.func10, Tryz.ntmps10
  go_wp2_with fail
  go_loopw [5] (fun a wr => ∃ i : Nat, a = .int .i64 i ∧ i ≤ n ∧ Below w.heap.size w wr) (fun a _ => n - (intOf a).toNat)
  case atStart => exact ⟨0, rfl, Nat.zero_le _, Below.refl _ _⟩
  case round =>
    obtain ⟨i, rfl, hi, hb⟩ := hrel
    have HB : Hid (Below w.heap.size w wr) := hb
    clear hb
    by_cases hin : i < n
    · have hiN : (i : Int) < (n : Int) := by omega
      have hi0 : (0 : Int) ≤ (i : Int) := by omega
      obtain ⟨x, hx⟩ : ∃ x, xs[i]? = some x := ⟨_, List.getElem?_eq_getElem (by rw [HN.out]; exact hin)⟩
      obtain ⟨gx, ox, rfl, -⟩ := HX.out.1.at hx
      obtain ⟨gy, oy, rfl, -⟩ := HX.out.2.at hx
      obtain ⟨q0, q1, q2⟩ := FM.cells (HX.out.1.below HB.out) hx
      obtain ⟨r0, r1, r2⟩ := FM.cells (HX.out.2.below HB.out) hx
      have e33 := fun W => neq33 x W
      clear hx
      go_wp2_with fail
      go_cut [25] (fun s25 wx => s25 = .bool false ∧ wx = wr.drew)
      case first =>
        go_region
        all_goals
          go_wp2_with fail
          go_meet
          case rel => exact ⟨rfl, rfl⟩
      case rest =>
      obtain ⟨rfl, rfl⟩ := hcut
      go_wp2_with fail
      exact ⟨⟨i + 1, rfl, hin, HB.out.drew⟩, by simp [intOf]; omega⟩
    · have hin' : ¬ (i : Int) < (n : Int) := by omega
      go_wp2_with fail
      go_ret
      exact ⟨rfl, HB.out⟩
/-- A sheet behind its steps. -/
def run (xs : List Fl) (st : List St) : List Fl := st.foldl (fun c s => wt c s.b) xs
theorem run_snoc (xs : List Fl) (st : List St) (s : St) : run xs (st ++ [s]) = wt (run xs st) s.b := by simp [run]
/-- The steps are what was done, and what lies between them are sheets. -/
structure GoodS (xs : List Fl) (st : List St) : Prop where
  fine : ∀ m, m ≤ st.length → (run xs (st.take m)).length ≤ 200 ∧ Srt (run xs (st.take m)) ∧ Ful (run xs (st.take m))
  made : ∀ (m : Nat) (s : St), st[m]? = some s → s.a = ⟨s.b.c, s.b.r, txt (run xs (st.take m)) s.b.c s.b.r⟩
theorem GoodS.nil {xs : List Fl} (h1 : xs.length ≤ 200) (h2 : Srt xs) (h3 : Ful xs) : GoodS xs [] := ⟨fun m _ => by rw [List.take_nil]; exact ⟨h1, h2, h3⟩, fun m s h => by simp at h⟩
theorem GoodS.whole {xs : List Fl} {st : List St} (h : GoodS xs st) : (run xs st).length ≤ 200 ∧ Srt (run xs st) ∧ Ful (run xs st) := by
  have := h.fine st.length (Nat.le_refl _)
  rw [List.take_length] at this
  exact this
theorem GoodS.snoc {xs : List Fl} {st : List St} (h : GoodS xs st) {s : St} (ha : s.a = ⟨s.b.c, s.b.r, txt (run xs st) s.b.c s.b.r⟩) (hl : (wt (run xs st) s.b).length ≤ 200) : GoodS xs (st ++ [s]) := by
  refine ⟨fun m hm => ?_, fun m t ht => ?_⟩
  · by_cases e : m ≤ st.length
    · rw [List.take_append_of_le_length e]; exact h.fine m e
    · have e' : m = st.length + 1 := by simp at hm; omega
      subst e'
      rw [List.take_of_length_le (by simp), run_snoc]
      exact ⟨hl, wt_srt h.whole.2.1 _, wt_ful h.whole.2.2 _⟩
  · by_cases e : m < st.length
    · rw [List.getElem?_append_left e] at ht
      rw [List.take_append_of_le_length (Nat.le_of_lt e)]
      exact h.made m t ht
    · have hlt := (List.getElem?_eq_some_iff.1 ht).1
      have e' : m = st.length := by simp at hlt; omega
      subst e'
      rw [List.getElem?_append_right (Nat.le_refl _)] at ht
      simp at ht
      subst ht
      rw [List.take_append_of_le_length (Nat.le_refl _), List.take_length]
      exact ha
theorem run_on {xs : List Fl} {st : List St} {m : Nat} {s : St} (hs : st[m]? = some s) : run xs (st.take (m + 1)) = wt (run xs (st.take m)) s.b := by
  rw [List.take_add_one, hs]
  exact run_snoc _ _ _
theorem run_back {xs : List Fl} {st : List St} (h : GoodS xs st) {m : Nat} {s : St} (hs : st[m]? = some s) : wt (run xs (st.take (m + 1))) s.a = run xs (st.take m) := by
  have hm := (List.getElem?_eq_some_iff.1 hs).1
  obtain ⟨-, h1, h2⟩ := h.fine m (Nat.le_of_lt hm)
  rw [run_on hs, h.made m s hs]
  exact wt_back h1 h2 s.b
end Go.Proofs.YtpgjmbbdhilhkaaGreatDoor.ps


/- Bytes appended to bytes; entries one behind the other, and what is whole of them, plain. Nothing is walked here. Conditions: as each theorem says. -/
import Derived.Test.YtokfijkhflfioaaGreatDoorBkb
namespace Go.Proofs.YtokfijkhflfioaaGreatDoor.fw
open Go.RowKit Go.Sort
theorem BV.app {w : World} {v u : Value} {xs ys : List UInt8} {wx : World} (h : BV w v xs wx) (hu : BM wx u ys) (hy : 0 < ys.length) (hl : xs.length + ys.length ≤ 140737488355328) :
    ∃ g c w', (Builtin.append_ #[29, 29] 29 #[v, u]).run Tryz.prog wx = .ok (.slice (some ⟨g, 0, none⟩) (xs.length + ys.length) c) w' ∧ BV w (.slice (some ⟨g, 0, none⟩) (xs.length + ys.length) c) (xs ++ ys) w' := by
  obtain ⟨i0, hi, hz0, hz1, hz2⟩ := info_parts info5
  have hmax : maxLen = 9223372036854775807 := rfl
  obtain ⟨p, d, rfl, hc⟩ := hu
  obtain ⟨gq, oq, rfl, -⟩ := hc 0 ys[0] (List.getElem?_eq_getElem hy)
  have hnews : ∀ (j : Nat) (x : Value), (bys ys)[j]? = some x → wx.cell? ((⟨gq, oq, none⟩ : Addr).add j) = some x := fun j x hx => by
    unfold bys at hx
    rw [List.getElem?_map] at hx
    cases e : ys[j]? with
    | none => rw [e] at hx; cases hx
    | some y =>
      rw [e] at hx
      simp only [Option.map_some, Option.some.injEq] at hx
      subst hx
      obtain ⟨g2, o2, e2, c2⟩ := hc j y e
      obtain ⟨rfl, rfl⟩ : gq = g2 ∧ oq = o2 := by simpa using e2
      have hadd : (⟨gq, oq, none⟩ : Addr).add j = ⟨gq, oq + j, none⟩ := by unfold Addr.add; split <;> simp_all
      rw [hadd]
      exact c2
  obtain ⟨g, c, w', r1, r2, r3, -, -⟩ := run_append_lies (P := Tryz.prog) (w := wx) 29 29 w.heap.size 5 i0 (.int .u8 0) 1 1 Tryz.underlying29 hi hz0 hz1 hz2 rfl (by decide) v xs.length (bys xs) h.own ⟨gq, oq, none⟩ ys.length d (bys ys) (by simp [bys]) hnews (by simp [bys, Value.oneCell']) hy (by omega) (by omega) h.below.size _ rfl
  refine ⟨g, c, w', r1, ⟨?_, h.below.grown r3 h.below.size (fun q hq => (h.own.lt q hq).1)⟩⟩
  have e : bys (xs ++ ys) = bys xs ++ bys ys := by simp [bys]
  rw [e, List.length_append]
  exact r2
/-- The sum's two bytes. -/
def sm2 (l : List UInt8) : List UInt8 := [UInt8.ofNat (smN l % 256), UInt8.ofNat (smN l / 256)]
theorem enL_is (c r : Int) (t : ByteArray) : enL c r t = enB c r t ++ sm2 (enB c r t) := rfl
/-- The first whole entry of bytes: its column, its row, its text, how many bytes it has. -/
def ent (b : List UInt8) : Option (UInt8 × UInt8 × List UInt8) :=
  match b with
  | c :: r :: n :: b => if n.toNat + 2 ≤ b.length ∧ (b.drop n.toNat).take 2 = sm2 (c :: r :: n :: b.take n.toNat) then some (c, r, b.take n.toNat) else none
  | _ => none
/-- An entry that was written is read as it was, whatever stands behind it. -/
theorem ent_back (c r : Int) (t : ByteArray) (ht : t.size < 256) (b : List UInt8) : ent (enL c r t ++ b) = some (lo8 c, lo8 r, t.toList) := by
  have hn : (lo8 (t.size : Int)).toNat = t.size := by have := lo8_is (t.size : Int); omega
  have hs : t.toList.length = t.size := size_list t
  have e : enL c r t ++ b = lo8 c :: lo8 r :: lo8 (t.size : Int) :: (t.toList ++ (sm2 (enB c r t) ++ b)) := by
    rw [enL_is]
    simp [enB]
  have e2 : enB c r t = lo8 c :: lo8 r :: lo8 (t.size : Int) :: t.toList := rfl
  rw [e]
  unfold ent
  simp only
  rw [hn, ← hs, List.take_left, List.drop_left, hs, ← e2]
  rw [if_pos]
  constructor
  · simp only [List.length_append, sm2, List.length_cons, List.length_nil, hs]; omega
  · exact List.take_left' rfl
/-- What is too short holds no whole entry. -/
theorem ent_short (c r : Int) (t : ByteArray) (ht : t.size < 256) (k : Nat) (hk : k < t.size + 5) : ent ((enL c r t).take k) = none := by
  have hn : (lo8 (t.size : Int)).toNat = t.size := by have := lo8_is (t.size : Int); omega
  have hl := enL_length c r t
  have e2 : enL c r t = lo8 c :: lo8 r :: lo8 (t.size : Int) :: (t.toList ++ sm2 (enB c r t)) := by
    rw [enL_is]
    simp [enB]
  rw [e2] at hl ⊢
  simp only [List.length_cons] at hl
  match k with
  | 0 => rfl
  | 1 => rfl
  | 2 => rfl
  | k + 3 =>
    simp only [List.take_succ_cons]
    unfold ent
    simp only
    rw [hn, if_neg]
    intro hc
    have := hc.1
    rw [List.length_take] at this
    omega
end Go.Proofs.YtokfijkhflfioaaGreatDoor.fw

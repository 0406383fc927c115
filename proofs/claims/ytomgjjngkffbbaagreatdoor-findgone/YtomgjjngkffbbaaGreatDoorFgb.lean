
/- find.places and find.Find. Conditions: as each theorem says. -/
import Derived.Test.YtomgjjngkffbbaaGreatDoorFna
import Derived.Test.YtomgjjngkffbbaaGreatDoorJm
import Derived.Test.YtomgjjngkffbbaaGreatDoorShc
import Derived.Test.YtomgjjngkffbbaaGreatDoorYb
namespace Go.Proofs.YtomgjjngkffbbaaGreatDoor.fw
open Go.RowKit Go.Sort
/-- The package variable MaxLen holds a number. -/
def MX (w : World) : Prop := 10 < w.heap.size ∧ ∃ m, w.cell? ⟨1, 0, none⟩ = some (.int .i64 m)
theorem MX.next {w w' : World} (h : MX w) (hb : Bw w w') : MX w' := by
  obtain ⟨h1, m, hm⟩ := h
  have h2 := hb.size
  exact ⟨by omega, m, by rw [hb.cell (p := ⟨1, 0, none⟩) (by show 1 < _; omega)]; exact hm⟩
/-- How many places a part has in a text. -/
def plc (s p : ByteArray) (wh : Bool) : Nat := if wh = true then (if s = p then 1 else 0) else (cntL p.toList [] s.toList).1
theorem ne_nil {p : ByteArray} (h : 1 ≤ p.size) : p.toList ≠ [] := fun e => by
  have := size_list p
  rw [e] at this
  simp at this
  omega
set_option maxRecDepth 1000000 in
set_option maxHeartbeats 4000000 in
theorem places_any (s p : ByteArray) (wh : Bool) (w : World) (hs : s.size ≤ 200) (hp : 1 ≤ p.size) (hm : MX w) :
    Calls Tryz.prog 35 #[.string s, .string p, .bool wh] w fun e w' => e = .returned (.int .i64 (plc s p wh : Nat)) ∧ w' = w := by
  cases wh
  · obtain ⟨m, hm⟩ := hm.2
    have hC := Tryz.strings_Count_any s p m w (by omega) hm hp
    have e : Lib.countB s p = plc s p false := by
      show Lib.count s.data.toList p.data.toList = _
      unfold plc
      rw [if_neg (by simp), ← ByteArray.toList_eq, ← ByteArray.toList_eq]
      exact count_is (ne_nil hp) [] _ _ (Nat.le_refl _)
    rw [e] at hC
    go_enter Tryz.func35, Tryz.ntmps35
    go_wp2_with fail
    refine hC.mono ?_
    rintro e w' ⟨rfl, rfl⟩
    dsimp only
    go_wp2_with fail
    go_ret
    exact ⟨rfl, rfl⟩
  · by_cases h : s = p
    · have e : plc s p true = 1 := by unfold plc; rw [if_pos rfl, if_pos h]
      rw [e]
      subst h
      go_enter Tryz.func35, Tryz.ntmps35
      go_wp2_with fail
      go_ret
      exact ⟨rfl, rfl⟩
    · have e : plc s p true = 0 := by unfold plc; rw [if_pos rfl, if_neg h]
      rw [e]
      have hb : (s.toList == p.toList) = false := (Lib.bytes_beq_false_iff s p).2 h
      go_enter Tryz.func35, Tryz.ntmps35
      go_wp2_with fail
      go_ret
      exact ⟨rfl, rfl⟩
/-- The cells that have a part. -/
def fnd (p : ByteArray) (wh : Bool) (xs : List ps.Fl) : List (Int × Int) := (xs.filter fun f => decide (0 < plc f.s p wh)).map fun f => (f.c, f.r)
theorem fnd_snoc (p : ByteArray) (wh : Bool) (xs : List ps.Fl) (f : ps.Fl) : fnd p wh (xs ++ [f]) = fnd p wh xs ++ (if 0 < plc f.s p wh then [(f.c, f.r)] else []) := by
  unfold fnd
  rw [List.filter_append, List.map_append]
  by_cases h : 0 < plc f.s p wh <;> simp [h]
theorem fnd_len (p : ByteArray) (wh : Bool) (xs : List ps.Fl) : (fnd p wh xs).length ≤ xs.length := by
  unfold fnd
  rw [List.length_map]
  exact List.length_filter_le _ _
end Go.Proofs.YtomgjjngkffbbaaGreatDoor.fw

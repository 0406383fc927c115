
/- Rows of texts as memory has them; sccsame.Rows at two that are the same. Conditions: as each theorem says. -/
import Derived.Test.YtldmjipkmplhbaaDoorFwa
import Derived.BigQuiet
namespace Go.Proofs.YtldmjipkmplhbaaDoor.fw
open Go.RowKit Go.Sort
/-- Texts lie in memory. -/
def SM (w : World) (p : Option Addr) (r : List ByteArray) : Prop :=
  r = [] ∨ ∃ g o, p = some ⟨g, o, none⟩ ∧ g < w.heap.size ∧ ∀ (i : Nat) (s : ByteArray), r[i]? = some s → w.cell? ⟨g, o + i, none⟩ = some (.string s)
theorem SM.next {w w' : World} {p : Option Addr} {r : List ByteArray} (h : SM w p r) (hb : Bw w w') : SM w' p r := by
  rcases h with h | ⟨g, o, h1, h2, h3⟩
  · exact .inl h
  · refine .inr ⟨g, o, h1, Nat.lt_of_lt_of_le h2 hb.size, fun i s hs => ?_⟩
    rw [hb.cell (p := ⟨g, _, none⟩) h2]
    exact h3 i s hs
theorem SM.at {w : World} {p : Option Addr} {r : List ByteArray} (h : SM w p r) {i : Nat} {s : ByteArray} (hs : r[i]? = some s) : ∃ g o, p = some ⟨g, o, none⟩ ∧ w.cell? ⟨g, o + i, none⟩ = some (.string s) := by
  rcases h with rfl | ⟨g, o, h1, -, h3⟩
  · simp at hs
  · exact ⟨g, o, h1, h3 i s hs⟩
/-- Rows of texts lie in memory. -/
def RM (w : World) (p : Option Addr) (t : List (List ByteArray)) : Prop :=
  t = [] ∨ ∃ g o, p = some ⟨g, o, none⟩ ∧ g < w.heap.size ∧ ∀ (i : Nat) (r : List ByteArray), t[i]? = some r → ∃ q c, w.cell? ⟨g, o + i, none⟩ = some (.slice q r.length c) ∧ SM w q r
theorem RM.next {w w' : World} {p : Option Addr} {t : List (List ByteArray)} (h : RM w p t) (hb : Bw w w') : RM w' p t := by
  rcases h with h | ⟨g, o, h1, h2, h3⟩
  · exact .inl h
  · refine .inr ⟨g, o, h1, Nat.lt_of_lt_of_le h2 hb.size, fun i r hr => ?_⟩
    obtain ⟨q, c, e1, e2⟩ := h3 i r hr
    exact ⟨q, c, by rw [hb.cell (p := ⟨g, _, none⟩) h2]; exact e1, e2.next hb⟩
theorem RM.at {w : World} {p : Option Addr} {t : List (List ByteArray)} (h : RM w p t) {i : Nat} {r : List ByteArray} (hr : t[i]? = some r) : ∃ g o q c, p = some ⟨g, o, none⟩ ∧ w.cell? ⟨g, o + i, none⟩ = some (.slice q r.length c) ∧ SM w q r := by
  rcases h with rfl | ⟨g, o, h1, -, h3⟩
  · simp at hr
  · obtain ⟨q, c, e1, e2⟩ := h3 i r hr
    exact ⟨g, o, q, c, h1, e1, e2⟩
theorem drN_bw2 (w : World) (n : Nat) : Bw w (w.drewN n) := ⟨rfl, rfl, rfl, Nat.le_refl _, fun _ _ => rfl⟩
set_option maxRecDepth 1000000 in
set_option maxHeartbeats 8000000 in
theorem rrows_any (t : List (List ByteArray)) (p p' : Option Addr) (c c' : Nat) (w : World) (h : RM w p t) (h' : RM w p' t) (hl : t.length ≤ 70368744177664) (hl2 : ∀ r ∈ t, r.length ≤ 70368744177664) :
    Calls Tryd.prog 11 #[.slice p t.length c, .slice p' t.length c'] w fun e w' => e = .returned (.bool true) ∧ Bw w w' := by
  have H : Hid (RM w p t) := h
  have H' : Hid (RM w p' t) := h'
  have HL : Hid (∀ r ∈ t, r.length ≤ 70368744177664) := hl2
  have hl9 : (t.length : Int) ≤ 70368744177664 := by omega
  clear h h' hl hl2
  go_enter Tryd.func11, Tryd.ntmps11
  go_upto_block 0 with fail
  go_cut [] (fun wx => Hid (Bw w wx))
  case first =>
    go_wp2_with fail
    go_loopw [5] (fun s5 wr => ∃ i : Nat, s5 = .int .i64 (i : Int) ∧ i ≤ t.length ∧ Hid (Bw w wr)) (fun s5 _ => t.length - (intOf s5).toNat)
    case atStart => exact ⟨0, rfl, Nat.zero_le _, Below.refl _ _⟩
    case round =>
      obtain ⟨i, rfl, hi, HR⟩ := hrel
      by_cases hlt : i < t.length
      · have hlt' : (i : Int) < (t.length : Int) := by omega
        have hi0 : (0 : Int) ≤ (i : Int) := by omega
        have hx : t[i]? = some t[i] := List.getElem?_eq_getElem hlt
        obtain ⟨r, er⟩ : ∃ r, t[i] = r := ⟨_, rfl⟩
        rw [er] at hx
        have hrl := HL.out r (List.mem_of_getElem? hx)
        have hrl9 : (r.length : Int) ≤ 70368744177664 := by omega
        obtain ⟨g, o, q, k, rfl, c1, s1⟩ := (H.out.next HR.out).at hx
        obtain ⟨g', o', q', k', rfl, c2, s2⟩ := (H'.out.next HR.out).at hx
        have HC1 : Hid (wr.cell? ⟨g, o + i, none⟩ = some (.slice q r.length k) ∧ wr.cell? ⟨g', o' + i, none⟩ = some (.slice q' r.length k') ∧ g < wr.heap.size ∧ g' < wr.heap.size) := ⟨c1, c2, World.block_lt_of_cell? wr _ c1, World.block_lt_of_cell? wr _ c2⟩
        have HS1 : Hid (SM wr q r ∧ SM wr q' r) := ⟨s1, s2⟩
        clear hx er s1 s2 hrl
        go_upto_region 6 with fail
        go_cut [28] (fun s28 wx => s28 = .bool false ∧ Hid (Bw wr wx))
        case first =>
          go_region
          all_goals
            go_wp2_with fail
            go_meet
            case rel => exact ⟨rfl, (Below.refl _ _ : Below wr.heap.size wr wr).drew⟩
        case rest =>
        obtain ⟨rfl, HB6⟩ := hcut
        apply_assumption
        clear c1 c2
        obtain ⟨w9, hw9⟩ : ∃ x, x = wr := ⟨_, rfl⟩
        subst hw9
        go_wp2_with fail
        go_loopw [6] (fun s6 wr => ∃ j : Nat, s6 = .int .i64 (j : Int) ∧ j ≤ r.length ∧ Hid (Bw w9 wr)) (fun s6 _ => r.length - (intOf s6).toNat)
        case atStart => exact ⟨0, rfl, Nat.zero_le _, HB6⟩
        case round =>
          obtain ⟨j, rfl, hj, HY⟩ := hrel
          have d1 : wr.cell? ⟨g, o + i, none⟩ = some (.slice q r.length k) := by rw [HY.out.cell (p := ⟨g, _, none⟩) HC1.out.2.2.1]; exact HC1.out.1
          have d2 : wr.cell? ⟨g', o' + i, none⟩ = some (.slice q' r.length k') := by rw [HY.out.cell (p := ⟨g', _, none⟩) HC1.out.2.2.2]; exact HC1.out.2.1
          by_cases hjl : j < r.length
          · have hjl' : (j : Int) < (r.length : Int) := by omega
            have hj0 : (0 : Int) ≤ (j : Int) := by omega
            have hx : r[j]? = some r[j] := List.getElem?_eq_getElem hjl
            obtain ⟨x, ex⟩ : ∃ x, r[j] = x := ⟨_, rfl⟩
            rw [ex] at hx
            obtain ⟨gq, oq, rfl, x1⟩ := (HS1.out.1.next HY.out).at hx
            obtain ⟨gq', oq', rfl, x2⟩ := (HS1.out.2.next HY.out).at hx
            clear hx ex
            go_upto_region 11 with fail
            go_cut [52] (fun s52 wx => s52 = .bool false ∧ Hid (Bw w9 wx))
            case first =>
              go_region
              all_goals
                go_wp2_with fail
                go_meet
                case rel => exact ⟨by simp, HY.out.drew⟩
            case rest =>
            obtain ⟨rfl, HB8⟩ := hcut
            apply_assumption
            clear d1 d2 x1 x2 HY
            go_wp2_with fail
            exact ⟨⟨j + 1, rfl, hjl, HB8⟩, by simp [intOf]; omega⟩
          · have hjl' : ¬ (j : Int) < (r.length : Int) := by omega
            have HB7 : Hid (Bw w wr) := HR.out.tr HY.out
            go_wp2_with fail
            exact ⟨⟨i + 1, rfl, hlt, HB7⟩, by simp [intOf]; omega⟩
      · have hlt' : ¬ (i : Int) < (t.length : Int) := by omega
        go_wp2_with fail
        go_meet
        case rel => exact HR
  case rest =>
  have HC := hcut
  clear hcut
  apply_assumption
  go_wp2_with fail
  go_ret
  exact ⟨rfl, HC.out⟩
end Go.Proofs.YtldmjipkmplhbaaDoor.fw

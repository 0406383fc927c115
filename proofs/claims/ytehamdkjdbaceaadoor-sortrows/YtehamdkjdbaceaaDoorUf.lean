
/- Package sort: Sorted. Conditions: as each theorem says. -/
import Derived.Test.YtehamdkjdbaceaaDoorUe
namespace Go.Proofs.YtehamdkjdbaceaaDoor.so
open Go.RowKit Go.Sort Go.Shelf
abbrev nthN (Z : List Nat) (i : Nat) : Int := (natI Z).getD i 0
/-- What Sorted answers. -/
def SR (T : Tb) (n : Nat) (c : Nat → Int) (d : Nat → Bool) (m : Nat) (a : Nat → Int) (e : Ending) : Prop :=
  ∃ x b, e = .returned (.tuple #[.bool b, errV x]) ∧ CF T n c x ∧ (x ≠ 0 → b = false) ∧ (x = 0 → ∃ Z, StN T n c d Z ∧ b = sameL m a Z.length (nthN Z))
theorem stn_len {T : Tb} {n : Nat} {c : Nat → Int} {d : Nat → Bool} {Z : List Nat} (h : StN T n c d Z) : Z.length = T.q := by rw [h.1.length_eq]; simp
set_option maxRecDepth 100000 in
set_option maxHeartbeats 4000000 in
theorem sorted_any (T : Tb) (p : Option Addr) (cp : Nat) (p3 : Option Addr) (n c3 : Nat) (c : Nat → Int) (d : Nat → Bool) (pl : Option Addr) (m cl : Nat) (a : Nat → Int) (w : World) (hT : TM w p T) (hK : KM w p3 n c d) (hI : IM w pl m a) (hq : T.q ≤ 9223372036854775807) (hn : n ≤ 8796093022208) (hm : m ≤ 9223372036854775807) (hL : ∀ i, i < T.q → T.L i ≤ 9223372036854775807) :
    Calls Tryd.prog 13 #[.slice p T.q cp, .slice p3 n c3, .slice pl m cl] w fun e w' => SR T n c d m a e ∧ Bw w w' := by
  have HS := sort_any T p cp p3 n c3 c d w hT hK hq hn hL
  have HI : Hid (IM w pl m a) := hI
  clear hT hK hI hL
  generalize T.q = q at *
  go_enter Tryd.func13, Tryd.ntmps13
  go_wp2_with fail
  refine HS.mono ?_
  clear HS
  rintro e w1 ⟨⟨x, v, rfl, hx, hx1, hx2⟩, hb⟩
  have HX : Hid (CF T n c x) := hx
  have HB : Hid (Bw w w1) := hb
  by_cases hx0 : x = 0
  · subst hx0
    obtain ⟨W, Z, -, hZ, hV⟩ := hx2 rfl
    obtain ⟨pv, cv, rfl, him⟩ := hV.im
    have HZ : Hid (StN T n c d Z) := hZ
    have hzl : (natI Z).length = Z.length := by simp
    rw [hzl] at him ⊢
    have hz60 : Z.length ≤ 60 := by rw [stn_len hZ]; exact hx.zero.1.few
    have HE := equal_any pl m cl a pv Z.length cv (nthN Z) w1 (HI.out.next hb) him hm (by omega)
    obtain ⟨B, hB⟩ : ∃ B, sameL m a Z.length (nthN Z) = B := ⟨_, rfl⟩
    have HBB : Hid (B = sameL m a Z.length (nthN Z)) := hB.symm
    rw [hB] at HE
    rw [errV_0]
    clear hx hx1 hx2 hb hZ hV him hzl hB
    go_wp2_with fail
    refine HE.mono ?_
    clear HE
    rintro e w2 ⟨rfl, hb2⟩
    have HB2 : Hid (Bw w w2) := HB.out.tr hb2
    clear hb2
    go_wp2_with fail
    refine bodyPost_ret (v := .tuple #[.bool B, .nilIface]) (by simp [results, Tryd.results13, go_sem]) rfl ?_
    exact ⟨⟨0, B, rfl, HX.out, fun h => absurd rfl h, fun _ => ⟨Z, HZ.out, HBB.out⟩⟩, HB2.out⟩
  · have hv := hx1 hx0
    subst hv
    rw [errV_of hx0]
    clear hx hx1 hx2 hb
    go_wp2_with fail
    refine bodyPost_ret (v := .tuple #[.bool false, .iface 46 (.int .i64 x)]) (by simp [results, Tryd.results13, go_sem]) rfl ?_
    exact ⟨⟨x, false, by rw [errV_of hx0], HX.out, fun _ => rfl, fun h => absurd h hx0⟩, HB.out⟩
end Go.Proofs.YtehamdkjdbaceaaDoor.so

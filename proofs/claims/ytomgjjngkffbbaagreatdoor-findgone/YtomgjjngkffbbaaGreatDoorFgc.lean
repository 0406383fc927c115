
/- find.Find, whole. Conditions: what the package variables hold. -/
import Derived.Test.YtomgjjngkffbbaaGreatDoorFgb
import Derived.Test.YtomgjjngkffbbaaGreatDoorJm
namespace Go.Proofs.YtomgjjngkffbbaaGreatDoor.fw
open Go.RowKit Go.Sort
/-- What Find answers. -/
def FndO (w : World) (xs : List ps.Fl) (part : ByteArray) (wh : Bool) (t : Int) (e : Ending) (w' : World) : Prop :=
  (t ≠ 0 ∧ e = .returned (.tuple #[.slice none 0 0, ps.errV t]) ∧ Bw w w') ∨
      (t = 0 ∧ part.size = 0 ∧ e = .returned (.tuple #[.slice none 0 0, ps.errV 2]) ∧ Bw w w') ∨
      (t = 0 ∧ 1 ≤ part.size ∧ ∃ v, e = .returned (.tuple #[v, .nilIface]) ∧ RV cL w v (fnd part wh xs) w')
set_option maxRecDepth 1000000 in
set_option maxHeartbeats 4000000 in
theorem find_any (p : Option Addr) (c : Nat) (xs : List ps.Fl) (part : ByteArray) (wh : Bool) (w : World) (hx : ps.FM w p xs) (hE : ps.EnvP w) (hm : MX w) (t : Int) (ht : ps.Told xs t) :
    Calls Tryz.prog 20 #[.slice p xs.length c, .string part, .bool wh] w fun e w' =>
      FndO w xs part wh t e w' := by
  have HG := ps.gcheck_any p c xs w hx hE
  have HX : Hid (ps.FM w p xs) := hx
  have HM : Hid (MX w) := hm
  have HT : Hid (ps.Told xs t) := ht
  clear hx hE hm ht
  go_enter Tryz.func20, Tryz.ntmps20
  go_wp2_with fail
  refine HG.mono ?_
  rintro e w1 ⟨⟨t', rfl, ht'⟩, hb1⟩
  obtain rfl : t = t' := HT.out.one ht'
  have HB1 : Hid (Bw w w1) := hb1
  clear ht' hb1 HG
  dsimp only
  by_cases h0 : t = 0
  · subst h0
    rw [ps.errV_zero]
    by_cases hp : part.size = 0
    · obtain rfl := ps.size_nul hp
      go_wp2_with fail
      exact bodyPost_ret (v := .tuple #[.slice none 0 0, ps.errV 2]) (by simp [results, Tryz.results20, go_sem, ps.errV]) rfl (.inr (.inl ⟨rfl, hp, rfl, HB1⟩))
    · have hpe : part.toList.isEmpty = false := by
        rw [Bool.eq_false_iff]
        exact fun e => hp (ps.emp_yes e)
      have HP1 : Hid (1 ≤ part.size) := by show 1 ≤ _; omega
      have HF : Hid (xs.length ≤ 200 ∧ ∀ (i : Nat) (x : ps.Fl), xs[i]? = some x → x.s.size ≠ 0 ∧ x.s.size ≤ 200) := by
        rcases HT.out with ⟨h1, h2⟩ | ⟨h1, ⟨-, h2⟩ | ⟨h2, -⟩⟩
        · exact absurd h2 (by decide)
        · exact ⟨h1, fun i x hx => ps.ckT_zero (ps.cd_zero hx (h2 i (List.getElem?_eq_some_iff.1 hx).1)).2.2⟩
        · exact absurd rfl h2
      clear hp
      go_upto_block 0 with fail
      go_cut [9] (fun s9 wx => Hid (RV cL w s9 (fnd part wh xs) wx))
      case first =>
        go_wp2_with fail
        go_loopw [9, 22] (fun s9 s22 wr => ∃ i : Nat, s22 = .int .i64 (i : Int) ∧ i ≤ xs.length ∧ Hid (RV cL w s9 (fnd part wh (xs.take i)) wr)) (fun _ s22 _ => xs.length - (intOf s22).toNat)
        case atStart => exact ⟨0, rfl, Nat.zero_le _, (RV.nil cL w).next HB1.out⟩
        case round =>
          obtain ⟨i, rfl, hi, HV⟩ := hrel
          by_cases hlt : i < xs.length
          · have hlt' : (i : Int) < (xs.length : Int) := by omega
            have hi0 : (0 : Int) ≤ (i : Int) := by omega
            have hi9 : (i : Int) < 200 := by have := HF.out.1; omega
            have hx : xs[i]? = some xs[i] := List.getElem?_eq_getElem hlt
            obtain ⟨x, ex⟩ : ∃ x, xs[i] = x := ⟨_, rfl⟩
            rw [ex] at hx
            have HX2 : Hid (ps.FM wr p xs) := HX.out.below HV.out.below
            obtain ⟨gx, ox, rfl, hgx⟩ := ps.FM.at HX2.out hx
            obtain ⟨c0, c1, c2⟩ := ps.FM.cells HX2.out hx
            have HS := fnd_snoc part wh (xs.take i) x
            have HTK : Hid (xs.take (i + 1) = xs.take i ++ [x]) := by show _ = _; rw [List.take_add_one, hx]; rfl
            rw [← HTK.out] at HS
            have HSZ := HF.out.2 i x hx
            have HLN : Hid ((fnd part wh (xs.take i)).length ≤ 10000) := by
              have h1 := fnd_len part wh (xs.take i)
              have h2 := HF.out.1
              rw [List.length_take] at h1
              show _ ≤ _
              omega
            obtain ⟨p9, k9, e9, -⟩ := HV.out.form
            subst e9
            have hpl : ∀ wx, Bw w wx → Calls Tryz.prog 35 #[.string x.s, .string part, .bool wh] wx fun e w' => e = .returned (.int .i64 (plc x.s part wh : Nat)) ∧ w' = wx := fun wx hb => places_any x.s part wh wx HSZ.2 HP1.out (HM.out.next hb)
            have HPL : Hid (∀ wx, Bw w wx → Calls Tryz.prog 35 #[.string x.s, .string part, .bool wh] wx fun e w' => e = .returned (.int .i64 (plc x.s part wh : Nat)) ∧ w' = wx) := hpl
            clear hpl HSZ hx ex HX2
            obtain ⟨n, en⟩ : ∃ n, plc x.s part wh = n := ⟨_, rfl⟩
            rw [en] at HPL HS
            clear en
            obtain ⟨xc, xr, xs2⟩ := x
            dsimp only at c0 c1 c2 HPL HS
            go_upto_region 10 with fail
            have HW4 : Hid (RV cL w (.slice p9 (fnd part wh (xs.take i)).length k9) (fnd part wh (xs.take i)) (wr.alloc (.cells #[.int .i64 xc, .int .i64 xr, .string xs2] 45)) ∧ (wr.alloc (.cells #[.int .i64 xc, .int .i64 xr, .string xs2] 45)).heap[wr.heap.size]? = some (.cells #[.int .i64 xc, .int .i64 xr, .string xs2] 45)) := ⟨HV.out.next (Bw.al _ _), heap_alloc_new _ _⟩
            clear HV c0 c1 c2
            generalize wr.alloc (.cells #[.int .i64 xc, .int .i64 xr, .string xs2] 45) = w4 at *
            generalize wr.heap.size = gp at *
            have d0 : w4.cell? ⟨gp, 0, none⟩ = some (.int .i64 xc) := by rw [cell_of_row w4 gp 0 _ _ (0, 0) HW4.out.2]; rfl
            have d1 : w4.cell? ⟨gp, 1, none⟩ = some (.int .i64 xr) := by rw [cell_of_row w4 gp 1 _ _ (0, 0) HW4.out.2]; rfl
            have d2 : w4.cell? ⟨gp, 2, none⟩ = some (.string xs2) := by rw [cell_of_row w4 gp 2 _ _ (0, 0) HW4.out.2]; rfl
            by_cases hn : 0 < n
            · have hn' : (n : Int) > 0 := by omega
              rw [if_pos hn] at HS
              obtain ⟨g2, k2, w5, hr, hV5⟩ := HW4.out.1.cell HLN.out xc xr
              rw [← HS] at hV5
              have HR5 : Hid ((Builtin.append_ #[33, 33] 33 #[.slice p9 (fnd part wh (xs.take i)).length k9, .slice (some ⟨w4.heap.size, 0, none⟩) 1 1]).run Tryz.prog (w4.alloc (.cells #[.int .i64 xc, .int .i64 xr] 43)) = .ok (.slice (some ⟨g2, 0, none⟩) ((fnd part wh (xs.take i)).length + 1) k2) w5) := hr
              have HV5 : Hid (RV cL w (.slice (some ⟨g2, 0, none⟩) ((fnd part wh (xs.take i)).length + 1) k2) (fnd part wh (xs.take (i + 1))) w5) := hV5
              have HP4 := HPL.out w4 HW4.out.1.below
              clear hr hV5 HLN HW4 HS HPL
              generalize (fnd part wh (xs.take i)).length + 1 = n3 at *
              generalize (fnd part wh (xs.take i)).length = n2 at *
              go_wp2_with fail
              refine HP4.mono ?_
              clear HP4
              rintro e w6 ⟨rfl, rfl⟩
              dsimp only
              go_wp2_with (first | (at_builtin; refine wpList_append_eq rfl _ _ 33 33 rfl _ _ _ _ rfl rfl HR5.out ?_))
              exact ⟨⟨i + 1, rfl, hlt, HV5⟩, by simp [intOf]; omega⟩
            · have hn' : ¬ (n : Int) > 0 := by omega
              rw [if_neg hn, List.append_nil] at HS
              have HV5 : Hid (RV cL w (.slice p9 (fnd part wh (xs.take i)).length k9) (fnd part wh (xs.take (i + 1))) w4) := by rw [HS]; exact HW4.out.1
              have HP4 := HPL.out w4 HW4.out.1.below
              clear HLN HW4 HS HPL
              generalize (fnd part wh (xs.take i)).length = n2 at *
              go_wp2_with fail
              refine HP4.mono ?_
              clear HP4
              rintro e w6 ⟨rfl, rfl⟩
              dsimp only
              go_wp2_with fail
              exact ⟨⟨i + 1, rfl, hlt, HV5⟩, by simp [intOf]; omega⟩
          · have hlt' : ¬ (i : Int) < (xs.length : Int) := by omega
            have e1 : xs.take i = xs := List.take_of_length_le (by omega)
            rw [e1] at HV
            go_wp2_with fail
            go_meet
            case rel => exact HV
      case rest =>
      have HV : Hid (RV cL w u9 (fnd part wh xs) wc) := hcut
      clear hcut
      apply_assumption
      go_wp2_with fail
      exact bodyPost_ret (v := .tuple #[u9, .nilIface]) (by simp [results, Tryz.results20, go_sem]) rfl (.inr (.inr ⟨rfl, HP1, u9, rfl, HV⟩))
  · rw [ps.errV_some h0]
    go_wp2_with fail
    exact bodyPost_ret (v := .tuple #[.slice none 0 0, .iface 67 (.int .i64 t)]) (by simp [results, Tryz.results20, go_sem]) rfl (.inl ⟨h0, by rw [ps.errV_some h0], HB1⟩)
end Go.Proofs.YtomgjjngkffbbaaGreatDoor.fw

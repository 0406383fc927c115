
/- The law FindReplaces, by what sccsame.Error answers. Conditions: what the package variables hold. -/
import Derived.Test.YtlaeoofjoofbcaaGreatDoorJa
import Derived.Test.YtlaeoofjoofbcaaGreatDoorYb
import Derived.Test.YtlaeoofjoofbcaaGreatDoorJc

/- find.places and find.Find. Conditions: as each theorem says. -/
namespace Go.Proofs.YtlaeoofjoofbcaaGreatDoor.fw
open Go.RowKit Go.Sort
/-- The package variable MaxLen holds a number. -/
def MX (w : World) : Prop := 10 < w.heap.size ∧ ∃ m, w.cell? ⟨1, 0, none⟩ = some (.int .i64 m)
theorem MX.next {w w' : World} (h : MX w) (hb : Bw w w') : MX w' := by
  obtain ⟨h1, m, hm⟩ := h
  have h2 := hb.size
  exact ⟨by omega, m, by rw [hb.cell (p := ⟨1, 0, none⟩) (by show 1 < _; omega)]; exact hm⟩
/-- How many places a part has in a text. -/
def plc (s p : ByteArray) (wh : Bool) : Nat := if wh = true then (if s = p then 1 else 0) else (cntL p.toList [] s.toList).1
theorem ne_nil {p : ByteArray} (h : 1 ≤ p.size) : p.toList ≠ [] := fun e => by
  have := size_list p
  rw [e] at this
  simp at this
  omega
set_option maxRecDepth 1000000 in
set_option maxHeartbeats 4000000 in
theorem places_any (s p : ByteArray) (wh : Bool) (w : World) (hs : s.size ≤ 200) (hp : 1 ≤ p.size) (hm : MX w) :
    Calls Tryz.prog 20 #[.string s, .string p, .bool wh] w fun e w' => e = .returned (.int .i64 (plc s p wh : Nat)) ∧ w' = w := by
  cases wh
  · obtain ⟨m, hm⟩ := hm.2
    have hC := Tryz.strings_Count_any s p m w (by omega) hm hp
    have e : Lib.countB s p = plc s p false := by
      show Lib.count s.data.toList p.data.toList = _
      unfold plc
      rw [if_neg (by simp), ← ByteArray.toList_eq, ← ByteArray.toList_eq]
      exact count_is (ne_nil hp) [] _ _ (Nat.le_refl _)
    rw [e] at hC
    go_enter Tryz.func20, Tryz.ntmps20
    go_wp2_with fail
    refine hC.mono ?_
    rintro e w' ⟨rfl, rfl⟩
    dsimp only
    go_wp2_with fail
    go_ret
    exact ⟨rfl, rfl⟩
  · by_cases h : s = p
    · have e : plc s p true = 1 := by unfold plc; rw [if_pos rfl, if_pos h]
      rw [e]
      subst h
      go_enter Tryz.func20, Tryz.ntmps20
      go_wp2_with fail
      go_ret
      exact ⟨rfl, rfl⟩
    · have e : plc s p true = 0 := by unfold plc; rw [if_pos rfl, if_neg h]
      rw [e]
      have hb : (s.toList == p.toList) = false := (Lib.bytes_beq_false_iff s p).2 h
      go_enter Tryz.func20, Tryz.ntmps20
      go_wp2_with fail
      go_ret
      exact ⟨rfl, rfl⟩
/-- How a cell lies. -/
def cL : EL (Int × Int) := ⟨28, 2, fun x => [.int .i64 x.1, .int .i64 x.2], fun _ => rfl, fun x u hu => by simp at hu; rcases hu with rfl | rfl <;> rfl⟩
theorem infoC : (Tryz.prog.info? 28).map (fun i => (i.zero, i.size, i.bytes)) = some (some (.agg #[.int .i64 0, .int .i64 0]), 2, 16) := by kernel_rfl
theorem RV.cell {w : World} {v : Value} {xs : List (Int × Int)} {wx : World} (h : RV cL w v xs wx) (hl : xs.length ≤ 10000) (c r : Int) :
    ∃ g k w', (Builtin.append_ #[24, 24] 24 #[v, .slice (some ⟨wx.heap.size, 0, none⟩) 1 1]).run Tryz.prog (wx.alloc (.cells #[.int .i64 c, .int .i64 r] 28)) = .ok (.slice (some ⟨g, 0, none⟩) (xs.length + 1) k) w' ∧ RV cL w (.slice (some ⟨g, 0, none⟩) (xs.length + 1) k) (xs ++ [(c, r)]) w' :=
  h.one 24 (b := 16) Tryz.underlying24 infoC rfl (by decide) (by omega) (by omega) (c, r) _ rfl
/-- The cells that have a part. -/
def fnd (p : ByteArray) (wh : Bool) (xs : List ps.Fl) : List (Int × Int) := (xs.filter fun f => decide (0 < plc f.s p wh)).map fun f => (f.c, f.r)
theorem fnd_snoc (p : ByteArray) (wh : Bool) (xs : List ps.Fl) (f : ps.Fl) : fnd p wh (xs ++ [f]) = fnd p wh xs ++ (if 0 < plc f.s p wh then [(f.c, f.r)] else []) := by
  unfold fnd
  rw [List.filter_append, List.map_append]
  by_cases h : 0 < plc f.s p wh <;> simp [h]
theorem fnd_len (p : ByteArray) (wh : Bool) (xs : List ps.Fl) : (fnd p wh xs).length ≤ xs.length := by
  unfold fnd
  rw [List.length_map]
  exact List.length_filter_le _ _
end Go.Proofs.YtlaeoofjoofbcaaGreatDoor.fw

/- find.Find, whole. Conditions: what the package variables hold. -/
namespace Go.Proofs.YtlaeoofjoofbcaaGreatDoor.fw
open Go.RowKit Go.Sort
/-- What Find answers. -/
def FndO (w : World) (xs : List ps.Fl) (part : ByteArray) (wh : Bool) (t : Int) (e : Ending) (w' : World) : Prop :=
  (t ≠ 0 ∧ e = .returned (.tuple #[.slice none 0 0, ps.errV t]) ∧ Bw w w') ∨
      (t = 0 ∧ part.size = 0 ∧ e = .returned (.tuple #[.slice none 0 0, ps.errV 2]) ∧ Bw w w') ∨
      (t = 0 ∧ 1 ≤ part.size ∧ ∃ v, e = .returned (.tuple #[v, .nilIface]) ∧ RV cL w v (fnd part wh xs) w')
set_option maxRecDepth 1000000 in
set_option maxHeartbeats 4000000 in
theorem find_any (p : Option Addr) (c : Nat) (xs : List ps.Fl) (part : ByteArray) (wh : Bool) (w : World) (hx : ps.FM w p xs) (hE : ps.EnvP w) (hm : MX w) (t : Int) (ht : ps.Told xs t) :
    Calls Tryz.prog 8 #[.slice p xs.length c, .string part, .bool wh] w fun e w' =>
      FndO w xs part wh t e w' := by
  have HG := ps.gcheck_any p c xs w hx hE
  have HX : Hid (ps.FM w p xs) := hx
  have HM : Hid (MX w) := hm
  have HT : Hid (ps.Told xs t) := ht
  clear hx hE hm ht
  go_enter Tryz.func8, Tryz.ntmps8
  go_wp2_with fail
  refine HG.mono ?_
  rintro e w1 ⟨⟨t', rfl, ht'⟩, hb1⟩
  obtain rfl : t = t' := HT.out.one ht'
  have HB1 : Hid (Bw w w1) := hb1
  clear ht' hb1 HG
  dsimp only
  by_cases h0 : t = 0
  · subst h0
    rw [ps.errV_zero]
    by_cases hp : part.size = 0
    · obtain rfl := ps.size_nul hp
      go_wp2_with fail
      exact bodyPost_ret (v := .tuple #[.slice none 0 0, ps.errV 2]) (by simp [results, Tryz.results8, go_sem, ps.errV]) rfl (.inr (.inl ⟨rfl, hp, rfl, HB1⟩))
    · have hpe : part.toList.isEmpty = false := by
        rw [Bool.eq_false_iff]
        exact fun e => hp (ps.emp_yes e)
      have HP1 : Hid (1 ≤ part.size) := by show 1 ≤ _; omega
      have HF : Hid (xs.length ≤ 200 ∧ ∀ (i : Nat) (x : ps.Fl), xs[i]? = some x → x.s.size ≠ 0 ∧ x.s.size ≤ 200) := by
        rcases HT.out with ⟨h1, h2⟩ | ⟨h1, ⟨-, h2⟩ | ⟨h2, -⟩⟩
        · exact absurd h2 (by decide)
        · exact ⟨h1, fun i x hx => ps.ckT_zero (ps.cd_zero hx (h2 i (List.getElem?_eq_some_iff.1 hx).1)).2.2⟩
        · exact absurd rfl h2
      clear hp
      go_upto_block 0 with fail
      go_cut [9] (fun s9 wx => Hid (RV cL w s9 (fnd part wh xs) wx))
      case first =>
        go_wp2_with fail
        go_loopw [9, 22] (fun s9 s22 wr => ∃ i : Nat, s22 = .int .i64 (i : Int) ∧ i ≤ xs.length ∧ Hid (RV cL w s9 (fnd part wh (xs.take i)) wr)) (fun _ s22 _ => xs.length - (intOf s22).toNat)
        case atStart => exact ⟨0, rfl, Nat.zero_le _, (RV.nil cL w).next HB1.out⟩
        case round =>
          obtain ⟨i, rfl, hi, HV⟩ := hrel
          by_cases hlt : i < xs.length
          · have hlt' : (i : Int) < (xs.length : Int) := by omega
            have hi0 : (0 : Int) ≤ (i : Int) := by omega
            have hi9 : (i : Int) < 200 := by have := HF.out.1; omega
            have hx : xs[i]? = some xs[i] := List.getElem?_eq_getElem hlt
            obtain ⟨x, ex⟩ : ∃ x, xs[i] = x := ⟨_, rfl⟩
            rw [ex] at hx
            have HX2 : Hid (ps.FM wr p xs) := HX.out.below HV.out.below
            obtain ⟨gx, ox, rfl, hgx⟩ := ps.FM.at HX2.out hx
            obtain ⟨c0, c1, c2⟩ := ps.FM.cells HX2.out hx
            have HS := fnd_snoc part wh (xs.take i) x
            have HTK : Hid (xs.take (i + 1) = xs.take i ++ [x]) := by show _ = _; rw [List.take_add_one, hx]; rfl
            rw [← HTK.out] at HS
            have HSZ := HF.out.2 i x hx
            have HLN : Hid ((fnd part wh (xs.take i)).length ≤ 10000) := by
              have h1 := fnd_len part wh (xs.take i)
              have h2 := HF.out.1
              rw [List.length_take] at h1
              show _ ≤ _
              omega
            obtain ⟨p9, k9, e9, -⟩ := HV.out.form
            subst e9
            have hpl : ∀ wx, Bw w wx → Calls Tryz.prog 20 #[.string x.s, .string part, .bool wh] wx fun e w' => e = .returned (.int .i64 (plc x.s part wh : Nat)) ∧ w' = wx := fun wx hb => places_any x.s part wh wx HSZ.2 HP1.out (HM.out.next hb)
            have HPL : Hid (∀ wx, Bw w wx → Calls Tryz.prog 20 #[.string x.s, .string part, .bool wh] wx fun e w' => e = .returned (.int .i64 (plc x.s part wh : Nat)) ∧ w' = wx) := hpl
            clear hpl HSZ hx ex HX2
            obtain ⟨n, en⟩ : ∃ n, plc x.s part wh = n := ⟨_, rfl⟩
            rw [en] at HPL HS
            clear en
            obtain ⟨xc, xr, xs2⟩ := x
            dsimp only at c0 c1 c2 HPL HS
            go_upto_region 10 with fail
            have HW4 : Hid (RV cL w (.slice p9 (fnd part wh (xs.take i)).length k9) (fnd part wh (xs.take i)) (wr.alloc (.cells #[.int .i64 xc, .int .i64 xr, .string xs2] 30)) ∧ (wr.alloc (.cells #[.int .i64 xc, .int .i64 xr, .string xs2] 30)).heap[wr.heap.size]? = some (.cells #[.int .i64 xc, .int .i64 xr, .string xs2] 30)) := ⟨HV.out.next (Bw.al _ _), heap_alloc_new _ _⟩
            clear HV c0 c1 c2
            generalize wr.alloc (.cells #[.int .i64 xc, .int .i64 xr, .string xs2] 30) = w4 at *
            generalize wr.heap.size = gp at *
            have d0 : w4.cell? ⟨gp, 0, none⟩ = some (.int .i64 xc) := by rw [cell_of_row w4 gp 0 _ _ (0, 0) HW4.out.2]; rfl
            have d1 : w4.cell? ⟨gp, 1, none⟩ = some (.int .i64 xr) := by rw [cell_of_row w4 gp 1 _ _ (0, 0) HW4.out.2]; rfl
            have d2 : w4.cell? ⟨gp, 2, none⟩ = some (.string xs2) := by rw [cell_of_row w4 gp 2 _ _ (0, 0) HW4.out.2]; rfl
            by_cases hn : 0 < n
            · have hn' : (n : Int) > 0 := by omega
              rw [if_pos hn] at HS
              obtain ⟨g2, k2, w5, hr, hV5⟩ := HW4.out.1.cell HLN.out xc xr
              rw [← HS] at hV5
              have HR5 : Hid ((Builtin.append_ #[24, 24] 24 #[.slice p9 (fnd part wh (xs.take i)).length k9, .slice (some ⟨w4.heap.size, 0, none⟩) 1 1]).run Tryz.prog (w4.alloc (.cells #[.int .i64 xc, .int .i64 xr] 28)) = .ok (.slice (some ⟨g2, 0, none⟩) ((fnd part wh (xs.take i)).length + 1) k2) w5) := hr
              have HV5 : Hid (RV cL w (.slice (some ⟨g2, 0, none⟩) ((fnd part wh (xs.take i)).length + 1) k2) (fnd part wh (xs.take (i + 1))) w5) := hV5
              have HP4 := HPL.out w4 HW4.out.1.below
              clear hr hV5 HLN HW4 HS HPL
              generalize (fnd part wh (xs.take i)).length + 1 = n3 at *
              generalize (fnd part wh (xs.take i)).length = n2 at *
              go_wp2_with fail
              refine HP4.mono ?_
              clear HP4
              rintro e w6 ⟨rfl, rfl⟩
              dsimp only
              go_wp2_with (first | (at_builtin; refine wpList_append_eq rfl _ _ 24 24 rfl _ _ _ _ rfl rfl HR5.out ?_))
              exact ⟨⟨i + 1, rfl, hlt, HV5⟩, by simp [intOf]; omega⟩
            · have hn' : ¬ (n : Int) > 0 := by omega
              rw [if_neg hn, List.append_nil] at HS
              have HV5 : Hid (RV cL w (.slice p9 (fnd part wh (xs.take i)).length k9) (fnd part wh (xs.take (i + 1))) w4) := by rw [HS]; exact HW4.out.1
              have HP4 := HPL.out w4 HW4.out.1.below
              clear HLN HW4 HS HPL
              generalize (fnd part wh (xs.take i)).length = n2 at *
              go_wp2_with fail
              refine HP4.mono ?_
              clear HP4
              rintro e w6 ⟨rfl, rfl⟩
              dsimp only
              go_wp2_with fail
              exact ⟨⟨i + 1, rfl, hlt, HV5⟩, by simp [intOf]; omega⟩
          · have hlt' : ¬ (i : Int) < (xs.length : Int) := by omega
            have e1 : xs.take i = xs := List.take_of_length_le (by omega)
            rw [e1] at HV
            go_wp2_with fail
            go_meet
            case rel => exact HV
      case rest =>
      have HV : Hid (RV cL w u9 (fnd part wh xs) wc) := hcut
      clear hcut
      apply_assumption
      go_wp2_with fail
      exact bodyPost_ret (v := .tuple #[u9, .nilIface]) (by simp [results, Tryz.results8, go_sem]) rfl (.inr (.inr ⟨rfl, HP1, u9, rfl, HV⟩))
  · rw [ps.errV_some h0]
    go_wp2_with fail
    exact bodyPost_ret (v := .tuple #[.slice none 0 0, .iface 52 (.int .i64 t)]) (by simp [results, Tryz.results8, go_sem]) rfl (.inl ⟨h0, by rw [ps.errV_some h0], HB1⟩)
end Go.Proofs.YtlaeoofjoofbcaaGreatDoor.fw

/- The document's Has, sccsame.Cells at two lists that are the same, and scclaw6.at. Conditions: as each theorem says. -/
namespace Go.Proofs.YtlaeoofjoofbcaaGreatDoor.fw
open Go.RowKit Go.Sort
theorem neq28 (a b c d : Int) (W : World) : (binOp BinOp.neq 28 (.agg #[.int .i64 a, .int .i64 b]) (.agg #[.int .i64 c, .int .i64 d])).run Tryz.prog W = .ok (.bool (!(decide (a = c) && decide (b = d)))) W := by
  rw [run_neq_struct, show (10000 : Nat) = 9998 + 2 from rfl, ps.eqIn30]; rfl
/-- Is a cell among these? -/
def hasB (X : List (Int × Int)) (c r : Int) : Bool := X.any fun x => decide (x.1 = c) && decide (x.2 = r)
theorem RV.two {w : World} {v : Value} {X : List (Int × Int)} {wx : World} (h : RV cL w v X wx) {i : Nat} {x : Int × Int} (hx : X[i]? = some x) : ∃ g c, v = .slice (some ⟨g, 0, none⟩) X.length c ∧ wx.cell? ⟨g, i * 2, none⟩ = some (.int .i64 x.1) ∧ wx.cell? ⟨g, i * 2 + 1, none⟩ = some (.int .i64 x.2) := by
  obtain ⟨g, c, e1, -, -, hc⟩ := h.at hx
  exact ⟨g, c, e1, hc 0 _ rfl, hc 1 _ rfl⟩
set_option maxRecDepth 1000000 in
set_option maxHeartbeats 4000000 in
theorem rhas_any (X : List (Int × Int)) (v : Value) (w0 w : World) (hv : RV cL w0 v X w) (hl : X.length ≤ 100000) (c r : Int) :
    Calls Tryz.prog 15 #[v, .agg #[.int .i64 c, .int .i64 r]] w fun e w' => e = .returned (.bool (hasB X c r)) ∧ Bw w w' := by
  have HV : Hid (RV cL w0 v X w) := hv
  have hl9 : (X.length : Int) ≤ 100000 := by omega
  obtain ⟨pX, cX, eV, -⟩ := hv.form
  subst eV
  clear hv hl
  go_enter Tryz.func15, Tryz.ntmps15
  go_upto_block 0 with fail
  have HA : Hid ((w.alloc (.cells #[.int .i64 c, .int .i64 r] 28)).heap[w.heap.size]? = some (.cells #[.int .i64 c, .int .i64 r] 28) ∧ Bw w (w.alloc (.cells #[.int .i64 c, .int .i64 r] 28))) := ⟨heap_alloc_new _ _, Bw.al _ _⟩
  generalize w.alloc (.cells #[.int .i64 c, .int .i64 r] 28) = w1 at *
  generalize w.heap.size = gB at *
  go_cut [] (fun wx => Hid (hasB X c r = false ∧ Bw w wx))
  case first =>
    go_wp2_with fail
    go_loopw [5] (fun s5 wr => ∃ i : Nat, s5 = .int .i64 (i : Int) ∧ i ≤ X.length ∧ Hid (hasB (X.take i) c r = false ∧ Bw w1 wr)) (fun s5 _ => X.length - (intOf s5).toNat)
    case atStart => exact ⟨0, rfl, Nat.zero_le _, rfl, Below.refl _ _⟩
    case round =>
      obtain ⟨i, rfl, hi, HR⟩ := hrel
      by_cases hlt : i < X.length
      · have hlt' : (i : Int) < (X.length : Int) := by omega
        have hi0 : (0 : Int) ≤ (i : Int) := by omega
        have hx : X[i]? = some X[i] := List.getElem?_eq_getElem hlt
        obtain ⟨x, ex⟩ : ∃ x, X[i] = x := ⟨_, rfl⟩
        rw [ex] at hx
        have HHS : Hid (hasB (X.take (i + 1)) c r = (hasB (X.take i) c r || (decide (x.1 = c) && decide (x.2 = r)))) := by
          show _ = _
          unfold hasB
          rw [List.take_add_one, hx]
          simp [List.any_append]
        have HIN : Hid ((decide (x.1 = c) && decide (x.2 = r)) = true → hasB X c r = true) := by
          intro h
          unfold hasB
          rw [List.any_eq_true]
          exact ⟨x, List.mem_of_getElem? hx, h⟩
        obtain ⟨gX, k9, e1, q0, q1⟩ := (HV.out.next (HA.out.2.tr HR.out.2)).two hx
        injection e1 with e2 e3 e4
        subst e2
        have hB : wr.heap[gB]? = some (.cells #[.int .i64 c, .int .i64 r] 28) := by
          rw [HR.out.2.block gB (Array.getElem?_eq_some_iff.1 HA.out.1).1]
          exact HA.out.1
        have d0 : wr.cell? ⟨gB, 0, none⟩ = some (.int .i64 c) := by rw [cell_of_row wr gB 0 _ _ (0, 0) hB]; rfl
        have d1 : wr.cell? ⟨gB, 1, none⟩ = some (.int .i64 r) := by rw [cell_of_row wr gB 1 _ _ (0, 0) hB]; rfl
        have e28 := fun W => ps.eql30 x.1 x.2 c r W
        clear hx ex hB e3 e4
        obtain ⟨xc, xr⟩ := x
        dsimp only at q0 q1 HHS HIN e28
        go_wp2_with fail
        go_cut [17] (fun s17 wx => s17 = .bool (decide (xc = c) && decide (xr = r)) ∧ wx = wr.drew)
        case first =>
          go_region
          all_goals
            go_wp2_with fail
            go_meet
            case rel => exact ⟨rfl, rfl⟩
        case rest =>
        obtain ⟨rfl, rfl⟩ := hcut
        obtain ⟨bb, ebb⟩ : ∃ b, (decide (xc = c) && decide (xr = r)) = b := ⟨_, rfl⟩
        rw [ebb] at HHS HIN ⊢
        apply_assumption
        clear q0 q1 d0 d1 e28 ebb
        cases bb
        · have HR2 : Hid (hasB (X.take (i + 1)) c r = false ∧ Bw w1 wr.drew) := ⟨by rw [HHS.out, HR.out.1]; rfl, HR.out.2.drew⟩
          go_wp2_with fail
          exact ⟨⟨i + 1, rfl, hlt, HR2⟩, by simp [intOf]; omega⟩
        · have HT : Hid (hasB X c r = true) := HIN.out rfl
          have HBW : Hid (Bw w wr.drew) := HA.out.2.tr HR.out.2.drew
          go_wp2_with fail
          go_ret
          exact ⟨by rw [HT.out]; rfl, HBW⟩
      · have hlt' : ¬ (i : Int) < (X.length : Int) := by omega
        have e1 : X.take i = X := List.take_of_length_le (by omega)
        rw [e1] at HR
        go_wp2_with fail
        go_meet
        case rel => exact ⟨HR.out.1, HA.out.2.tr HR.out.2⟩
  case rest =>
  have HC := hcut
  clear hcut
  apply_assumption
  go_wp2_with fail
  go_ret
  exact ⟨by rw [HC.out.1]; rfl, HC.out.2⟩
set_option maxRecDepth 1000000 in
set_option maxHeartbeats 4000000 in
theorem rcells_any (X : List (Int × Int)) (v v' : Value) (w0 w0' w : World) (hv : RV cL w0 v X w) (hv' : RV cL w0' v' X w) (hl : X.length ≤ 100000) :
    Calls Tryz.prog 10 #[v, v'] w fun e w' => e = .returned (.bool true) ∧ Bw w w' := by
  have HV : Hid (RV cL w0 v X w) := hv
  have HV' : Hid (RV cL w0' v' X w) := hv'
  have hl9 : (X.length : Int) ≤ 100000 := by omega
  obtain ⟨pX, cX, eV, -⟩ := hv.form
  subst eV
  obtain ⟨pX', cX', eV', -⟩ := hv'.form
  subst eV'
  clear hv hl hv'
  go_enter Tryz.func10, Tryz.ntmps10
  go_upto_block 0 with fail
  go_cut [] (fun wx => Hid (Bw w wx))
  case first =>
    go_wp2_with fail
    go_loopw [5] (fun s5 wr => ∃ i : Nat, s5 = .int .i64 (i : Int) ∧ i ≤ X.length ∧ Hid (Bw w wr)) (fun s5 _ => X.length - (intOf s5).toNat)
    case atStart => exact ⟨0, rfl, Nat.zero_le _, Below.refl _ _⟩
    case round =>
      obtain ⟨i, rfl, hi, HR⟩ := hrel
      by_cases hlt : i < X.length
      · have hlt' : (i : Int) < (X.length : Int) := by omega
        have hi0 : (0 : Int) ≤ (i : Int) := by omega
        have hx : X[i]? = some X[i] := List.getElem?_eq_getElem hlt
        obtain ⟨x, ex⟩ : ∃ x, X[i] = x := ⟨_, rfl⟩
        rw [ex] at hx
        obtain ⟨gX, k9, e1, q0, q1⟩ := (HV.out.next HR.out).two hx
        injection e1 with e2 e3 e4
        subst e2
        obtain ⟨gY, k8, e1', r0, r1⟩ := (HV'.out.next HR.out).two hx
        injection e1' with e2' e3' e4'
        subst e2'
        have e28 : ∀ W, (binOp BinOp.neq 28 (.agg #[.int .i64 x.1, .int .i64 x.2]) (.agg #[.int .i64 x.1, .int .i64 x.2])).run Tryz.prog W = .ok (.bool false) W := fun W => by rw [neq28]; simp
        clear hx ex e3 e4 e3' e4'
        obtain ⟨xc, xr⟩ := x
        dsimp only at q0 q1 r0 r1 e28
        go_wp2_with fail
        go_cut [25] (fun s25 wx => s25 = .bool false ∧ wx = wr.drew)
        case first =>
          go_region
          all_goals
            go_wp2_with fail
            go_meet
            case rel => exact ⟨rfl, rfl⟩
        case rest =>
        obtain ⟨rfl, rfl⟩ := hcut
        apply_assumption
        clear q0 q1 r0 r1 e28
        have HR2 : Hid (Bw w wr.drew) := HR.out.drew
        go_wp2_with fail
        exact ⟨⟨i + 1, rfl, hlt, HR2⟩, by simp [intOf]; omega⟩
      · have hlt' : ¬ (i : Int) < (X.length : Int) := by omega
        go_wp2_with fail
        go_meet
        case rel => exact HR
  case rest =>
  have HC := hcut
  clear hcut
  apply_assumption
  go_wp2_with fail
  go_ret
  exact ⟨rfl, HC.out⟩
set_option maxRecDepth 1000000 in
theorem at_any (c r : Int) (w : World) :
    Calls Tryz.prog 14 #[.int .i64 c, .int .i64 r] w fun e w' => e = .returned (.agg #[.int .i64 c, .int .i64 r]) ∧ Bw w w' := by
  go_enter Tryz.func14, Tryz.ntmps14
  go_wp2_with fail
  exact bodyPost_ret (v := .agg #[.int .i64 c, .int .i64 r]) (by simp [results, Tryz.results14, go_sem]) rfl ⟨rfl, Bw.al _ _⟩
end Go.Proofs.YtlaeoofjoofbcaaGreatDoor.fw

/- The law FindWhole. Conditions: what the package variables hold. -/
namespace Go.Proofs.YtlaeoofjoofbcaaGreatDoor.fw
open Go.RowKit Go.Sort
theorem least {P : Nat → Prop} (n : Nat) : P n → ∃ i, P i ∧ ∀ j, j < i → ¬ P j := by
  induction n using Nat.strongRecOn with
  | _ n ih =>
    intro h
    by_cases h2 : ∃ m, m < n ∧ P m
    · obtain ⟨m, hm, hp⟩ := h2
      exact ih m hm hp
    · exact ⟨n, h, fun j hj hp => h2 ⟨j, hj, hp⟩⟩
/-- Something is told of every list. -/
theorem told_ex (xs : List ps.Fl) : ∃ t, ps.Told xs t := by
  by_cases h : 200 < xs.length
  · exact ⟨4, .inl ⟨h, rfl⟩⟩
  · by_cases h2 : ∀ i, i < xs.length → ps.cd xs i = 0
    · exact ⟨0, .inr ⟨by omega, .inl ⟨rfl, h2⟩⟩⟩
    · have h3 : ∃ i, i < xs.length ∧ ps.cd xs i ≠ 0 := by
        refine Classical.byContradiction fun hn => h2 fun i hi => Classical.byContradiction fun hc => hn ⟨i, hi, hc⟩
      obtain ⟨n, hn⟩ := h3
      obtain ⟨i, ⟨hi, hc⟩, hl⟩ := least (P := fun i => i < xs.length ∧ ps.cd xs i ≠ 0) n hn
      refine ⟨ps.cd xs i, .inr ⟨by omega, .inr ⟨hc, i, hi, rfl, fun j hj => ?_⟩⟩⟩
      exact Classical.byContradiction fun h4 => hl j hj ⟨by omega, h4⟩
/-- A cell of a sheet is found if and only if its own text has the part. -/
theorem has_fnd {xs : List ps.Fl} (hs : ps.Srt xs) (part : ByteArray) (wh : Bool) {i : Nat} {x : ps.Fl} (hx : xs[i]? = some x) : hasB (fnd part wh xs) x.c x.r = decide (0 < plc x.s part wh) := by
  rw [Bool.eq_iff_iff, decide_eq_true_eq]
  unfold hasB fnd
  rw [List.any_eq_true]
  constructor
  · rintro ⟨y, hy, h⟩
    rw [List.mem_map] at hy
    obtain ⟨f, hf, rfl⟩ := hy
    rw [List.mem_filter] at hf
    rw [Bool.and_eq_true, decide_eq_true_eq, decide_eq_true_eq] at h
    obtain ⟨a, ha⟩ := List.getElem?_of_mem hf.1
    have e : a = i := by
      rcases Nat.lt_trichotomy a i with h1 | h1 | h1
      · have h2 := ps.srt_get hs ha hx h1
        rw [ps.lt_iff] at h2
        dsimp only at h
        omega
      · exact h1
      · have h2 := ps.srt_get hs hx ha h1
        rw [ps.lt_iff] at h2
        dsimp only at h
        omega
    subst e
    rw [hx] at ha
    obtain rfl := Option.some.inj ha
    exact of_decide_eq_true hf.2
  · intro h
    refine ⟨(x.c, x.r), List.mem_map.2 ⟨x, List.mem_filter.2 ⟨List.mem_of_getElem? hx, decide_eq_true h⟩, rfl⟩, ?_⟩
    simp
theorem size_eq_list (s : ByteArray) : s.toList.length = s.size := size_list s
theorem plc_whole (s p : ByteArray) (hp : 1 ≤ p.size) : decide (0 < plc s p true) = (decide (0 < plc s p false) && decide (s.size = p.size)) := by
  have e1 : plc s p true = if s = p then 1 else 0 := by unfold plc; rw [if_pos rfl]
  have e2 : plc s p false = (cntL p.toList [] s.toList).1 := by unfold plc; rw [if_neg (by simp)]
  rw [e1, e2]
  by_cases h : s = p
  · subst h
    rw [cnt_self (ne_nil hp)]
    simp
  · rw [if_neg h]
    by_cases h2 : s.size = p.size
    · have h3 : ¬ 0 < (cntL p.toList [] s.toList).1 := fun hc => by
        have := cnt_whole (ne_nil hp) [] (by rw [size_list, size_list, h2]) hc
        have hq := (Lib.bytes_beq_false_iff s p).2 h
        rw [this] at hq
        simp at hq
      simp [h3]
    · simp [h2]
theorem plc_ab : fnd ⟨#[98]⟩ false [⟨1, 1, ⟨#[97, 98]⟩⟩] = [(1, 1)] := by
  have e1 : (⟨#[98]⟩ : ByteArray).toList = [98] := by rw [ByteArray.toList_eq]
  have e2 : (⟨#[97, 98]⟩ : ByteArray).toList = [97, 98] := by rw [ByteArray.toList_eq]
  have e : plc ⟨#[97, 98]⟩ ⟨#[98]⟩ false = 1 := by
    unfold plc
    rw [if_neg (by simp), e1, e2, cnt_no (by decide), cnt_yes (by decide) (by decide)]
    simp [cnt_nil]
  unfold fnd
  simp [e]
theorem told_ab : ps.Told [⟨1, 1, ⟨#[97, 98]⟩⟩] 0 := by
  refine .inr ⟨by simp, .inl ⟨rfl, fun i hi => ?_⟩⟩
  have : i = 0 := by simp at hi; exact hi
  subst this
  have h1 : ([⟨1, 1, ⟨#[97, 98]⟩⟩] : List ps.Fl)[0]? = some ⟨1, 1, ⟨#[97, 98]⟩⟩ := rfl
  rw [ps.cd_text h1 (by decide) rfl]
  exact ps.ckT_const (by decide) (by decide) (by decide +kernel)
theorem FndO.bad {w : World} {xs : List ps.Fl} {part : ByteArray} {wh : Bool} {t : Int} {e : Ending} {w' : World} (h : FndO w xs part wh t e w') (hb : t ≠ 0 ∨ part.size = 0) : ∃ z, e = .returned (.tuple #[.slice none 0 0, .iface 52 (.int .i64 z)]) ∧ Bw w w' := by
  rcases h with ⟨h1, h2, h3⟩ | ⟨-, -, h2, h3⟩ | ⟨h1, h2, -⟩
  · exact ⟨t, by rw [h2, ps.errV_some h1], h3⟩
  · exact ⟨2, h2, h3⟩
  · rcases hb with h | h
    · exact absurd h1 h
    · omega
theorem FndO.good {w : World} {xs : List ps.Fl} {part : ByteArray} {wh : Bool} {t : Int} {e : Ending} {w' : World} (h : FndO w xs part wh t e w') (hb : ¬ (t ≠ 0 ∨ part.size = 0)) : ∃ v, e = .returned (.tuple #[v, .nilIface]) ∧ RV cL w v (fnd part wh xs) w' := by
  rcases h with ⟨h1, -⟩ | ⟨-, h1, -⟩ | ⟨-, -, h1⟩
  · exact absurd (.inl h1) hb
  · exact absurd (.inr h1) hb
  · exact h1
set_option maxRecDepth 1000000 in
set_option maxHeartbeats 8000000 in
theorem findWhole_any (p : Option Addr) (c : Nat) (xs : List ps.Fl) (part : ByteArray) (w : World) (hx : ps.FM w p xs) (hE : ps.EnvP w) (hm : MX w) :
    Calls Tryz.prog 5 #[.slice p xs.length c, .string part] w fun e w' => e = .returned (.bool true) ∧ Bw w w' := by
  obtain ⟨t, ht⟩ := told_ex xs
  have HX : Hid (ps.FM w p xs) := hx
  have HE : Hid (ps.EnvP w) := hE
  have HM : Hid (MX w) := hm
  have HT : Hid (ps.Told xs t) := ht
  have HFI : Hid (∀ wx wh, Bw w wx → Calls Tryz.prog 8 #[.slice p xs.length c, .string part, .bool wh] wx fun e w' => FndO wx xs part wh t e w') := fun wx wh hb => find_any p c xs part wh wx (hx.below hb) (hE.below hb hE.size) (hm.next hb) t ht
  have HF0 : Hid (∀ wx, Bw w wx → Calls Tryz.prog 8 #[.slice (some ⟨wx.heap.size, 0, none⟩) 1 1, .string ⟨#[98]⟩, .bool false] (wx.alloc (.cells #[.int .i64 1, .int .i64 1, .string ⟨#[97, 98]⟩] 30)) fun e w' => ∃ v k, e = .returned (.tuple #[.slice v 1 k, .nilIface]) ∧ Bw w w') := by
    intro wx hb
    have hb2 := hb.tr (Bw.al wx (.cells #[.int .i64 1, .int .i64 1, .string ⟨#[97, 98]⟩] 30))
    refine (find_any (some ⟨wx.heap.size, 0, none⟩) 1 [⟨1, 1, ⟨#[97, 98]⟩⟩] ⟨#[98]⟩ false _ (ps.fm_new wx ⟨1, 1, ⟨#[97, 98]⟩⟩) (hE.below hb2 hE.size) (hm.next hb2) 0 told_ab).mono ?_
    rintro e w' (⟨h, -⟩ | ⟨-, h, -⟩ | ⟨-, -, v, rfl, hv⟩)
    · exact absurd rfl h
    · exact absurd h (by decide)
    · rw [plc_ab] at hv
      obtain ⟨q, k, e, -⟩ := hv.form
      exact ⟨q, k, by rw [e]; rfl, hb2.tr hv.below⟩
  clear hx hE hm ht
  go_enter Tryz.func5, Tryz.ntmps5
  go_wp2_with fail
  refine (at_any 1 1 w).mono ?_
  rintro e w1 ⟨rfl, hb1⟩
  have HB1 : Hid (Bw w w1) := hb1
  clear hb1
  dsimp only
  go_wp2_with fail
  refine (HF0.out w1 HB1.out).mono ?_
  rintro e w2 ⟨v, k, rfl, hb2⟩
  have HB2 : Hid (Bw w w2) := hb2
  clear hb2 HF0 HB1
  dsimp only
  go_wp2_with fail
  refine (HFI.out w2 true HB2.out).mono ?_
  intro e w3 h3
  by_cases hbad : t ≠ 0 ∨ part.size = 0
  · obtain ⟨z, rfl, hb3⟩ := h3.bad hbad
    have HB3 : Hid (Bw w w3) := HB2.out.tr hb3
    have HBAD : Hid (t ≠ 0 ∨ part.size = 0) := hbad
    clear hbad hb3 h3
    dsimp only
    go_wp2_with fail
    refine (HFI.out w3 false HB3.out).mono ?_
    intro e w4 h4
    obtain ⟨z', rfl, hb4⟩ := h4.bad HBAD.out
    have HB4 : Hid (Bw w w4) := HB3.out.tr hb4
    clear hb4 h4
    dsimp only
    go_wp2_with fail
    go_ret
    exact ⟨rfl, HB4⟩
  · obtain ⟨va, rfl, hva⟩ := h3.good hbad
    have HA3 : Hid (RV cL w2 va (fnd part true xs) w3) := hva
    have HB3 : Hid (Bw w w3) := HB2.out.tr hva.below
    have HGD : Hid (¬ (t ≠ 0 ∨ part.size = 0)) := hbad
    clear hbad hva h3
    dsimp only
    go_wp2_with fail
    refine (HFI.out w3 false HB3.out).mono ?_
    intro e w4 h4
    obtain ⟨vb, rfl, hvb⟩ := h4.good HGD.out
    have HA4 : Hid (RV cL w2 va (fnd part true xs) w4) := HA3.out.next hvb.below
    have HB4 : Hid (RV cL w3 vb (fnd part false xs) w4) := hvb
    have HW4 : Hid (Bw w w4) := HB3.out.tr hvb.below
    clear hvb h4 HA3 HB3 HB2 HFI
    dsimp only
    have HFN : Hid (xs.length ≤ 200 ∧ ps.Srt xs) := by
      have ht0 : t = 0 := Classical.byContradiction fun h => HGD.out (.inl h)
      have h0 := HT.out
      rw [ht0] at h0
      have hf := ps.Told.fine h0
      rcases h0 with ⟨-, h⟩ | ⟨h, -⟩
      · exact absurd h (by decide)
      · exact ⟨h, hf.srt⟩
    have HP1 : Hid (1 ≤ part.size) := by
      show 1 ≤ _
      have := HGD.out
      omega
    clear HT HGD HE HM
    go_upto_block 0 with fail
    go_cut [] (fun wx => Hid (Bw w wx))
    case first =>
      go_wp2_with fail
      go_loopw [11] (fun s11 wr => ∃ i : Nat, s11 = .int .i64 (i : Int) ∧ i ≤ xs.length ∧ Hid (Bw w4 wr)) (fun s11 _ => xs.length - (intOf s11).toNat)
      case atStart => exact ⟨0, rfl, Nat.zero_le _, Below.refl _ _⟩
      case round =>
        obtain ⟨i, rfl, hi, HR⟩ := hrel
        by_cases hlt : i < xs.length
        · have hlt' : (i : Int) < (xs.length : Int) := by omega
          have hi0 : (0 : Int) ≤ (i : Int) := by omega
          have hi9 : (i : Int) < 200 := by have := HFN.out.1; omega
          have hxx : xs[i]? = some xs[i] := List.getElem?_eq_getElem hlt
          obtain ⟨x, ex⟩ : ∃ x, xs[i] = x := ⟨_, rfl⟩
          rw [ex] at hxx
          have HX2 : Hid (∀ wy, Bw wr wy → ps.FM wy p xs) := fun wy hb => HX.out.below (HW4.out.tr (HR.out.tr hb))
          obtain ⟨gx, ox, rfl, -⟩ := ps.FM.at (HX2.out wr (Below.refl _ _)) hxx
          have HCL : Hid (∀ wy, Bw wr wy → wy.cell? ⟨gx, ox + i * 3, none⟩ = some (.int .i64 x.c) ∧ wy.cell? ⟨gx, ox + i * 3 + 1, none⟩ = some (.int .i64 x.r) ∧ wy.cell? ⟨gx, ox + i * 3 + 2, none⟩ = some (.string x.s)) := fun wy hb => ps.FM.cells (HX2.out wy hb) hxx
          have HHA : Hid (∀ wy, Bw wr wy → Calls Tryz.prog 15 #[va, .agg #[.int .i64 x.c, .int .i64 x.r]] wy fun e w' => e = .returned (.bool (decide (0 < plc x.s part true))) ∧ Bw wy w') := fun wy hb => by
            have h := rhas_any _ va w2 wy (HA4.out.next (HR.out.tr hb)) (by have h1 := fnd_len part true xs; have h2 := HFN.out.1; omega) x.c x.r
            rw [has_fnd HFN.out.2 part true hxx] at h
            exact h
          have HHB : Hid (∀ wy, Bw wr wy → Calls Tryz.prog 15 #[vb, .agg #[.int .i64 x.c, .int .i64 x.r]] wy fun e w' => e = .returned (.bool (decide (0 < plc x.s part false))) ∧ Bw wy w') := fun wy hb => by
            have h := rhas_any _ vb w3 wy (HB4.out.next (HR.out.tr hb)) (by have h1 := fnd_len part false xs; have h2 := HFN.out.1; omega) x.c x.r
            rw [has_fnd HFN.out.2 part false hxx] at h
            exact h
          have HPW := plc_whole x.s part HP1.out
          rw [HPW] at HHA
          generalize decide (0 < plc x.s part false) = y at *
          clear hxx ex HPW HX2
          obtain ⟨xc, xr, xs2⟩ := x
          dsimp only at HCL HHA HHB
          obtain ⟨z, ez⟩ : ∃ z, decide (xs2.size = part.size) = z := ⟨_, rfl⟩
          rw [ez] at HHA
          have hzz : (((xs2.size : Nat) : Int) == ((part.size : Nat) : Int)) = z := by
            rw [← ez, Bool.eq_iff_iff, beq_iff_eq, decide_eq_true_eq]
            omega
          clear ez
          obtain ⟨c0, c1, c2⟩ := HCL.out wr (Below.refl _ _)
          go_wp2_with fail
          refine (HHA.out _ (Below.refl _ _)).mono ?_
          rintro e w5 ⟨rfl, hb5⟩
          have HR5 : Hid (Bw wr w5) := hb5
          clear hb5 c0 c1 c2 HHA
          obtain ⟨c0, c1, c2⟩ := HCL.out w5 HR5.out
          dsimp only
          go_wp2_with fail
          refine (HHB.out _ HR5.out).mono ?_
          rintro e w6 ⟨rfl, hb6⟩
          have HR6 : Hid (Bw wr w6) := HR5.out.tr hb6
          clear hb6 c0 c1 c2 HHB HR5
          obtain ⟨c0, c1, c2⟩ := HCL.out w6 HR6.out
          dsimp only
          have HR7 : Hid (Bw w4 w6) := HR.out.tr HR6.out
          clear HCL HR HR6
          cases y
          · go_wp2_with fail
            exact ⟨⟨i + 1, rfl, hlt, HR7⟩, by simp [intOf]; omega⟩
          · cases z
            · have hz2 : ¬ ((xs2.size : Nat) : Int) = ((part.size : Nat) : Int) := by simpa using hzz
              go_wp2_with fail
              exact ⟨⟨i + 1, rfl, hlt, HR7⟩, by simp [intOf]; omega⟩
            · have hz2 : ((xs2.size : Nat) : Int) = ((part.size : Nat) : Int) := by simpa using hzz
              go_wp2_with fail
              exact ⟨⟨i + 1, rfl, hlt, HR7⟩, by simp [intOf]; omega⟩
        · have hlt' : ¬ (i : Int) < (xs.length : Int) := by omega
          go_wp2_with fail
          go_meet
          case rel => exact HW4.out.tr HR.out
    case rest =>
    have HC := hcut
    clear hcut
    apply_assumption
    go_wp2_with fail
    go_ret
    exact ⟨rfl, HC.out⟩
end Go.Proofs.YtlaeoofjoofbcaaGreatDoor.fw

/- The law FindCells, by what sccsame.Error answers. Conditions: what the package variables hold. -/
namespace Go.Proofs.YtlaeoofjoofbcaaGreatDoor.fw
open Go.RowKit Go.Sort
/-- What the law wants of a text. -/
theorem want_is (s p : ByteArray) (wh : Bool) (hp : 1 ≤ p.size) : ((s.toList == p.toList) || (!wh && decide (0 < (cntL p.toList [] s.toList).1))) = decide (0 < plc s p wh) := by
  cases wh
  · have e2 : plc s p false = (cntL p.toList [] s.toList).1 := by unfold plc; rw [if_neg (by simp)]
    rw [e2]
    by_cases h : s = p
    · subst h
      rw [cnt_self (ne_nil hp)]
      simp
    · rw [(Lib.bytes_beq_false_iff s p).2 h]
      simp
  · have e1 : plc s p true = if s = p then 1 else 0 := by unfold plc; rw [if_pos rfl]
    rw [e1]
    by_cases h : s = p
    · subst h; simp
    · rw [(Lib.bytes_beq_false_iff s p).2 h]
      simp [h]
set_option maxRecDepth 1000000 in
set_option maxHeartbeats 8000000 in
theorem findCells_any (p : Option Addr) (c : Nat) (xs : List ps.Fl) (part : ByteArray) (wh : Bool) (w : World) (hx : ps.FM w p xs) (hps : part.size ≤ 140737488355328) (hE : ps.EnvP w) (hm : MX w)
    (HER : Hid (∀ wx e, Bw w wx → Calls Tryz.prog 9 #[ps.errV e, .int .i64 e] wx fun r w' => r = .returned (.bool true) ∧ Bw wx w')) :
    Calls Tryz.prog 3 #[.slice p xs.length c, .string part, .bool wh] w fun e w' => e = .returned (.bool true) ∧ Bw w w' := by
  obtain ⟨t, ht⟩ := told_ex xs
  have HX : Hid (ps.FM w p xs) := hx
  have HT : Hid (ps.Told xs t) := ht
  have HFI : Hid (∀ wx, Bw w wx → Calls Tryz.prog 8 #[.slice p xs.length c, .string part, .bool wh] wx fun e w' => FndO wx xs part wh t e w') := fun wx hb => find_any p c xs part wh wx (hx.below hb) (hE.below hb hE.size) (hm.next hb) t ht
  have HRC := ps.rcheck_any p c xs w hx
  clear hx hE hm ht
  go_enter Tryz.func3, Tryz.ntmps3
  go_wp2_with fail
  refine HRC.mono ?_
  clear HRC
  rintro e w1 ⟨⟨t', rfl, ht'⟩, hb1⟩
  obtain rfl : t = t' := HT.out.one ht'
  have HB1 : Hid (Bw w w1) := hb1
  clear ht' hb1
  dsimp only
  by_cases h0 : t = 0
  · subst h0
    by_cases hp : part.size = 0
    · obtain rfl := ps.size_nul hp
      go_upto_block 0 with fail
      go_cut [8] (fun s8 wx => s8 = .slice none 0 0 ∧ Hid (Bw w wx))
      case first =>
        go_wp2_with fail
        go_loopw [8] (fun s8 wr => s8 = .slice none 0 0 ∧ Hid (Bw w wr)) (fun _ _ => 0)
        case atStart => exact ⟨rfl, HB1⟩
        case round =>
          obtain ⟨rfl, HBr⟩ := hrel
          go_wp2_with fail
          go_meet
          case rel => exact ⟨rfl, HBr⟩
      case rest =>
      obtain ⟨rfl, HB5⟩ := hcut
      apply_assumption
      go_wp2_with fail
      refine (HFI.out wc HB5.out).mono ?_
      intro e w6 h6
      have E6 : Hid (e = .returned (.tuple #[.slice none 0 0, ps.errV 2]) ∧ Bw wc w6) := by
        rcases h6 with ⟨q1, q2, q3⟩ | ⟨q1, q0, q2, q3⟩ | ⟨q1, q2, -⟩
        · exact absurd rfl q1
        · exact ⟨q2, q3⟩
        · exact absurd q2 (by decide)
      have HB6 : Hid (Bw w w6) := HB5.out.tr E6.out.2
      have e6 := E6.out.1
      subst e6
      clear h6 E6
      dsimp only
      go_wp2_with fail
      refine (HER.out w6 2 HB6.out).mono ?_
      rintro e w7 ⟨rfl, hb7⟩
      have HB7 : Hid (Bw w w7) := HB6.out.tr hb7
      have HQ7 : Hid (Calls Tryz.prog 10 #[(.slice none 0 0), (.slice none 0 0)] w7 fun e w' => e = .returned (.bool true) ∧ Bw w7 w') := rcells_any [] (.slice none 0 0) (.slice none 0 0) w7 w7 w7 (RV.nil cL w7) (RV.nil cL w7) (by simp)
      clear hb7 HB6
      dsimp only
      go_wp2_with fail
      refine HQ7.out.mono ?_
      rintro e w8 ⟨rfl, hb8⟩
      have HB8 : Hid (Bw w w8) := HB7.out.tr hb8
      clear hb8 HB7 HQ7
      dsimp only
      go_wp2_with fail
      go_ret
      exact ⟨rfl, HB8⟩
    · have hpe : part.toList.isEmpty = false := by
        rw [Bool.eq_false_iff]
        exact fun e => hp (ps.emp_yes e)
      have HP1 : Hid (1 ≤ part.size) := by show 1 ≤ _; omega
      have HFN := ps.Told.fine HT.out
      have HF : Hid (ps.Fine xs) := HFN
      clear hp HFN
      go_upto_block 0 with fail
      go_cut [8] (fun s8 wx => Hid (RV cL w s8 (fnd part wh xs) wx))
      case first =>
        go_wp2_with fail
        go_loopw [8, 9] (fun s8 s9 wr => ∃ i : Nat, s9 = .int .i64 (i : Int) ∧ i ≤ xs.length ∧ Hid (RV cL w s8 (fnd part wh (xs.take i)) wr)) (fun _ s9 _ => xs.length - (intOf s9).toNat)
        case atStart => exact ⟨0, rfl, Nat.zero_le _, (RV.nil cL w).next HB1.out⟩
        case round =>
          obtain ⟨i, rfl, hi, HV⟩ := hrel
          by_cases hlt : i < xs.length
          · have hlt' : (i : Int) < (xs.length : Int) := by omega
            have hi0 : (0 : Int) ≤ (i : Int) := by omega
            have hi9 : (i : Int) < 200 := by have := HF.out.len; omega
            have hx : xs[i]? = some xs[i] := List.getElem?_eq_getElem hlt
            obtain ⟨x, ex⟩ : ∃ x, xs[i] = x := ⟨_, rfl⟩
            rw [ex] at hx
            obtain ⟨gx, ox, rfl, -⟩ := ps.FM.at (HX.out.below HV.out.below) hx
            have HCL : Hid (∀ wy, Bw w wy → wy.cell? ⟨gx, ox + i * 3, none⟩ = some (.int .i64 x.c) ∧ wy.cell? ⟨gx, ox + i * 3 + 1, none⟩ = some (.int .i64 x.r) ∧ wy.cell? ⟨gx, ox + i * 3 + 2, none⟩ = some (.string x.s)) := fun wy hb => ps.FM.cells (HX.out.below hb) hx
            have HS := fnd_snoc part wh (xs.take i) x
            rw [show xs.take i ++ [x] = xs.take (i + 1) by rw [List.take_add_one, hx]; rfl] at HS
            have HLN : Hid ((fnd part wh (xs.take i)).length ≤ 10000) := by
              have h1 := fnd_len part wh (xs.take i)
              have h2 := HF.out.len
              rw [List.length_take] at h1
              show _ ≤ _
              omega
            have HW := want_is x.s part wh HP1.out
            have HCN : Hid (∀ wy, Calls Tryz.prog 7 #[.string x.s, .string part, .string nul] wy fun e w' => e = .returned (.tuple #[.int .i64 ((cntL part.toList [] x.s.toList).1 : Int), .string (txt (cntL part.toList [] x.s.toList).2)]) ∧ Bw wy w') := fun wy => by
              have h := rcount_any x.s part nul wy (HF.out.cell x (List.mem_of_getElem? hx)).2.2 hps HP1.out (by decide)
              rw [show nul.toList = [] by rw [ByteArray.toList_eq]] at h
              exact h
            obtain ⟨p9, k9, e9, -⟩ := HV.out.form
            subst e9
            generalize (cntL part.toList [] x.s.toList).1 = n at *
            generalize txt (cntL part.toList [] x.s.toList).2 = tx at *
            have HS2 : Hid (fnd part wh (xs.take (i + 1)) = fnd part wh (xs.take i) ++ (if decide (0 < plc x.s part wh) = true then [(x.c, x.r)] else [])) := by
              show _ = _
              rw [HS]
              simp
            rw [← HW] at HS2
            clear hx ex HS HW
            obtain ⟨xc, xr, xs2⟩ := x
            dsimp only at HCL HCN HS2
            obtain ⟨c0, c1, c2⟩ := HCL.out wr HV.out.below
            go_wp2_with fail
            refine (HCN.out _).mono ?_
            rintro e w2 ⟨rfl, hb2⟩
            have HV2 : Hid (RV cL w (.slice p9 (fnd part wh (xs.take i)).length k9) (fnd part wh (xs.take i)) w2) := HV.out.next hb2
            clear hb2 HV HCN c0 c1 c2
            obtain ⟨c0, c1, c2⟩ := HCL.out w2 HV2.out.below
            obtain ⟨g2, k2, w5, hr, hV5⟩ := HV2.out.cell HLN.out xc xr
            have HR5 : Hid ((Builtin.append_ #[24, 24] 24 #[.slice p9 (fnd part wh (xs.take i)).length k9, .slice (some ⟨w2.heap.size, 0, none⟩) 1 1]).run Tryz.prog (w2.alloc (.cells #[.int .i64 xc, .int .i64 xr] 28)) = .ok (.slice (some ⟨g2, 0, none⟩) ((fnd part wh (xs.take i)).length + 1) k2) w5) := hr
            have HV5 : Hid (RV cL w (.slice (some ⟨g2, 0, none⟩) ((fnd part wh (xs.take i)).length + 1) k2) (fnd part wh (xs.take i) ++ [(xc, xr)]) w5) := hV5
            clear hr hV5 HLN HCL
            have HYES : Hid (((xs2.toList == part.toList) || (!wh && decide (0 < n))) = true → RV cL w (.slice (some ⟨g2, 0, none⟩) ((fnd part wh (xs.take i)).length + 1) k2) (fnd part wh (xs.take (i + 1))) w5) := fun h => by
              rw [HS2.out, if_pos h]
              exact HV5.out
            have HNO : Hid (((xs2.toList == part.toList) || (!wh && decide (0 < n))) = false → RV cL w (.slice p9 (fnd part wh (xs.take i)).length k9) (fnd part wh (xs.take (i + 1))) w2) := fun h => by
              rw [HS2.out, if_neg (by rw [h]; simp), List.append_nil]
              exact HV2.out
            clear HS2 HV5 HV2
            generalize (fnd part wh (xs.take i)).length + 1 = n3 at *
            generalize (fnd part wh (xs.take i)).length = n2 at *
            dsimp only
            cases hA : (xs2.toList == part.toList)
            · rw [hA] at HYES HNO
              cases wh
              · by_cases hn : 0 < n
                · have hn' : (n : Int) > 0 := by omega
                  have HG := HYES.out (by simp [hn])
                  have HG2 : Hid (RV cL w (.slice (some ⟨g2, 0, none⟩) n3 k2) (fnd part false (xs.take (i + 1))) w5) := HG
                  clear HG HYES HNO
                  go_wp2_with (first | (at_builtin; refine wpList_append_eq rfl _ _ 24 24 rfl _ _ _ _ rfl rfl HR5.out ?_))
                  exact ⟨⟨i + 1, rfl, hlt, HG2⟩, by simp [intOf]; omega⟩
                · have hn' : ¬ (n : Int) > 0 := by omega
                  have HG := HNO.out (by simp [hn])
                  have HG2 : Hid (RV cL w (.slice p9 n2 k9) (fnd part false (xs.take (i + 1))) w2) := HG
                  clear HG HYES HNO
                  go_wp2_with fail
                  exact ⟨⟨i + 1, rfl, hlt, HG2⟩, by simp [intOf]; omega⟩
              · have HG := HNO.out (by simp)
                have HG2 : Hid (RV cL w (.slice p9 n2 k9) (fnd part true (xs.take (i + 1))) w2) := HG
                clear HG HYES HNO
                go_wp2_with fail
                exact ⟨⟨i + 1, rfl, hlt, HG2⟩, by simp [intOf]; omega⟩
            · rw [hA] at HYES HNO
              have HG := HYES.out (by simp)
              have HG2 : Hid (RV cL w (.slice (some ⟨g2, 0, none⟩) n3 k2) (fnd part wh (xs.take (i + 1))) w5) := HG
              clear HG HYES HNO
              go_wp2_with (first | (at_builtin; refine wpList_append_eq rfl _ _ 24 24 rfl _ _ _ _ rfl rfl HR5.out ?_))
              exact ⟨⟨i + 1, rfl, hlt, HG2⟩, by simp [intOf]; omega⟩
          · have hlt' : ¬ (i : Int) < (xs.length : Int) := by omega
            have e1 : xs.take i = xs := List.take_of_length_le (by omega)
            rw [e1] at HV
            go_wp2_with fail
            go_meet
            case rel => exact HV
      case rest =>
      have HV : Hid (RV cL w u8 (fnd part wh xs) wc) := hcut
      have HB5 : Hid (Bw w wc) := HV.out.below
      clear hcut
      apply_assumption
      go_wp2_with fail
      refine (HFI.out wc HB5.out).mono ?_
      intro e w6 h6
      obtain ⟨va, rfl, hva⟩ := h6.good (by have := HP1.out; omega)
      have HA6 : Hid (RV cL wc va (fnd part wh xs) w6) := hva
      have HV6 : Hid (RV cL w u8 (fnd part wh xs) w6) := HV.out.next hva.below
      have HB6 : Hid (Bw w w6) := HB5.out.tr hva.below
      clear h6 hva
      dsimp only
      go_wp2_with fail
      refine (HER.out w6 0 HB6.out).mono ?_
      rintro e w7 ⟨rfl, hb7⟩
      have HB7 : Hid (Bw w w7) := HB6.out.tr hb7
      have HQ7 : Hid (Calls Tryz.prog 10 #[va, u8] w7 fun e w' => e = .returned (.bool true) ∧ Bw w7 w') := rcells_any _ va u8 wc w w7 (HA6.out.next hb7) (HV6.out.next hb7) (by have h1 := fnd_len part wh xs; have h2 := HF.out.len; omega)
      clear hb7 HB6 HA6 HV6
      dsimp only
      go_wp2_with fail
      refine HQ7.out.mono ?_
      rintro e w8 ⟨rfl, hb8⟩
      have HB8 : Hid (Bw w w8) := HB7.out.tr hb8
      clear hb8 HB7 HQ7
      dsimp only
      go_wp2_with fail
      go_ret
      exact ⟨rfl, HB8⟩
  · have h0b : (t == 0) = false := by simp [h0]
    go_upto_block 0 with fail
    go_cut [8] (fun s8 wx => s8 = .slice none 0 0 ∧ Hid (Bw w wx))
    case first =>
      go_wp2_with fail
      go_loopw [8] (fun s8 wr => s8 = .slice none 0 0 ∧ Hid (Bw w wr)) (fun _ _ => 0)
      case atStart => exact ⟨rfl, HB1⟩
      case round =>
        obtain ⟨rfl, HBr⟩ := hrel
        go_wp2_with fail
        go_meet
        case rel => exact ⟨rfl, HBr⟩
    case rest =>
    obtain ⟨rfl, HB5⟩ := hcut
    apply_assumption
    go_wp2_with fail
    refine (HFI.out wc HB5.out).mono ?_
    intro e w6 h6
    have E6 : Hid (e = .returned (.tuple #[.slice none 0 0, ps.errV t]) ∧ Bw wc w6) := by
      rcases h6 with ⟨q1, q2, q3⟩ | ⟨q1, q0, q2, q3⟩ | ⟨q1, q2, -⟩
      · exact ⟨q2, q3⟩
      · exact absurd q1 h0
      · exact absurd q1 h0
    have HB6 : Hid (Bw w w6) := HB5.out.tr E6.out.2
    have e6 := E6.out.1
    subst e6
    clear h6 E6
    dsimp only
    go_wp2_with fail
    refine (HER.out w6 t HB6.out).mono ?_
    rintro e w7 ⟨rfl, hb7⟩
    have HB7 : Hid (Bw w w7) := HB6.out.tr hb7
    have HQ7 : Hid (Calls Tryz.prog 10 #[(.slice none 0 0), (.slice none 0 0)] w7 fun e w' => e = .returned (.bool true) ∧ Bw w7 w') := rcells_any [] (.slice none 0 0) (.slice none 0 0) w7 w7 w7 (RV.nil cL w7) (RV.nil cL w7) (by simp)
    clear hb7 HB6
    dsimp only
    go_wp2_with fail
    refine HQ7.out.mono ?_
    rintro e w8 ⟨rfl, hb8⟩
    have HB8 : Hid (Bw w w8) := HB7.out.tr hb8
    clear hb8 HB7 HQ7
    dsimp only
    go_wp2_with fail
    go_ret
    exact ⟨rfl, HB8⟩
end Go.Proofs.YtlaeoofjoofbcaaGreatDoor.fw

/- What becomes of a cell whose text is replaced. Conditions: as each theorem says. -/
namespace Go.Proofs.YtlaeoofjoofbcaaGreatDoor.ps
open Go.RowKit
open adr (C isC)
/-- What Check says of a cell with its text: a number that there is one of. -/
def SCk (f : Fl) (n : Int) : Prop := (f.s.size = 0 ∧ n = if isC f.c f.r = true then 0 else 1) ∨ (f.s.size ≠ 0 ∧ Told [f] n)
theorem SCk.one {f : Fl} {n m : Int} (h : SCk f n) (h' : SCk f m) : n = m := by
  rcases h with ⟨h1, h2⟩ | ⟨h1, h2⟩
  · rcases h' with ⟨g1, g2⟩ | ⟨g1, g2⟩
    · rw [h2, g2]
    · exact absurd h1 g1
  · rcases h' with ⟨g1, g2⟩ | ⟨g1, g2⟩
    · exact absurd g1 h1
    · exact h2.one g2
set_option maxHeartbeats 1600000 in
theorem scheck_any (f : Fl) (w : World) (hE : EnvP w) :
    Calls Tryz.prog 23 #[C f.c f.r, .string f.s] w fun e w' => (∃ t, e = .returned (errV t) ∧ SCk f t) ∧ Below w.heap.size w w' := by
  have hb0 : Below w.heap.size w (w.alloc (.cells #[.int .i64 f.c, .int .i64 f.r] 28)) := (Below.refl _ _).alloc (Nat.le_refl _) _
  have hb1 : Below w.heap.size w ((w.alloc (.cells #[.int .i64 f.c, .int .i64 f.r] 28)).alloc (.cells #[.int .i64 f.c, .int .i64 f.r, .string f.s] 30)) := hb0.alloc (by simp) _
  cases h0 : f.s.toList.isEmpty with
  | true =>
    have HE0 : Hid (f.s.size = 0) := emp_yes h0
    have HC : Hid (Calls Tryz.prog 34 #[C f.c f.r] (w.alloc (.cells #[.int .i64 f.c, .int .i64 f.r] 28)) fun e w' => (∃ v, e = .returned v ∧ ∃ t, v = errV t ∧ SCk f t) ∧ Below w.heap.size w w') := (adr.check_any f.c f.r _).mono (fun e w' ⟨e1, e2⟩ => ⟨⟨_, e1, if isC f.c f.r = true then 0 else 1, by cases isC f.c f.r <;> rfl, .inl ⟨HE0.out, rfl⟩⟩, bnext hb0 e2 hb0.size⟩)
    clear hE hb0 hb1
    go_enter Tryz.func23, Tryz.ntmps23
    go_wp2_with fail
    refine HC.out.mono ?_
    rintro e w1 ⟨⟨v, rfl, hv⟩, hb⟩
    go_wp2_with fail
    go_ret
    obtain ⟨t, rfl, ht⟩ := hv
    exact ⟨⟨t, rfl, ht⟩, hb⟩
  | false =>
    have HE0 : Hid (f.s.size ≠ 0) := emp_no h0
    have HC : Hid (Calls Tryz.prog 19 #[.slice (some ⟨w.heap.size + 1, 0, none⟩) 1 1] ((w.alloc (.cells #[.int .i64 f.c, .int .i64 f.r] 28)).alloc (.cells #[.int .i64 f.c, .int .i64 f.r, .string f.s] 30)) fun e w' => (∃ v, e = .returned v ∧ ∃ t, v = errV t ∧ SCk f t) ∧ Below w.heap.size w w') := (gcheck_any (some ⟨w.heap.size + 1, 0, none⟩) 1 [f] _ (by have := fm_new (w.alloc (.cells #[.int .i64 f.c, .int .i64 f.r] 28)) f; simpa using this) (hE.below hb1 hE.size)).mono (fun e w' ⟨⟨t, e1, e2⟩, e3⟩ => ⟨⟨_, e1, t, rfl, .inr ⟨HE0.out, e2⟩⟩, bnext hb1 e3 hb1.size⟩)
    clear hE hb0 hb1
    go_enter Tryz.func23, Tryz.ntmps23
    go_wp2_with fail
    refine HC.out.mono ?_
    rintro e w1 ⟨⟨v, rfl, hv⟩, hb⟩
    go_wp2_with fail
    go_ret
    obtain ⟨t, rfl, ht⟩ := hv
    exact ⟨⟨t, rfl, ht⟩, hb⟩
end Go.Proofs.YtlaeoofjoofbcaaGreatDoor.ps
namespace Go.Proofs.YtlaeoofjoofbcaaGreatDoor.fw
open Go.RowKit Go.Sort
theorem cnt_zero {p : List UInt8} (hp : p ≠ []) (b s : List UInt8) (h : (cntL p b s).1 = 0) : (cntL p b s).2 = s := by
  rcases ix_two s p with h1 | ⟨i, h1⟩
  · rw [cnt_miss hp b s h1]
  · rw [cnt_hit hp b s i h1] at h
    exact absurd h (by simp)
theorem txt_self (s : ByteArray) : txt s.toList = s := by
  obtain ⟨⟨l⟩⟩ := s
  unfold txt
  rw [ByteArray.toList_eq]
/-- The text that a cell has then. -/
def ntx (p b : ByteArray) (wh : Bool) (s : ByteArray) : ByteArray := if wh = true ∧ s ≠ p then s else txt (cntL p.toList b.toList s.toList).2
theorem ntx_no {p b : ByteArray} {wh : Bool} {s : ByteArray} (hp : 1 ≤ p.size) (h : plc s p wh = 0) : ntx p b wh s = s := by
  unfold ntx
  by_cases h1 : wh = true ∧ s ≠ p
  · rw [if_pos h1]
  · rw [if_neg h1]
    have h2 : (cntL p.toList b.toList s.toList).1 = 0 := by
      unfold plc at h
      cases wh
      · rw [if_neg (by simp)] at h
        rw [cnt_fst (ne_nil hp) b.toList [] s.toList]
        exact h
      · have e : s = p := Classical.byContradiction fun hne => h1 ⟨rfl, hne⟩
        rw [if_pos rfl, if_pos e] at h
        cases h
    rw [cnt_zero (ne_nil hp) _ _ h2, txt_self]
/-- The library's Replace of as many as were found. -/
theorem ntx_repl {p b : ByteArray} {wh : Bool} {s : ByteArray} (hp : 1 ≤ p.size) : (⟨(Lib.replace s.data.toList p.data.toList b.data.toList (plc s p wh : Nat)).toArray⟩ : ByteArray) = ntx p b wh s := by
  have e0 : ∀ l : List UInt8, (⟨l.toArray⟩ : ByteArray) = txt l := fun l => rfl
  rw [e0, ← ByteArray.toList_eq, ← ByteArray.toList_eq, ← ByteArray.toList_eq]
  cases wh
  · have e1 : plc s p false = (cntL p.toList b.toList s.toList).1 := by
      unfold plc
      rw [if_neg (by simp), cnt_fst (ne_nil hp)]
    rw [e1, repl_all (ne_nil hp)]
    unfold ntx
    rw [if_neg (by simp)]
  · by_cases h : s = p
    · have e1 : plc s p true = (cntL p.toList b.toList s.toList).1 := by
        unfold plc
        rw [if_pos rfl, if_pos h, h, cnt_self (ne_nil hp)]
      rw [e1, repl_all (ne_nil hp)]
      unfold ntx
      rw [if_neg (by simp [h])]
    · have e1 : plc s p true = 0 := by unfold plc; rw [if_pos rfl, if_neg h]
      rw [e1, show ((0 : Nat) : Int) = 0 from rfl, repl_zero, txt_self]
      unfold ntx
      rw [if_pos ⟨rfl, h⟩]
/-- The fault of a text that may be empty. -/
def ftx (s : ByteArray) : Int := if s.size = 0 then 0 else ps.ckT s
/-- The first fault of a sheet in which texts are replaced. -/
def ffl (p b : ByteArray) (wh : Bool) : List ps.Fl → Int
  | [] => 0
  | x :: l => if ftx (ntx p b wh x.s) = 0 then ffl p b wh l else ftx (ntx p b wh x.s)
theorem ffl_at {p b : ByteArray} {wh : Bool} : ∀ {xs : List ps.Fl} {i : Nat} {x : ps.Fl}, xs[i]? = some x → (∀ (j : Nat) (y : ps.Fl), j < i → xs[j]? = some y → ftx (ntx p b wh y.s) = 0) → ftx (ntx p b wh x.s) ≠ 0 → ffl p b wh xs = ftx (ntx p b wh x.s)
  | [], i, x, h, _, _ => by simp at h
  | y :: l, 0, x, h, _, hf => by
    have : y = x := by simpa using h
    subst this
    unfold ffl
    rw [if_neg hf]
  | y :: l, i + 1, x, h, hl, hf => by
    unfold ffl
    rw [if_pos (hl 0 y (by omega) rfl)]
    exact ffl_at (by simpa using h) (fun j z hj hz => hl (j + 1) z (by omega) (by simpa using hz)) hf
theorem ffl_none {p b : ByteArray} {wh : Bool} : ∀ {xs : List ps.Fl}, (∀ (j : Nat) (y : ps.Fl), xs[j]? = some y → ftx (ntx p b wh y.s) = 0) → ffl p b wh xs = 0
  | [], _ => rfl
  | y :: l, h => by
    unfold ffl
    rw [if_pos (h 0 y rfl)]
    exact ffl_none fun j z hz => h (j + 1) z (by simpa using hz)
/-- The sheet then. -/
def rpl (p b : ByteArray) (wh : Bool) (xs : List ps.Fl) : List ps.Fl := xs.flatMap fun x => if (ntx p b wh x.s).size = 0 then [] else [⟨x.c, x.r, ntx p b wh x.s⟩]
theorem rpl_snoc (p b : ByteArray) (wh : Bool) (xs : List ps.Fl) (x : ps.Fl) : rpl p b wh (xs ++ [x]) = rpl p b wh xs ++ (if (ntx p b wh x.s).size = 0 then [] else [⟨x.c, x.r, ntx p b wh x.s⟩]) := by
  unfold rpl
  rw [List.flatMap_append]
  simp
theorem rpl_len (p b : ByteArray) (wh : Bool) (xs : List ps.Fl) : (rpl p b wh xs).length ≤ xs.length := by
  unfold rpl
  induction xs with
  | nil => simp
  | cons x xs ih =>
    rw [List.flatMap_cons, List.length_append, List.length_cons]
    by_cases h : (ntx p b wh x.s).size = 0
    · rw [if_pos h]; simp only [List.length_nil]; omega
    · rw [if_neg h]; simp only [List.length_singleton]; omega
/-- How many were replaced. -/
def tot (p : ByteArray) (wh : Bool) (xs : List ps.Fl) : Nat := (xs.map fun x => plc x.s p wh).sum
theorem tot_snoc (p : ByteArray) (wh : Bool) (xs : List ps.Fl) (x : ps.Fl) : tot p wh (xs ++ [x]) = tot p wh xs + plc x.s p wh := by
  unfold tot
  rw [List.map_append, List.sum_append]
  simp
theorem plc_le (s p : ByteArray) (wh : Bool) : plc s p wh ≤ s.size + 1 := by
  unfold plc
  cases wh
  · rw [if_neg (by simp)]
    have := (cnt_le p.toList [] _ s.toList (Nat.le_refl _)).1
    rw [size_list] at this
    omega
  · rw [if_pos rfl]
    by_cases h : s = p
    · rw [if_pos h]; omega
    · rw [if_neg h]; omega
theorem tot_le (p : ByteArray) (wh : Bool) (xs : List ps.Fl) (h : ∀ x ∈ xs, x.s.size ≤ 200) : tot p wh xs ≤ xs.length * 201 := by
  unfold tot
  induction xs with
  | nil => simp
  | cons x xs ih =>
    have h1 := ih fun y hy => h y (List.mem_cons_of_mem _ hy)
    have h2 := plc_le x.s p wh
    have h3 := h x List.mem_cons_self
    rw [List.map_cons, List.sum_cons, List.length_cons]
    omega
/-- How a cell with its text lies. -/
def fL : EL ps.Fl := ⟨30, 3, ps.fl3, fun _ => rfl, fun x u hu => by simp [ps.fl3] at hu; rcases hu with rfl | rfl | rfl <;> rfl⟩
theorem infoF : (Tryz.prog.info? 30).map (fun i => (i.zero, i.size, i.bytes)) = some (some (.agg #[.int .i64 0, .int .i64 0, .string nul]), 3, 32) := by kernel_rfl
theorem RV.fill {w : World} {v : Value} {xs : List ps.Fl} {wx : World} (h : RV fL w v xs wx) (hl : xs.length ≤ 10000) (c r : Int) (s : ByteArray) :
    ∃ g k w', (Builtin.append_ #[22, 22] 22 #[v, .slice (some ⟨wx.heap.size, 0, none⟩) 1 1]).run Tryz.prog (wx.alloc (.cells #[.int .i64 c, .int .i64 r, .string s] 30)) = .ok (.slice (some ⟨g, 0, none⟩) (xs.length + 1) k) w' ∧ RV fL w (.slice (some ⟨g, 0, none⟩) (xs.length + 1) k) (xs ++ [⟨c, r, s⟩]) w' :=
  h.one 22 (b := 32) Tryz.underlying22 infoF rfl (by decide) (by omega) (by omega) ⟨c, r, s⟩ _ rfl
/-- The program's Check of a cell of the sheet with its new text. -/
theorem scheck_is (c r : Int) (s : ByteArray) (w : World) (hE : ps.EnvP w) (hc : adr.isC c r = true) :
    Calls Tryz.prog 23 #[.agg #[.int .i64 c, .int .i64 r], .string s] w fun e w' => e = .returned (ps.errV (ftx s)) ∧ Bw w w' := by
  refine (ps.scheck_any ⟨c, r, s⟩ w hE).mono ?_
  rintro e w' ⟨⟨t, rfl, ht⟩, hb⟩
  refine ⟨?_, hb⟩
  have e1 : t = ftx s := by
    refine ht.one ?_
    unfold ftx
    by_cases h : s.size = 0
    · rw [if_pos h]
      exact .inl ⟨h, by dsimp only; rw [if_pos hc]⟩
    · rw [if_neg h]
      refine .inr ⟨h, ?_⟩
      have h1 : ([⟨c, r, s⟩] : List ps.Fl)[0]? = some ⟨c, r, s⟩ := rfl
      have h2 := ps.cd_text h1 hc rfl
      dsimp only at h2
      by_cases h3 : ps.ckT s = 0
      · rw [h3]
        refine .inr ⟨by simp, .inl ⟨rfl, fun i hi => ?_⟩⟩
        have : i = 0 := by simp at hi; exact hi
        subst this
        rw [h2, h3]
      · exact .inr ⟨by simp, .inr ⟨h3, 0, by simp, h2, fun j hj => by omega⟩⟩
  rw [e1]
set_option maxRecDepth 1000000 in
set_option maxHeartbeats 4000000 in
theorem rtext_is (s : ByteArray) (w : World) : Calls Tryz.prog 18 #[.string s] w fun e w' => e = .returned (.int .i64 (ftx s)) ∧ Bw w w' := by
  by_cases h : s.size = 0
  · have e : ftx s = 0 := by unfold ftx; rw [if_pos h]
    rw [e]
    obtain rfl := ps.size_nul h
    go_enter Tryz.func18, Tryz.ntmps18
    go_wp2_with fail
    go_ret
    exact ⟨rfl, Below.refl _ _⟩
  · have e : ftx s = ps.ckT s := by unfold ftx; rw [if_neg h]
    rw [e]
    exact ps.rtext_any s w h
end Go.Proofs.YtlaeoofjoofbcaaGreatDoor.fw

/- find.Replace, whole. Conditions: what the package variables hold. -/
namespace Go.Proofs.YtlaeoofjoofbcaaGreatDoor.fw
open Go.RowKit Go.Sort
/-- The fault of it all. -/
def rpE (xs : List ps.Fl) (p b : ByteArray) (wh : Bool) (t : Int) : Int := if t ≠ 0 then t else if 200 < p.size ∨ 200 < b.size then 4 else if p.size = 0 then 2 else ffl p b wh xs
/-- What Replace answers. -/
def RpO (w : World) (xs : List ps.Fl) (p b : ByteArray) (wh : Bool) (t : Int) (E : Int → Value) (e : Ending) (w' : World) : Prop :=
  (rpE xs p b wh t ≠ 0 ∧ e = .returned (.tuple #[.slice none 0 0, .int .i64 0, E (rpE xs p b wh t)]) ∧ Bw w w') ∨
  (rpE xs p b wh t = 0 ∧ ∃ v, e = .returned (.tuple #[v, .int .i64 (tot p wh xs : Nat), E 0]) ∧ RV fL w v (rpl p b wh xs) w')
theorem rpE_told {xs : List ps.Fl} {p b : ByteArray} {wh : Bool} {t : Int} (h : t ≠ 0) : rpE xs p b wh t = t := if_pos h
theorem rpE_long {xs : List ps.Fl} {p b : ByteArray} {wh : Bool} (h : 200 < p.size ∨ 200 < b.size) : rpE xs p b wh 0 = 4 := by unfold rpE; rw [if_neg (by simp), if_pos h]
theorem rpE_none {xs : List ps.Fl} {p b : ByteArray} {wh : Bool} (h : ¬ (200 < p.size ∨ 200 < b.size)) (h2 : p.size = 0) : rpE xs p b wh 0 = 2 := by unfold rpE; rw [if_neg (by simp), if_neg h, if_pos h2]
theorem rpE_loop {xs : List ps.Fl} {p b : ByteArray} {wh : Bool} (h : ¬ (200 < p.size ∨ 200 < b.size)) (h2 : ¬ p.size = 0) : rpE xs p b wh 0 = ffl p b wh xs := by unfold rpE; rw [if_neg (by simp), if_neg h, if_neg h2]
/-- How far the loop came. -/
structure RL (w : World) (xs : List ps.Fl) (p b : ByteArray) (wh : Bool) (i : Nat) (v : Value) (wr : World) : Prop where
  fine : ∀ (j : Nat) (y : ps.Fl), j < i → xs[j]? = some y → ftx (ntx p b wh y.s) = 0
  own : RV fL w v (rpl p b wh (xs.take i)) wr
/-- The library's Replace at a text of a sheet. -/
theorem srepl_is (s p b : ByteArray) (wh : Bool) (w : World) (hs : s.size ≤ 200) (hp : 1 ≤ p.size) (hb : b.size ≤ 200) (hm : MX w) :
    Calls Tryz.prog 22 #[.string s, .string p, .string b, .int .i64 (plc s p wh : Nat)] w fun e w' => e = .returned (.string (ntx p b wh s)) ∧ Bw w w' := by
  obtain ⟨m, hm⟩ := hm.2
  have hc : Lib.countB s p ≤ 201 := by
    have h := Lib.count_le s.data.toList p.data.toList
    have e : s.data.toList.length = s.size := by simp
    have e2 : Lib.countB s p = Lib.count s.data.toList p.data.toList := rfl
    omega
  have hmul : Lib.countB s p * b.size ≤ 201 * 200 := Nat.mul_le_mul hc hb
  have h := Tryz.strings_Replace s p b (plc s p wh : Nat) m w (by omega) hm hp (by omega)
  rw [ntx_repl hp] at h
  exact h
/-- A cell with its text in a block of its own. -/
def GP (w : World) (g : Nat) (c r : Int) (s : ByteArray) : Prop := w.heap[g]? = some (.cells #[.int .i64 c, .int .i64 r, .string s] 30)
theorem GP.lt {w : World} {g : Nat} {c r : Int} {s : ByteArray} (h : GP w g c r s) : g < w.heap.size := (Array.getElem?_eq_some_iff.1 h).1
theorem GP.at {w : World} {g : Nat} {c r : Int} {s : ByteArray} (h : GP w g c r s) : w.cell? ⟨g, 0, none⟩ = some (.int .i64 c) ∧ w.cell? ⟨g, 1, none⟩ = some (.int .i64 r) ∧ w.cell? ⟨g, 2, none⟩ = some (.string s) ∧ w.frozen? ⟨g, 2, none⟩ = false := by
  have h' : w.heap[g]? = some (.cells #[.int .i64 c, .int .i64 r, .string s] 30) := h
  refine ⟨?_, ?_, ?_, ?_⟩
  · rw [cell_of_row w g 0 _ _ (0, 0) h]; rfl
  · rw [cell_of_row w g 1 _ _ (0, 0) h]; rfl
  · rw [cell_of_row w g 2 _ _ (0, 0) h]; rfl
  · simp [World.frozen?, h']
theorem GP.next {w w' : World} {g : Nat} {c r : Int} {s : ByteArray} (h : GP w g c r s) (hb : Bw w w') : GP w' g c r s := by
  show _ = _
  rw [hb.block g h.lt]
  exact h
theorem GP.set {w : World} {g : Nat} {c r : Int} {s : ByteArray} (h : GP w g c r s) (t : ByteArray) : GP (w.setCell ⟨g, 2, none⟩ (.string t)) g c r t := by
  show _ = _
  rw [heap_setCell_same w g 2 _ _ _ h]
  rfl
theorem take_snoc {xs : List ps.Fl} {i : Nat} {x : ps.Fl} (h : xs[i]? = some x) : xs.take (i + 1) = xs.take i ++ [x] := by rw [List.take_add_one, h]; rfl
set_option maxRecDepth 1000000 in
set_option maxHeartbeats 8000000 in
theorem replace_any (p : Option Addr) (c : Nat) (xs : List ps.Fl) (part by' : ByteArray) (wh : Bool) (w : World) (hx : ps.FM w p xs) (hE : ps.EnvP w) (hm : MX w) (t : Int) (ht : ps.Told xs t) :
    Calls Tryz.prog 12 #[.slice p xs.length c, .string part, .string by', .bool wh] w fun e w' => RpO w xs part by' wh t ps.errV e w' := by
  have HG := ps.gcheck_any p c xs w hx hE
  have HX : Hid (ps.FM w p xs) := hx
  have HM : Hid (MX w) := hm
  have HEN : Hid (ps.EnvP w) := hE
  have HT : Hid (ps.Told xs t) := ht
  clear hx hE hm ht
  go_enter Tryz.func12, Tryz.ntmps12
  go_wp2_with fail
  refine HG.mono ?_
  rintro e w1 ⟨⟨t', rfl, ht'⟩, hb1⟩
  obtain rfl : t = t' := HT.out.one ht'
  have HB1 : Hid (Bw w w1) := hb1
  clear ht' hb1 HG
  dsimp only
  by_cases h0 : t = 0
  · subst h0
    rw [ps.errV_zero]
    by_cases hlong : 200 < part.size ∨ 200 < by'.size
    · have HO : Hid (RpO w xs part by' wh 0 ps.errV (.returned (.tuple #[.slice none 0 0, .int .i64 0, .iface 52 (.int .i64 4)])) w1) := .inl ⟨by rw [rpE_long hlong]; decide, by rw [rpE_long hlong]; rfl, HB1⟩
      by_cases hl1 : 200 < part.size
      · have hl1' : (part.size : Int) > 200 := by omega
        clear hlong hl1
        go_wp2_with fail
        exact bodyPost_ret (v := .tuple #[.slice none 0 0, .int .i64 0, .iface 52 (.int .i64 4)]) (by simp [results, Tryz.results12, go_sem]) rfl HO
      · have hl1' : ¬ (part.size : Int) > 200 := by omega
        have hl2' : (by'.size : Int) > 200 := by omega
        clear hlong hl1
        go_wp2_with fail
        exact bodyPost_ret (v := .tuple #[.slice none 0 0, .int .i64 0, .iface 52 (.int .i64 4)]) (by simp [results, Tryz.results12, go_sem]) rfl HO
    · have hl1' : ¬ (part.size : Int) > 200 := by omega
      have hl2' : ¬ (by'.size : Int) > 200 := by omega
      by_cases hp : part.size = 0
      · have HO : Hid (RpO w xs part by' wh 0 ps.errV (.returned (.tuple #[.slice none 0 0, .int .i64 0, .iface 52 (.int .i64 2)])) w1) := .inl ⟨by rw [rpE_none hlong hp]; decide, by rw [rpE_none hlong hp]; rfl, HB1⟩
        obtain rfl := ps.size_nul hp
        clear hlong
        go_wp2_with fail
        exact bodyPost_ret (v := .tuple #[.slice none 0 0, .int .i64 0, .iface 52 (.int .i64 2)]) (by simp [results, Tryz.results12, go_sem]) rfl HO
      · have hpe : part.toList.isEmpty = false := by
          rw [Bool.eq_false_iff]
          exact fun e => hp (ps.emp_yes e)
        have HP1 : Hid (1 ≤ part.size) := by show 1 ≤ _; omega
        have HBY : Hid (by'.size ≤ 200) := by show _ ≤ _; omega
        have HRE : Hid (rpE xs part by' wh 0 = ffl part by' wh xs) := rpE_loop hlong hp
        have HF : Hid (ps.Fine xs) := ps.Told.fine HT.out
        clear hp hlong
        go_upto_block 0 with fail
        go_cut [12, 13] (fun s12 s13 wx => s13 = .int .i64 (tot part wh xs : Nat) ∧ Hid (ffl part by' wh xs = 0 ∧ RV fL w s12 (rpl part by' wh xs) wx))
        case first =>
          go_wp2_with fail
          go_loopw [12, 13, 37] (fun s12 s13 s37 wr => ∃ i : Nat, s37 = .int .i64 (i : Int) ∧ s13 = .int .i64 (tot part wh (xs.take i) : Nat) ∧ i ≤ xs.length ∧ Hid (RL w xs part by' wh i s12 wr)) (fun _ _ s37 _ => xs.length - (intOf s37).toNat)
          case atStart => exact ⟨0, rfl, rfl, Nat.zero_le _, fun j y hj _ => absurd hj (Nat.not_lt_zero _), (RV.nil fL w).next HB1.out⟩
          case round =>
            obtain ⟨i, rfl, rfl, hi, HR⟩ := hrel
            by_cases hlt : i < xs.length
            · have hlt' : (i : Int) < (xs.length : Int) := by omega
              have hi0 : (0 : Int) ≤ (i : Int) := by omega
              have hi9 : (i : Int) < 200 := by have := HF.out.len; omega
              have hx : xs[i]? = some xs[i] := List.getElem?_eq_getElem hlt
              obtain ⟨x, ex⟩ : ∃ x, xs[i] = x := ⟨_, rfl⟩
              rw [ex] at hx
              obtain ⟨gx, ox, rfl, -⟩ := ps.FM.at (HX.out.below HR.out.own.below) hx
              obtain ⟨c0, c1, c2⟩ := ps.FM.cells (HX.out.below HR.out.own.below) hx
              have HFX := HF.out.cell x (List.mem_of_getElem? hx)
              have HTT := tot_snoc part wh (xs.take i) x
              rw [← take_snoc hx] at HTT
              have HTL := tot_le part wh (xs.take i) fun y hy => (HF.out.cell y (List.mem_of_mem_take hy)).2.2
              have HPLL := plc_le x.s part wh
              have HLN : Hid ((rpl part by' wh (xs.take i)).length ≤ 10000) := by
                have h1 := rpl_len part by' wh (xs.take i)
                have h2 := HF.out.len
                rw [List.length_take] at h1
                show _ ≤ _
                omega
              have HRS := rpl_snoc part by' wh (xs.take i) x
              rw [← take_snoc hx] at HRS
              have HPL : Hid (∀ wx, Bw w wx → Calls Tryz.prog 20 #[.string x.s, .string part, .bool wh] wx fun e w' => e = .returned (.int .i64 (plc x.s part wh : Nat)) ∧ w' = wx) := fun wx hb => places_any x.s part wh wx HFX.2.2 HP1.out (HM.out.next hb)
              have HSR : Hid (∀ wx, Bw w wx → Calls Tryz.prog 22 #[.string x.s, .string part, .string by', .int .i64 (plc x.s part wh : Nat)] wx fun e w' => e = .returned (.string (ntx part by' wh x.s)) ∧ Bw wx w') := fun wx hb => srepl_is x.s part by' wh wx HFX.2.2 HP1.out HBY.out (HM.out.next hb)
              have HSC : Hid (∀ wx, Bw w wx → Calls Tryz.prog 23 #[.agg #[.int .i64 x.c, .int .i64 x.r], .string (ntx part by' wh x.s)] wx fun e w' => e = .returned (ps.errV (ftx (ntx part by' wh x.s))) ∧ Bw wx w') := fun wx hb => scheck_is x.c x.r _ wx (HEN.out.below hb HEN.out.size) HFX.1
              have HFF : Hid (ftx (ntx part by' wh x.s) ≠ 0 → ffl part by' wh xs = ftx (ntx part by' wh x.s)) := fun h => ffl_at hx (fun j y hj hy => HR.out.fine j y hj hy) h
              have HRN : Hid (ftx (ntx part by' wh x.s) = 0 → ∀ (j : Nat) (y : ps.Fl), j < i + 1 → xs[j]? = some y → ftx (ntx part by' wh y.s) = 0) := fun h j y hj hy => by
                by_cases e : j = i
                · subst e
                  rw [hx] at hy
                  obtain rfl := Option.some.inj hy
                  exact h
                · exact HR.out.fine j y (by omega) hy
              have hcn : (0 : Int) ≤ (tot part wh (xs.take i) : Nat) ∧ ((tot part wh (xs.take i) : Nat) : Int) ≤ 40200 := by
                have h2 := HF.out.len
                rw [List.length_take] at HTL
                omega
              have hcp : (0 : Int) ≤ (plc x.s part wh : Nat) ∧ ((plc x.s part wh : Nat) : Int) ≤ 201 := by
                have := HFX.2.2
                omega
              obtain ⟨p9, k9, e9, -⟩ := HR.out.own.form
              subst e9
              generalize ntx part by' wh x.s = nt at *
              generalize plc x.s part wh = n at *
              generalize tot part wh (xs.take i) = T at *
              clear hx ex HFX HTL HPLL
              obtain ⟨xc, xr, xs2⟩ := x
              dsimp only at c0 c1 c2 HPL HSR HSC HTT HRS
              go_upto_region 13 with fail
              clear c0 c1 c2
              have HW4 : Hid (Bw wr (wr.alloc (.cells #[.int .i64 xc, .int .i64 xr, .string xs2] 30)) ∧ GP (wr.alloc (.cells #[.int .i64 xc, .int .i64 xr, .string xs2] 30)) wr.heap.size xc xr xs2) := ⟨Bw.al _ _, heap_alloc_new _ _⟩
              generalize wr.alloc (.cells #[.int .i64 xc, .int .i64 xr, .string xs2] 30) = w4 at *
              obtain ⟨gp, hgp⟩ : ∃ g, wr.heap.size = g := ⟨_, rfl⟩
              rw [hgp] at HW4 ⊢
              have HGP : Hid (wr.heap.size = gp) := hgp
              clear hgp
              obtain ⟨d0, d1, d2, d3⟩ := HW4.out.2.at
              go_wp2_with fail
              refine (HPL.out w4 (HR.out.own.below.tr HW4.out.1)).mono ?_
              rintro e w4' ⟨rfl, rfl⟩
              clear HPL
              dsimp only
              go_wp2_with fail
              refine (HSR.out _ (HR.out.own.below.tr HW4.out.1)).mono ?_
              rintro e w5 ⟨rfl, hb5⟩
              have HW5 : Hid (Bw wr w5 ∧ GP w5 gp xc xr xs2) := ⟨HW4.out.1.tr hb5, HW4.out.2.next hb5⟩
              clear HSR hb5 d0 d1 d2 d3 HW4
              obtain ⟨d0, d1, d2, d3⟩ := HW5.out.2.at
              dsimp only
              go_upto_region 15 with fail
              clear d0 d1 d2 d3
              have HW6 : Hid (Bw wr (w5.setCell ⟨gp, 2, none⟩ (.string nt)) ∧ GP (w5.setCell ⟨gp, 2, none⟩ (.string nt)) gp xc xr nt) := ⟨HW5.out.1.setCell (Nat.le_of_eq HGP.out) _, HW5.out.2.set nt⟩
              clear HW5
              generalize w5.setCell ⟨gp, 2, none⟩ (.string nt) = w6 at *
              obtain ⟨d0, d1, d2, d3⟩ := HW6.out.2.at
              go_wp2_with fail
              refine (HSC.out _ (HR.out.own.below.tr HW6.out.1)).mono ?_
              rintro e w7 ⟨rfl, hb7⟩
              have HW7 : Hid (Bw wr w7 ∧ GP w7 gp xc xr nt) := ⟨HW6.out.1.tr hb7, HW6.out.2.next hb7⟩
              clear HSC hb7 d0 d1 d2 d3 HW6
              obtain ⟨d0, d1, d2, d3⟩ := HW7.out.2.at
              dsimp only
              generalize ftx nt = ff at *
              by_cases hff : ff = 0
              · subst hff
                rw [ps.errV_zero]
                have HRN2 := HRN.out rfl
                have hsum : (T : Int) + (n : Int) = ((tot part wh (xs.take (i + 1)) : Nat) : Int) := by rw [HTT]; omega
                by_cases hne : nt.size = 0
                · rw [if_pos hne, List.append_nil] at HRS
                  have HRL : Hid (RL w xs part by' wh (i + 1) (.slice p9 (rpl part by' wh (xs.take i)).length k9) w7) := ⟨HRN2, by rw [HRS]; exact HR.out.own.next HW7.out.1⟩
                  obtain rfl := ps.size_nul hne
                  clear HRN HFF HRS HLN HW7 HR HRN2 HTT
                  generalize (rpl part by' wh (xs.take i)).length = n2 at *
                  go_wp2_with fail
                  exact ⟨⟨i + 1, rfl, by first | rfl | rw [hsum], hlt, HRL⟩, by simp [intOf]; omega⟩
                · have hne2 : nt.toList.isEmpty = false := by
                    rw [Bool.eq_false_iff]
                    exact fun e => hne (ps.emp_yes e)
                  rw [if_neg hne] at HRS
                  obtain ⟨g2, k2, w8, hr, hV8⟩ := (HR.out.own.next HW7.out.1).fill HLN.out xc xr nt
                  rw [← HRS] at hV8
                  have HR8 : Hid ((Builtin.append_ #[22, 22] 22 #[.slice p9 (rpl part by' wh (xs.take i)).length k9, .slice (some ⟨w7.heap.size, 0, none⟩) 1 1]).run Tryz.prog (w7.alloc (.cells #[.int .i64 xc, .int .i64 xr, .string nt] 30)) = .ok (.slice (some ⟨g2, 0, none⟩) ((rpl part by' wh (xs.take i)).length + 1) k2) w8) := hr
                  have HRL : Hid (RL w xs part by' wh (i + 1) (.slice (some ⟨g2, 0, none⟩) ((rpl part by' wh (xs.take i)).length + 1) k2) w8) := ⟨HRN2, hV8⟩
                  clear HRN HFF HRS HLN HW7 HR HRN2 HTT hr hV8 hne
                  generalize (rpl part by' wh (xs.take i)).length + 1 = n3 at *
                  generalize (rpl part by' wh (xs.take i)).length = n2 at *
                  go_wp2_with (first | (at_builtin; refine wpList_append_eq rfl _ _ 22 22 rfl _ _ _ _ rfl rfl HR8.out ?_))
                  exact ⟨⟨i + 1, rfl, by first | rfl | rw [hsum], hlt, HRL⟩, by simp [intOf]; omega⟩
              · have HO : Hid (RpO w xs part by' wh 0 ps.errV (.returned (.tuple #[.slice none 0 0, .int .i64 0, .iface 52 (.int .i64 ff)])) w7) := .inl ⟨by rw [HRE.out, HFF.out hff]; exact hff, by rw [HRE.out, HFF.out hff, ps.errV_some hff], HR.out.own.below.tr HW7.out.1⟩
                rw [ps.errV_some hff]
                clear HRN HFF HRS HLN HW7 HR HTT
                go_wp2_with fail
                exact bodyPost_ret (v := .tuple #[.slice none 0 0, .int .i64 0, .iface 52 (.int .i64 ff)]) (by simp [results, Tryz.results12, go_sem]) rfl HO
            · have hlt' : ¬ (i : Int) < (xs.length : Int) := by omega
              have e1 : xs.take i = xs := List.take_of_length_le (by omega)
              have HE : Hid (ffl part by' wh xs = 0 ∧ RV fL w u12 (rpl part by' wh xs) wr) := by
                refine ⟨ffl_none fun j y hy => HR.out.fine j y (by have := (List.getElem?_eq_some_iff.1 hy).1; omega) hy, ?_⟩
                have := HR.out.own
                rw [e1] at this
                exact this
              rw [e1]
              clear HR
              go_wp2_with fail
              go_meet
              case rel => exact ⟨rfl, HE⟩
        case rest =>
        obtain ⟨rfl, HE⟩ := hcut
        apply_assumption
        have HO : Hid (RpO w xs part by' wh 0 ps.errV (.returned (.tuple #[u12, .int .i64 (tot part wh xs : Nat), .nilIface])) wc) := .inr ⟨by rw [HRE.out]; exact HE.out.1, u12, rfl, HE.out.2⟩
        go_wp2_with fail
        exact bodyPost_ret (v := .tuple #[u12, .int .i64 (tot part wh xs : Nat), .nilIface]) (by simp [results, Tryz.results12, go_sem]) rfl HO
  · have HO : Hid (RpO w xs part by' wh t ps.errV (.returned (.tuple #[.slice none 0 0, .int .i64 0, .iface 52 (.int .i64 t)])) w1) := .inl ⟨by rw [rpE_told h0]; exact h0, by rw [rpE_told h0, ps.errV_some h0], HB1⟩
    rw [ps.errV_some h0]
    go_wp2_with fail
    exact bodyPost_ret (v := .tuple #[.slice none 0 0, .int .i64 0, .iface 52 (.int .i64 t)]) (by simp [results, Tryz.results12, go_sem]) rfl HO
end Go.Proofs.YtlaeoofjoofbcaaGreatDoor.fw

/- The document's Replaced, whole. Conditions: none but the list's memory. -/
namespace Go.Proofs.YtlaeoofjoofbcaaGreatDoor.fw
open Go.RowKit Go.Sort
set_option maxRecDepth 1000000 in
set_option maxHeartbeats 8000000 in
theorem rreplaced_any (p : Option Addr) (c : Nat) (xs : List ps.Fl) (part by' : ByteArray) (wh : Bool) (w : World) (hx : ps.FM w p xs) (t : Int) (ht : ps.Told xs t) :
    Calls Tryz.prog 11 #[.slice p xs.length c, .string part, .string by', .bool wh] w fun e w' => RpO w xs part by' wh t (fun e => .int .i64 e) e w' := by
  have HG := ps.rcheck_any p c xs w hx
  have HX : Hid (ps.FM w p xs) := hx
  have HT : Hid (ps.Told xs t) := ht
  clear hx ht
  go_enter Tryz.func11, Tryz.ntmps11
  go_wp2_with fail
  refine HG.mono ?_
  rintro e w1 ⟨⟨t', rfl, ht'⟩, hb1⟩
  obtain rfl : t = t' := HT.out.one ht'
  have HB1 : Hid (Bw w w1) := hb1
  clear ht' hb1 HG
  dsimp only
  by_cases h0 : t = 0
  · subst h0
    by_cases hlong : 200 < part.size ∨ 200 < by'.size
    · have HO : Hid (RpO w xs part by' wh 0 (fun e => .int .i64 e) (.returned (.tuple #[.slice none 0 0, .int .i64 0, .int .i64 4])) w1) := .inl ⟨by rw [rpE_long hlong]; decide, by rw [rpE_long hlong], HB1⟩
      by_cases hl1 : 200 < part.size
      · have hl1' : (part.size : Int) > 200 := by omega
        clear hlong hl1
        go_wp2_with fail
        exact bodyPost_ret (v := .tuple #[.slice none 0 0, .int .i64 0, .int .i64 4]) (by simp [results, Tryz.results11, go_sem]) rfl HO
      · have hl1' : ¬ (part.size : Int) > 200 := by omega
        have hl2' : (by'.size : Int) > 200 := by omega
        clear hlong hl1
        go_wp2_with fail
        exact bodyPost_ret (v := .tuple #[.slice none 0 0, .int .i64 0, .int .i64 4]) (by simp [results, Tryz.results11, go_sem]) rfl HO
    · have hl1' : ¬ (part.size : Int) > 200 := by omega
      have hl2' : ¬ (by'.size : Int) > 200 := by omega
      by_cases hp : part.size = 0
      · have HO : Hid (RpO w xs part by' wh 0 (fun e => .int .i64 e) (.returned (.tuple #[.slice none 0 0, .int .i64 0, .int .i64 2])) w1) := .inl ⟨by rw [rpE_none hlong hp]; decide, by rw [rpE_none hlong hp], HB1⟩
        obtain rfl := ps.size_nul hp
        clear hlong
        go_wp2_with fail
        exact bodyPost_ret (v := .tuple #[.slice none 0 0, .int .i64 0, .int .i64 2]) (by simp [results, Tryz.results11, go_sem]) rfl HO
      · have hpe : part.toList.isEmpty = false := by
          rw [Bool.eq_false_iff]
          exact fun e => hp (ps.emp_yes e)
        have HP1 : Hid (1 ≤ part.size) := by show 1 ≤ _; omega
        have HP2 : Hid (part.size ≤ 200) := by show _ ≤ _; omega
        have HBY : Hid (by'.size ≤ 200) := by show _ ≤ _; omega
        have HRE : Hid (rpE xs part by' wh 0 = ffl part by' wh xs) := rpE_loop hlong hp
        have HF : Hid (ps.Fine xs) := ps.Told.fine HT.out
        have HF0 : Hid (∀ (j : Nat) (y : ps.Fl), xs[j]? = some y → ps.ckT y.s = 0) := by
          rcases HT.out with ⟨-, h⟩ | ⟨-, ⟨-, h⟩ | ⟨h, -⟩⟩
          · exact absurd h (by decide)
          · exact fun j y hy => (ps.cd_zero hy (h j (List.getElem?_eq_some_iff.1 hy).1)).2.2
          · exact absurd rfl h
        clear hp hlong
        go_upto_block 0 with fail
        go_cut [12, 13] (fun s12 s13 wx => s12 = .int .i64 (tot part wh xs : Nat) ∧ Hid (ffl part by' wh xs = 0 ∧ RV fL w s13 (rpl part by' wh xs) wx))
        case first =>
          go_wp2_with fail
          go_loopw [12, 13, 14] (fun s12 s13 s14 wr => ∃ i : Nat, s14 = .int .i64 (i : Int) ∧ s12 = .int .i64 (tot part wh (xs.take i) : Nat) ∧ i ≤ xs.length ∧ Hid (RL w xs part by' wh i s13 wr)) (fun _ _ s14 _ => xs.length - (intOf s14).toNat)
          case atStart => exact ⟨0, rfl, rfl, Nat.zero_le _, fun j y hj _ => absurd hj (Nat.not_lt_zero _), (RV.nil fL w).next HB1.out⟩
          case round =>
            obtain ⟨i, rfl, rfl, hi, HR⟩ := hrel
            by_cases hlt : i < xs.length
            · have hlt' : (i : Int) < (xs.length : Int) := by omega
              have hi0 : (0 : Int) ≤ (i : Int) := by omega
              have hi9 : (i : Int) < 200 := by have := HF.out.len; omega
              have hx : xs[i]? = some xs[i] := List.getElem?_eq_getElem hlt
              obtain ⟨x, ex⟩ : ∃ x, xs[i] = x := ⟨_, rfl⟩
              rw [ex] at hx
              obtain ⟨gx, ox, rfl, -⟩ := ps.FM.at (HX.out.below HR.out.own.below) hx
              obtain ⟨c0, c1, c2⟩ := ps.FM.cells (HX.out.below HR.out.own.below) hx
              have HFX := HF.out.cell x (List.mem_of_getElem? hx)
              have HTT := tot_snoc part wh (xs.take i) x
              rw [← take_snoc hx] at HTT
              have HTL := tot_le part wh (xs.take i) fun y hy => (HF.out.cell y (List.mem_of_mem_take hy)).2.2
              have HPLL := plc_le x.s part wh
              have HLN : Hid ((rpl part by' wh (xs.take i)).length ≤ 10000) := by
                have h1 := rpl_len part by' wh (xs.take i)
                have h2 := HF.out.len
                rw [List.length_take] at h1
                show _ ≤ _
                omega
              have HRS := rpl_snoc part by' wh (xs.take i) x
              rw [← take_snoc hx] at HRS
              have HCN : Hid (∀ wy, ¬ (wh = true ∧ x.s ≠ part) → Calls Tryz.prog 7 #[.string x.s, .string part, .string by'] wy fun e w' => e = .returned (.tuple #[.int .i64 (plc x.s part wh : Nat), .string (ntx part by' wh x.s)]) ∧ Bw wy w') := fun wy hn => by
                have h := rcount_any x.s part by' wy HFX.2.2 (by have := HP2.out; omega) HP1.out HBY.out
                have e1 : plc x.s part wh = (cntL part.toList by'.toList x.s.toList).1 := by
                  unfold plc
                  cases wh
                  · rw [if_neg (by simp), cnt_fst (ne_nil HP1.out)]
                  · have e : x.s = part := Classical.byContradiction fun hne => hn ⟨rfl, hne⟩
                    rw [if_pos rfl, if_pos e, e, cnt_self (ne_nil HP1.out)]
                have e2 : ntx part by' wh x.s = txt (cntL part.toList by'.toList x.s.toList).2 := by unfold ntx; rw [if_neg hn]
                rw [e1, e2]
                exact h
              have HNO : Hid (wh = true ∧ x.s ≠ part → plc x.s part wh = 0) := fun h => by unfold plc; rw [if_pos h.1, if_neg h.2]
              have HN0 : Hid (plc x.s part wh = 0 → ntx part by' wh x.s = x.s) := ntx_no HP1.out
              have HTX : Hid (∀ wy, Calls Tryz.prog 18 #[.string (ntx part by' wh x.s)] wy fun e w' => e = .returned (.int .i64 (ftx (ntx part by' wh x.s))) ∧ Bw wy w') := fun wy => rtext_is _ wy
              have HFZ : Hid (ftx x.s = 0) := by
                show _ = _
                unfold ftx
                rw [if_neg HFX.2.1]
                exact HF0.out i x hx
              have HFF : Hid (ftx (ntx part by' wh x.s) ≠ 0 → ffl part by' wh xs = ftx (ntx part by' wh x.s)) := fun h => ffl_at hx (fun j y hj hy => HR.out.fine j y hj hy) h
              have HRN : Hid (ftx (ntx part by' wh x.s) = 0 → ∀ (j : Nat) (y : ps.Fl), j < i + 1 → xs[j]? = some y → ftx (ntx part by' wh y.s) = 0) := fun h j y hj hy => by
                by_cases e : j = i
                · subst e
                  rw [hx] at hy
                  obtain rfl := Option.some.inj hy
                  exact h
                · exact HR.out.fine j y (by omega) hy
              have hcn : (0 : Int) ≤ (tot part wh (xs.take i) : Nat) ∧ ((tot part wh (xs.take i) : Nat) : Int) ≤ 40200 := by
                have h2 := HF.out.len
                rw [List.length_take] at HTL
                omega
              have hcp : (0 : Int) ≤ (plc x.s part wh : Nat) ∧ ((plc x.s part wh : Nat) : Int) ≤ 201 := by
                have := HFX.2.2
                omega
              have HSZ : Hid (x.s.size ≠ 0) := HFX.2.1
              obtain ⟨p9, k9, e9, -⟩ := HR.out.own.form
              subst e9
              generalize ntx part by' wh x.s = nt at *
              generalize plc x.s part wh = n at *
              generalize tot part wh (xs.take i) = T at *
              clear hx ex HFX HTL HPLL
              obtain ⟨xc, xr, xs2⟩ := x
              dsimp only at c0 c1 c2 HCN HTT HRS HNO HN0 HFZ HSZ
              go_upto_region 14 with fail
              clear c0 c1 c2
              have HW4 : Hid (Bw wr (wr.alloc (.cells #[.int .i64 xc, .int .i64 xr, .string xs2] 30)) ∧ GP (wr.alloc (.cells #[.int .i64 xc, .int .i64 xr, .string xs2] 30)) wr.heap.size xc xr xs2) := ⟨Bw.al _ _, heap_alloc_new _ _⟩
              generalize wr.alloc (.cells #[.int .i64 xc, .int .i64 xr, .string xs2] 30) = w4 at *
              obtain ⟨gp, hgp⟩ : ∃ g, wr.heap.size = g := ⟨_, rfl⟩
              rw [hgp] at HW4 ⊢
              have HGP : Hid (wr.heap.size = gp) := hgp
              clear hgp
              have HSM : Hid ((T : Int) + (n : Int) = ((tot part wh (xs.take (i + 1)) : Nat) : Int)) := by show _ = _; rw [HTT]; omega
              clear HTT
              have hse : xs2.toList.isEmpty = false := by
                rw [Bool.eq_false_iff]
                exact fun e => HSZ.out (ps.emp_yes e)
              by_cases hA : wh = true ∧ xs2 ≠ part
              · have hn0 : n = 0 := HNO.out hA
                have hnt : nt = xs2 := HN0.out hn0
                subst hn0
                subst hnt
                rw [if_neg HSZ.out] at HRS
                have HRN2 := HRN.out HFZ.out
                have hb : (nt.toList == part.toList) = false := (Lib.bytes_beq_false_iff nt part).2 hA.2
                have HTE : Hid ((T : Int) = ((tot part wh (xs.take (i + 1)) : Nat) : Int)) := by show _ = _; rw [← HSM.out]; simp
                have hwh : wh = true := hA.1
                subst hwh
                clear hA HNO HN0 HSM HCN
                obtain ⟨g2, k2, w8, hr, hV8⟩ := (HR.out.own.next HW4.out.1).fill HLN.out xc xr nt
                rw [← HRS] at hV8
                have HR8 : Hid ((Builtin.append_ #[22, 22] 22 #[.slice p9 (rpl part by' true (xs.take i)).length k9, .slice (some ⟨w4.heap.size, 0, none⟩) 1 1]).run Tryz.prog (w4.alloc (.cells #[.int .i64 xc, .int .i64 xr, .string nt] 30)) = .ok (.slice (some ⟨g2, 0, none⟩) ((rpl part by' true (xs.take i)).length + 1) k2) w8) := hr
                have HRL : Hid (RL w xs part by' true (i + 1) (.slice (some ⟨g2, 0, none⟩) ((rpl part by' true (xs.take i)).length + 1) k2) w8) := ⟨HRN2, hV8⟩
                obtain ⟨d0, d1, d2, d3⟩ := HW4.out.2.at
                clear HRN HFF HRS HLN HW4 HR HRN2 hr hV8
                generalize (rpl part by' true (xs.take i)).length + 1 = n3 at *
                generalize (rpl part by' true (xs.take i)).length = n2 at *
                go_wp2_with (first | (at_builtin; refine wpList_append_eq rfl _ _ 22 22 rfl _ _ _ _ rfl rfl HR8.out ?_))
                exact ⟨⟨i + 1, rfl, by first | rfl | rw [HTE.out], hlt, HRL⟩, by simp [intOf]; omega⟩
              · have HCN2 : Hid (∀ wy, Calls Tryz.prog 7 #[.string xs2, .string part, .string by'] wy fun e w' => e = .returned (.tuple #[.int .i64 (n : Nat), .string nt]) ∧ Bw wy w') := fun wy => HCN.out wy hA
                have hcond : wh = false ∨ (wh = true ∧ (xs2.toList == part.toList) = true) := by
                  cases wh
                  · exact .inl rfl
                  · have e : xs2 = part := Classical.byContradiction fun h => hA ⟨rfl, h⟩
                    exact .inr ⟨rfl, by rw [e]; simp⟩
                clear HCN HNO hA
                obtain ⟨d0, d1, d2, d3⟩ := HW4.out.2.at
                go_cut [50] (fun s50 wx => s50 = .bool true ∧ wx = w4)
                case first =>
                  rcases hcond with rfl | ⟨rfl, hq⟩
                  · go_wp2_with fail
                    go_meet
                    case rel => exact ⟨rfl, rfl⟩
                  · go_wp2_with fail
                    go_meet
                    case rel => exact ⟨rfl, rfl⟩
                case rest =>
                obtain ⟨rfl, rfl⟩ := hcut
                clear hcond
                apply_assumption
                go_wp2_with fail
                refine (HCN2.out _).mono ?_
                rintro e w5 ⟨rfl, hb5⟩
                have HW5 : Hid (Bw wr w5 ∧ GP w5 gp xc xr xs2) := ⟨HW4.out.1.tr hb5, HW4.out.2.next hb5⟩
                clear HCN2 hb5 d0 d1 d2 d3 HW4
                dsimp only
                by_cases hn : 0 < n
                · have hn' : (n : Int) > 0 := by omega
                  go_wp2_with fail
                  refine (HTX.out _).mono ?_
                  rintro e w6 ⟨rfl, hb6⟩
                  have HW6 : Hid (Bw wr w6 ∧ GP w6 gp xc xr xs2) := ⟨HW5.out.1.tr hb6, HW5.out.2.next hb6⟩
                  clear HTX hb6 HW5 HN0 HFZ
                  dsimp only
                  generalize ftx nt = ff at *
                  by_cases hff : ff = 0
                  · subst hff
                    have HRN2 := HRN.out rfl
                    obtain ⟨d0, d1, d2, d3⟩ := HW6.out.2.at
                    have HW7 : Hid (Bw wr (w6.setCell ⟨gp, 2, none⟩ (.string nt)) ∧ GP (w6.setCell ⟨gp, 2, none⟩ (.string nt)) gp xc xr nt) := ⟨HW6.out.1.setCell (Nat.le_of_eq HGP.out) _, HW6.out.2.set nt⟩
                    clear HW6
                    go_upto_region 22 with fail
                    clear d0 d1 d2 d3
                    generalize w6.setCell ⟨gp, 2, none⟩ (.string nt) = w7 at *
                    by_cases hne : nt.size = 0
                    · rw [if_pos hne, List.append_nil] at HRS
                      have HRL : Hid (RL w xs part by' wh (i + 1) (.slice p9 (rpl part by' wh (xs.take i)).length k9) w7) := ⟨HRN2, by rw [HRS]; exact HR.out.own.next HW7.out.1⟩
                      obtain rfl := ps.size_nul hne
                      obtain ⟨d0, d1, d2, d3⟩ := HW7.out.2.at
                      clear HRN HFF HRS HLN HW7 HR HRN2
                      have hsum := HSM.out
                      generalize (rpl part by' wh (xs.take i)).length = n2 at *
                      go_wp2_with fail
                      exact ⟨⟨i + 1, rfl, by first | rfl | rw [hsum], hlt, HRL⟩, by simp [intOf]; omega⟩
                    · have hne2 : nt.toList.isEmpty = false := by
                        rw [Bool.eq_false_iff]
                        exact fun e => hne (ps.emp_yes e)
                      rw [if_neg hne] at HRS
                      have hsum := HSM.out
                      obtain ⟨g2, k2, w8, hr, hV8⟩ := (HR.out.own.next HW7.out.1).fill HLN.out xc xr nt
                      rw [← HRS] at hV8
                      have HR8 : Hid ((Builtin.append_ #[22, 22] 22 #[.slice p9 (rpl part by' wh (xs.take i)).length k9, .slice (some ⟨w7.heap.size, 0, none⟩) 1 1]).run Tryz.prog (w7.alloc (.cells #[.int .i64 xc, .int .i64 xr, .string nt] 30)) = .ok (.slice (some ⟨g2, 0, none⟩) ((rpl part by' wh (xs.take i)).length + 1) k2) w8) := hr
                      have HRL : Hid (RL w xs part by' wh (i + 1) (.slice (some ⟨g2, 0, none⟩) ((rpl part by' wh (xs.take i)).length + 1) k2) w8) := ⟨HRN2, hV8⟩
                      obtain ⟨d0, d1, d2, d3⟩ := HW7.out.2.at
                      clear HRN HFF HRS HLN HW7 HR HRN2 hr hV8
                      generalize (rpl part by' wh (xs.take i)).length + 1 = n3 at *
                      generalize (rpl part by' wh (xs.take i)).length = n2 at *
                      go_wp2_with (first | (at_builtin; refine wpList_append_eq rfl _ _ 22 22 rfl _ _ _ _ rfl rfl HR8.out ?_))
                      exact ⟨⟨i + 1, rfl, by first | rfl | rw [hsum], hlt, HRL⟩, by simp [intOf]; omega⟩
                  · have HO : Hid (RpO w xs part by' wh 0 (fun e => .int .i64 e) (.returned (.tuple #[.slice none 0 0, .int .i64 0, .int .i64 ff])) w6) := .inl ⟨by rw [HRE.out, HFF.out hff]; exact hff, by rw [HRE.out, HFF.out hff], HR.out.own.below.tr HW6.out.1⟩
                    clear HRN HFF HRS HLN HW6 HR
                    go_wp2_with fail
                    exact bodyPost_ret (v := .tuple #[.slice none 0 0, .int .i64 0, .int .i64 ff]) (by simp [results, Tryz.results11, go_sem]) rfl HO
                · have hn' : ¬ (n : Int) > 0 := by omega
                  have hn0 : n = 0 := by omega
                  have hnt : nt = xs2 := HN0.out hn0
                  subst hnt
                  rw [if_neg HSZ.out] at HRS
                  have HRN2 := HRN.out HFZ.out
                  have hsum := HSM.out
                  clear HN0 HTX HFZ hn0 hn
                  obtain ⟨g2, k2, w8, hr, hV8⟩ := (HR.out.own.next HW5.out.1).fill HLN.out xc xr nt
                  rw [← HRS] at hV8
                  have HR8 : Hid ((Builtin.append_ #[22, 22] 22 #[.slice p9 (rpl part by' wh (xs.take i)).length k9, .slice (some ⟨w5.heap.size, 0, none⟩) 1 1]).run Tryz.prog (w5.alloc (.cells #[.int .i64 xc, .int .i64 xr, .string nt] 30)) = .ok (.slice (some ⟨g2, 0, none⟩) ((rpl part by' wh (xs.take i)).length + 1) k2) w8) := hr
                  have HRL : Hid (RL w xs part by' wh (i + 1) (.slice (some ⟨g2, 0, none⟩) ((rpl part by' wh (xs.take i)).length + 1) k2) w8) := ⟨HRN2, hV8⟩
                  obtain ⟨d0, d1, d2, d3⟩ := HW5.out.2.at
                  clear HRN HFF HRS HLN HW5 HR HRN2 hr hV8
                  generalize (rpl part by' wh (xs.take i)).length + 1 = n3 at *
                  generalize (rpl part by' wh (xs.take i)).length = n2 at *
                  go_wp2_with (first | (at_builtin; refine wpList_append_eq rfl _ _ 22 22 rfl _ _ _ _ rfl rfl HR8.out ?_))
                  exact ⟨⟨i + 1, rfl, by first | rfl | rw [hsum], hlt, HRL⟩, by simp [intOf]; omega⟩
            · have hlt' : ¬ (i : Int) < (xs.length : Int) := by omega
              have e1 : xs.take i = xs := List.take_of_length_le (by omega)
              have HE : Hid (ffl part by' wh xs = 0 ∧ RV fL w u13 (rpl part by' wh xs) wr) := by
                refine ⟨ffl_none fun j y hy => HR.out.fine j y (by have := (List.getElem?_eq_some_iff.1 hy).1; omega) hy, ?_⟩
                have := HR.out.own
                rw [e1] at this
                exact this
              rw [e1]
              clear HR
              go_wp2_with fail
              go_meet
              case rel => exact ⟨rfl, HE⟩
        case rest =>
        obtain ⟨rfl, HE⟩ := hcut
        apply_assumption
        have HO : Hid (RpO w xs part by' wh 0 (fun e => .int .i64 e) (.returned (.tuple #[u13, .int .i64 (tot part wh xs : Nat), .int .i64 0])) wc) := .inr ⟨by rw [HRE.out]; exact HE.out.1, u13, rfl, HE.out.2⟩
        go_wp2_with fail
        exact bodyPost_ret (v := .tuple #[u13, .int .i64 (tot part wh xs : Nat), .int .i64 0]) (by simp [results, Tryz.results11, go_sem]) rfl HO
  · have HO : Hid (RpO w xs part by' wh t (fun e => .int .i64 e) (.returned (.tuple #[.slice none 0 0, .int .i64 0, .int .i64 t])) w1) := .inl ⟨by rw [rpE_told h0]; exact h0, by rw [rpE_told h0], HB1⟩
    go_wp2_with fail
    exact bodyPost_ret (v := .tuple #[.slice none 0 0, .int .i64 0, .int .i64 t]) (by simp [results, Tryz.results11, go_sem]) rfl HO
end Go.Proofs.YtlaeoofjoofbcaaGreatDoor.fw
namespace Go.Proofs.YtlaeoofjoofbcaaGreatDoor.fw
open Go.RowKit Go.Sort
theorem eqF (c r : Int) (s : ByteArray) (m : Nat) (W : World) : (Op.equalIn (m + 4) 30 (.agg #[.int .i64 c, .int .i64 r, .string s]) (.agg #[.int .i64 c, .int .i64 r, .string s])).run Tryz.prog W = .ok true W := by
  have hS : Tryz.prog.underlying 30 = some (.struct (Tryz.prog.fieldsOf 30)) := by kernel_rfl
  have hp : Tryz.prog.stoodInHeld 30 = false := by kernel_rfl
  rw [run_equalIn_struct W (m + 3) 30 _ _ hS hp]
  simp only [Program.fieldsOf, Tryz.underlying30]
  simp [Op.eqFields, go_sem, ps.eqIn30]
theorem neqF (c r : Int) (s : ByteArray) (W : World) : (binOp BinOp.neq 30 (.agg #[.int .i64 c, .int .i64 r, .string s]) (.agg #[.int .i64 c, .int .i64 r, .string s])).run Tryz.prog W = .ok (.bool false) W := by
  rw [run_neq_struct, show (10000 : Nat) = 9996 + 4 from rfl, eqF]; rfl
theorem RV.three {w : World} {v : Value} {X : List ps.Fl} {wx : World} (h : RV fL w v X wx) {i : Nat} {x : ps.Fl} (hx : X[i]? = some x) : ∃ g c, v = .slice (some ⟨g, 0, none⟩) X.length c ∧ wx.cell? ⟨g, i * 3, none⟩ = some (.int .i64 x.c) ∧ wx.cell? ⟨g, i * 3 + 1, none⟩ = some (.int .i64 x.r) ∧ wx.cell? ⟨g, i * 3 + 2, none⟩ = some (.string x.s) := by
  obtain ⟨g, c, e1, -, -, hc⟩ := h.at hx
  exact ⟨g, c, e1, hc 0 _ rfl, hc 1 _ rfl, hc 2 _ rfl⟩
set_option maxRecDepth 1000000 in
set_option maxHeartbeats 4000000 in
theorem rsheets_any (X : List ps.Fl) (v v' : Value) (w0 w0' w : World) (hv : RV fL w0 v X w) (hv' : RV fL w0' v' X w) (hl : X.length ≤ 100000) :
    Calls Tryz.prog 24 #[v, v'] w fun e w' => e = .returned (.bool true) ∧ Bw w w' := by
  have HV : Hid (RV fL w0 v X w) := hv
  have HV' : Hid (RV fL w0' v' X w) := hv'
  have hl9 : (X.length : Int) ≤ 100000 := by omega
  obtain ⟨pX, cX, eV, -⟩ := hv.form
  subst eV
  obtain ⟨pX', cX', eV', -⟩ := hv'.form
  subst eV'
  clear hv hl hv'
  go_enter Tryz.func24, Tryz.ntmps24
  go_upto_block 0 with fail
  go_cut [] (fun wx => Hid (Bw w wx))
  case first =>
    go_wp2_with fail
    go_loopw [5] (fun s5 wr => ∃ i : Nat, s5 = .int .i64 (i : Int) ∧ i ≤ X.length ∧ Hid (Bw w wr)) (fun s5 _ => X.length - (intOf s5).toNat)
    case atStart => exact ⟨0, rfl, Nat.zero_le _, Below.refl _ _⟩
    case round =>
      obtain ⟨i, rfl, hi, HR⟩ := hrel
      by_cases hlt : i < X.length
      · have hlt' : (i : Int) < (X.length : Int) := by omega
        have hi0 : (0 : Int) ≤ (i : Int) := by omega
        have hx : X[i]? = some X[i] := List.getElem?_eq_getElem hlt
        obtain ⟨x, ex⟩ : ∃ x, X[i] = x := ⟨_, rfl⟩
        rw [ex] at hx
        obtain ⟨gX, k9, e1, q0, q1, q2⟩ := (HV.out.next HR.out).three hx
        injection e1 with e2 e3 e4
        subst e2
        obtain ⟨gY, k8, e1', r0, r1, r2⟩ := (HV'.out.next HR.out).three hx
        injection e1' with e2' e3' e4'
        subst e2'
        have e30 := fun W => neqF x.c x.r x.s W
        clear hx ex e3 e4 e3' e4'
        obtain ⟨xc, xr, xs⟩ := x
        dsimp only at q0 q1 q2 r0 r1 r2 e30
        go_wp2_with fail
        go_cut [25] (fun s25 wx => s25 = .bool false ∧ wx = wr.drew)
        case first =>
          go_region
          all_goals
            go_wp2_with fail
            go_meet
            case rel => exact ⟨rfl, rfl⟩
        case rest =>
        obtain ⟨rfl, rfl⟩ := hcut
        apply_assumption
        clear q0 q1 q2 r0 r1 r2 e30
        have HR2 : Hid (Bw w wr.drew) := HR.out.drew
        go_wp2_with fail
        exact ⟨⟨i + 1, rfl, hlt, HR2⟩, by simp [intOf]; omega⟩
      · have hlt' : ¬ (i : Int) < (X.length : Int) := by omega
        go_wp2_with fail
        go_meet
        case rel => exact HR
  case rest =>
  have HC := hcut
  clear hcut
  apply_assumption
  go_wp2_with fail
  go_ret
  exact ⟨rfl, HC.out⟩
set_option maxRecDepth 1000000 in
set_option maxHeartbeats 4000000 in
theorem made_any (X : List ps.Fl) (v v' ev : Value) (n : Int) (w0 w0' w : World) (hv : RV fL w0 v X w) (hv' : RV fL w0' v' X w) (hl : X.length ≤ 100000)
    (hER : Calls Tryz.prog 9 #[ev, .int .i64 n] w fun r w' => r = .returned (.bool true) ∧ Bw w w') :
    Calls Tryz.prog 13 #[v, ev, v', .int .i64 n] w fun e w' => e = .returned (.bool true) ∧ Bw w w' := by
  have HS : Hid (∀ wx, Bw w wx → Calls Tryz.prog 24 #[v, v'] wx fun e w' => e = .returned (.bool true) ∧ Bw wx w') := fun wx hb => rsheets_any X v v' w0 w0' wx (hv.next hb) (hv'.next hb) hl
  clear hv hv' hl
  go_enter Tryz.func13, Tryz.ntmps13
  go_wp2_with fail
  refine hER.mono ?_
  rintro e w1 ⟨rfl, hb1⟩
  have HB1 : Hid (Bw w w1) := hb1
  clear hb1 hER
  dsimp only
  go_wp2_with fail
  refine (HS.out w1 HB1.out).mono ?_
  rintro e w2 ⟨rfl, hb2⟩
  have HB2 : Hid (Bw w w2) := HB1.out.tr hb2
  clear hb2 HS
  dsimp only
  go_wp2_with fail
  go_ret
  exact ⟨rfl, HB2⟩
set_option maxRecDepth 1000000 in
set_option maxHeartbeats 8000000 in
theorem findReplaces_any (p : Option Addr) (c : Nat) (xs : List ps.Fl) (part by' : ByteArray) (wh : Bool) (w : World) (hx : ps.FM w p xs) (hE : ps.EnvP w) (hm : MX w)
    (HER : Hid (∀ wx e, Bw w wx → Calls Tryz.prog 9 #[ps.errV e, .int .i64 e] wx fun r w' => r = .returned (.bool true) ∧ Bw wx w')) :
    Calls Tryz.prog 4 #[.slice p xs.length c, .string part, .string by', .bool wh] w fun e w' => e = .returned (.bool true) ∧ Bw w w' := by
  obtain ⟨t, ht⟩ := told_ex xs
  have HR0 := rreplaced_any p c xs part by' wh w hx t ht
  have HRP : Hid (∀ wx, Bw w wx → Calls Tryz.prog 12 #[.slice p xs.length c, .string part, .string by', .bool wh] wx fun e w' => RpO wx xs part by' wh t ps.errV e w') := fun wx hb => replace_any p c xs part by' wh wx (hx.below hb) (hE.below hb hE.size) (hm.next hb) t ht
  have HLN : Hid (rpE xs part by' wh t = 0 → (rpl part by' wh xs).length ≤ 100000) := fun h => by
    have h1 := rpl_len part by' wh xs
    have ht0 : t = 0 := Classical.byContradiction fun h2 => h2 (by rw [rpE_told h2] at h; exact h)
    rw [ht0] at ht
    have := (ps.Told.fine ht).len
    omega
  clear hx hE hm ht
  go_enter Tryz.func4, Tryz.ntmps4
  go_wp2_with fail
  refine HR0.mono ?_
  clear HR0
  rintro e w1 (⟨hz, rfl, hb1⟩ | ⟨hz, v, rfl, hv⟩)
  · have HB1 : Hid (Bw w w1) := hb1
    have HZ : Hid (rpE xs part by' wh t ≠ 0) := hz
    clear hb1 hz HLN
    dsimp only
    go_wp2_with fail
    refine (HRP.out w1 HB1.out).mono ?_
    rintro e w2 (⟨hz, rfl, hb2⟩ | ⟨hz, v, rfl, hv⟩)
    · have HB2 : Hid (Bw w w2) := HB1.out.tr hb2
      have HMD : Hid (Calls Tryz.prog 13 #[.slice none 0 0, ps.errV (rpE xs part by' wh t), .slice none 0 0, .int .i64 (rpE xs part by' wh t)] w2 fun e w' => e = .returned (.bool true) ∧ Bw w2 w') := made_any [] _ _ _ _ w2 w2 w2 (RV.nil fL w2) (RV.nil fL w2) (by simp) (HER.out w2 _ HB2.out)
      clear hz hb2 HB1 HZ HRP
      generalize ps.errV (rpE xs part by' wh t) = ev at *
      generalize rpE xs part by' wh t = E at *
      dsimp only
      go_wp2_with fail
      refine HMD.out.mono ?_
      rintro e w3 ⟨rfl, hb3⟩
      have HB3 : Hid (Bw w w3) := HB2.out.tr hb3
      clear hb3 HB2 HMD
      dsimp only
      go_wp2_with fail
      go_ret
      exact ⟨rfl, HB3⟩
    · exact absurd hz HZ.out
  · have HA1 : Hid (RV fL w v (rpl part by' wh xs) w1) := hv
    have HZ : Hid (rpE xs part by' wh t = 0) := hz
    clear hv hz
    dsimp only
    go_wp2_with fail
    refine (HRP.out w1 HA1.out.below).mono ?_
    rintro e w2 (⟨hz, rfl, hb2⟩ | ⟨hz, v2, rfl, hv2⟩)
    · exact absurd HZ.out hz
    · have HB2 : Hid (Bw w w2) := HA1.out.below.tr hv2.below
      have HMD : Hid (Calls Tryz.prog 13 #[v2, ps.errV 0, v, .int .i64 0] w2 fun e w' => e = .returned (.bool true) ∧ Bw w2 w') := made_any _ _ _ _ _ w1 w w2 hv2 (HA1.out.next hv2.below) (HLN.out HZ.out) (HER.out w2 0 HB2.out)
      clear hz hv2 HA1 HZ HRP HLN
      generalize ps.errV 0 = ev at *
      generalize tot part wh xs = tt at *
      dsimp only
      go_wp2_with fail
      refine HMD.out.mono ?_
      rintro e w3 ⟨rfl, hb3⟩
      have HB3 : Hid (Bw w w3) := HB2.out.tr hb3
      clear hb3 HB2 HMD
      dsimp only
      go_wp2_with fail
      go_ret
      exact ⟨rfl, HB3⟩
end Go.Proofs.YtlaeoofjoofbcaaGreatDoor.fw

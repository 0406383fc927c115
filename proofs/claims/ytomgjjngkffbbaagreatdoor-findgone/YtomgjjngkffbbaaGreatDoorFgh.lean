
/- find.Replace, whole. Conditions: what the package variables hold. -/
import Derived.Test.YtomgjjngkffbbaaGreatDoorFgg
namespace Go.Proofs.YtomgjjngkffbbaaGreatDoor.fw
open Go.RowKit Go.Sort
/-- The fault of it all. -/
def rpE (xs : List ps.Fl) (p b : ByteArray) (wh : Bool) (t : Int) : Int := if t ≠ 0 then t else if 200 < p.size ∨ 200 < b.size then 4 else if p.size = 0 then 2 else ffl p b wh xs
/-- What Replace answers. -/
def RpO (w : World) (xs : List ps.Fl) (p b : ByteArray) (wh : Bool) (t : Int) (E : Int → Value) (e : Ending) (w' : World) : Prop :=
  (rpE xs p b wh t ≠ 0 ∧ e = .returned (.tuple #[.slice none 0 0, .int .i64 0, E (rpE xs p b wh t)]) ∧ Bw w w') ∨
  (rpE xs p b wh t = 0 ∧ ∃ v, e = .returned (.tuple #[v, .int .i64 (tot p wh xs : Nat), E 0]) ∧ RV fL w v (rpl p b wh xs) w')
theorem rpE_told {xs : List ps.Fl} {p b : ByteArray} {wh : Bool} {t : Int} (h : t ≠ 0) : rpE xs p b wh t = t := if_pos h
theorem rpE_long {xs : List ps.Fl} {p b : ByteArray} {wh : Bool} (h : 200 < p.size ∨ 200 < b.size) : rpE xs p b wh 0 = 4 := by unfold rpE; rw [if_neg (by simp), if_pos h]
theorem rpE_none {xs : List ps.Fl} {p b : ByteArray} {wh : Bool} (h : ¬ (200 < p.size ∨ 200 < b.size)) (h2 : p.size = 0) : rpE xs p b wh 0 = 2 := by unfold rpE; rw [if_neg (by simp), if_neg h, if_pos h2]
theorem rpE_loop {xs : List ps.Fl} {p b : ByteArray} {wh : Bool} (h : ¬ (200 < p.size ∨ 200 < b.size)) (h2 : ¬ p.size = 0) : rpE xs p b wh 0 = ffl p b wh xs := by unfold rpE; rw [if_neg (by simp), if_neg h, if_neg h2]
/-- How far the loop came. -/
structure RL (w : World) (xs : List ps.Fl) (p b : ByteArray) (wh : Bool) (i : Nat) (v : Value) (wr : World) : Prop where
  fine : ∀ (j : Nat) (y : ps.Fl), j < i → xs[j]? = some y → ftx (ntx p b wh y.s) = 0
  own : RV fL w v (rpl p b wh (xs.take i)) wr
/-- The library's Replace at a text of a sheet. -/
theorem srepl_is (s p b : ByteArray) (wh : Bool) (w : World) (hs : s.size ≤ 200) (hp : 1 ≤ p.size) (hb : b.size ≤ 200) (hm : MX w) :
    Calls Tryz.prog 36 #[.string s, .string p, .string b, .int .i64 (plc s p wh : Nat)] w fun e w' => e = .returned (.string (ntx p b wh s)) ∧ Bw w w' := by
  obtain ⟨m, hm⟩ := hm.2
  have hc : Lib.countB s p ≤ 201 := by
    have h := Lib.count_le s.data.toList p.data.toList
    have e : s.data.toList.length = s.size := by simp
    have e2 : Lib.countB s p = Lib.count s.data.toList p.data.toList := rfl
    omega
  have hmul : Lib.countB s p * b.size ≤ 201 * 200 := Nat.mul_le_mul hc hb
  have h := Tryz.strings_Replace s p b (plc s p wh : Nat) m w (by omega) hm hp (by omega)
  rw [ntx_repl hp] at h
  exact h
/-- A cell with its text in a block of its own. -/
def GP (w : World) (g : Nat) (c r : Int) (s : ByteArray) : Prop := w.heap[g]? = some (.cells #[.int .i64 c, .int .i64 r, .string s] 45)
theorem GP.lt {w : World} {g : Nat} {c r : Int} {s : ByteArray} (h : GP w g c r s) : g < w.heap.size := (Array.getElem?_eq_some_iff.1 h).1
theorem GP.at {w : World} {g : Nat} {c r : Int} {s : ByteArray} (h : GP w g c r s) : w.cell? ⟨g, 0, none⟩ = some (.int .i64 c) ∧ w.cell? ⟨g, 1, none⟩ = some (.int .i64 r) ∧ w.cell? ⟨g, 2, none⟩ = some (.string s) ∧ w.frozen? ⟨g, 2, none⟩ = false := by
  have h' : w.heap[g]? = some (.cells #[.int .i64 c, .int .i64 r, .string s] 45) := h
  refine ⟨?_, ?_, ?_, ?_⟩
  · rw [cell_of_row w g 0 _ _ (0, 0) h]; rfl
  · rw [cell_of_row w g 1 _ _ (0, 0) h]; rfl
  · rw [cell_of_row w g 2 _ _ (0, 0) h]; rfl
  · simp [World.frozen?, h']
theorem GP.next {w w' : World} {g : Nat} {c r : Int} {s : ByteArray} (h : GP w g c r s) (hb : Bw w w') : GP w' g c r s := by
  show _ = _
  rw [hb.block g h.lt]
  exact h
theorem GP.set {w : World} {g : Nat} {c r : Int} {s : ByteArray} (h : GP w g c r s) (t : ByteArray) : GP (w.setCell ⟨g, 2, none⟩ (.string t)) g c r t := by
  show _ = _
  rw [heap_setCell_same w g 2 _ _ _ h]
  rfl
theorem take_snoc {xs : List ps.Fl} {i : Nat} {x : ps.Fl} (h : xs[i]? = some x) : xs.take (i + 1) = xs.take i ++ [x] := by rw [List.take_add_one, h]; rfl
set_option maxRecDepth 1000000 in
set_option maxHeartbeats 8000000 in
theorem replace_any (p : Option Addr) (c : Nat) (xs : List ps.Fl) (part by' : ByteArray) (wh : Bool) (w : World) (hx : ps.FM w p xs) (hE : ps.EnvP w) (hm : MX w) (t : Int) (ht : ps.Told xs t) :
    Calls Tryz.prog 18 #[.slice p xs.length c, .string part, .string by', .bool wh] w fun e w' => RpO w xs part by' wh t ps.errV e w' := by
  have HG := ps.gcheck_any p c xs w hx hE
  have HX : Hid (ps.FM w p xs) := hx
  have HM : Hid (MX w) := hm
  have HEN : Hid (ps.EnvP w) := hE
  have HT : Hid (ps.Told xs t) := ht
  clear hx hE hm ht
  go_enter Tryz.func18, Tryz.ntmps18
  go_wp2_with fail
  refine HG.mono ?_
  rintro e w1 ⟨⟨t', rfl, ht'⟩, hb1⟩
  obtain rfl : t = t' := HT.out.one ht'
  have HB1 : Hid (Bw w w1) := hb1
  clear ht' hb1 HG
  dsimp only
  by_cases h0 : t = 0
  · subst h0
    rw [ps.errV_zero]
    by_cases hlong : 200 < part.size ∨ 200 < by'.size
    · have HO : Hid (RpO w xs part by' wh 0 ps.errV (.returned (.tuple #[.slice none 0 0, .int .i64 0, .iface 67 (.int .i64 4)])) w1) := .inl ⟨by rw [rpE_long hlong]; decide, by rw [rpE_long hlong]; rfl, HB1⟩
      by_cases hl1 : 200 < part.size
      · have hl1' : (part.size : Int) > 200 := by omega
        clear hlong hl1
        go_wp2_with fail
        exact bodyPost_ret (v := .tuple #[.slice none 0 0, .int .i64 0, .iface 67 (.int .i64 4)]) (by simp [results, Tryz.results18, go_sem]) rfl HO
      · have hl1' : ¬ (part.size : Int) > 200 := by omega
        have hl2' : (by'.size : Int) > 200 := by omega
        clear hlong hl1
        go_wp2_with fail
        exact bodyPost_ret (v := .tuple #[.slice none 0 0, .int .i64 0, .iface 67 (.int .i64 4)]) (by simp [results, Tryz.results18, go_sem]) rfl HO
    · have hl1' : ¬ (part.size : Int) > 200 := by omega
      have hl2' : ¬ (by'.size : Int) > 200 := by omega
      by_cases hp : part.size = 0
      · have HO : Hid (RpO w xs part by' wh 0 ps.errV (.returned (.tuple #[.slice none 0 0, .int .i64 0, .iface 67 (.int .i64 2)])) w1) := .inl ⟨by rw [rpE_none hlong hp]; decide, by rw [rpE_none hlong hp]; rfl, HB1⟩
        obtain rfl := ps.size_nul hp
        clear hlong
        go_wp2_with fail
        exact bodyPost_ret (v := .tuple #[.slice none 0 0, .int .i64 0, .iface 67 (.int .i64 2)]) (by simp [results, Tryz.results18, go_sem]) rfl HO
      · have hpe : part.toList.isEmpty = false := by
          rw [Bool.eq_false_iff]
          exact fun e => hp (ps.emp_yes e)
        have HP1 : Hid (1 ≤ part.size) := by show 1 ≤ _; omega
        have HBY : Hid (by'.size ≤ 200) := by show _ ≤ _; omega
        have HRE : Hid (rpE xs part by' wh 0 = ffl part by' wh xs) := rpE_loop hlong hp
        have HF : Hid (ps.Fine xs) := ps.Told.fine HT.out
        clear hp hlong
        go_upto_block 0 with fail
        go_cut [12, 13] (fun s12 s13 wx => s13 = .int .i64 (tot part wh xs : Nat) ∧ Hid (ffl part by' wh xs = 0 ∧ RV fL w s12 (rpl part by' wh xs) wx))
        case first =>
          go_wp2_with fail
          go_loopw [12, 13, 37] (fun s12 s13 s37 wr => ∃ i : Nat, s37 = .int .i64 (i : Int) ∧ s13 = .int .i64 (tot part wh (xs.take i) : Nat) ∧ i ≤ xs.length ∧ Hid (RL w xs part by' wh i s12 wr)) (fun _ _ s37 _ => xs.length - (intOf s37).toNat)
          case atStart => exact ⟨0, rfl, rfl, Nat.zero_le _, fun j y hj _ => absurd hj (Nat.not_lt_zero _), (RV.nil fL w).next HB1.out⟩
          case round =>
            obtain ⟨i, rfl, rfl, hi, HR⟩ := hrel
            by_cases hlt : i < xs.length
            · have hlt' : (i : Int) < (xs.length : Int) := by omega
              have hi0 : (0 : Int) ≤ (i : Int) := by omega
              have hi9 : (i : Int) < 200 := by have := HF.out.len; omega
              have hx : xs[i]? = some xs[i] := List.getElem?_eq_getElem hlt
              obtain ⟨x, ex⟩ : ∃ x, xs[i] = x := ⟨_, rfl⟩
              rw [ex] at hx
              obtain ⟨gx, ox, rfl, -⟩ := ps.FM.at (HX.out.below HR.out.own.below) hx
              obtain ⟨c0, c1, c2⟩ := ps.FM.cells (HX.out.below HR.out.own.below) hx
              have HFX := HF.out.cell x (List.mem_of_getElem? hx)
              have HTT := tot_snoc part wh (xs.take i) x
              rw [← take_snoc hx] at HTT
              have HTL := tot_le part wh (xs.take i) fun y hy => (HF.out.cell y (List.mem_of_mem_take hy)).2.2
              have HPLL := plc_le x.s part wh
              have HLN : Hid ((rpl part by' wh (xs.take i)).length ≤ 10000) := by
                have h1 := rpl_len part by' wh (xs.take i)
                have h2 := HF.out.len
                rw [List.length_take] at h1
                show _ ≤ _
                omega
              have HRS := rpl_snoc part by' wh (xs.take i) x
              rw [← take_snoc hx] at HRS
              have HPL : Hid (∀ wx, Bw w wx → Calls Tryz.prog 35 #[.string x.s, .string part, .bool wh] wx fun e w' => e = .returned (.int .i64 (plc x.s part wh : Nat)) ∧ w' = wx) := fun wx hb => places_any x.s part wh wx HFX.2.2 HP1.out (HM.out.next hb)
              have HSR : Hid (∀ wx, Bw w wx → Calls Tryz.prog 36 #[.string x.s, .string part, .string by', .int .i64 (plc x.s part wh : Nat)] wx fun e w' => e = .returned (.string (ntx part by' wh x.s)) ∧ Bw wx w') := fun wx hb => srepl_is x.s part by' wh wx HFX.2.2 HP1.out HBY.out (HM.out.next hb)
              have HSC : Hid (∀ wx, Bw w wx → Calls Tryz.prog 37 #[.agg #[.int .i64 x.c, .int .i64 x.r], .string (ntx part by' wh x.s)] wx fun e w' => e = .returned (ps.errV (ftx (ntx part by' wh x.s))) ∧ Bw wx w') := fun wx hb => scheck_is x.c x.r _ wx (HEN.out.below hb HEN.out.size) HFX.1
              have HFF : Hid (ftx (ntx part by' wh x.s) ≠ 0 → ffl part by' wh xs = ftx (ntx part by' wh x.s)) := fun h => ffl_at hx (fun j y hj hy => HR.out.fine j y hj hy) h
              have HRN : Hid (ftx (ntx part by' wh x.s) = 0 → ∀ (j : Nat) (y : ps.Fl), j < i + 1 → xs[j]? = some y → ftx (ntx part by' wh y.s) = 0) := fun h j y hj hy => by
                by_cases e : j = i
                · subst e
                  rw [hx] at hy
                  obtain rfl := Option.some.inj hy
                  exact h
                · exact HR.out.fine j y (by omega) hy
              have hcn : (0 : Int) ≤ (tot part wh (xs.take i) : Nat) ∧ ((tot part wh (xs.take i) : Nat) : Int) ≤ 40200 := by
                have h2 := HF.out.len
                rw [List.length_take] at HTL
                omega
              have hcp : (0 : Int) ≤ (plc x.s part wh : Nat) ∧ ((plc x.s part wh : Nat) : Int) ≤ 201 := by
                have := HFX.2.2
                omega
              obtain ⟨p9, k9, e9, -⟩ := HR.out.own.form
              subst e9
              generalize ntx part by' wh x.s = nt at *
              generalize plc x.s part wh = n at *
              generalize tot part wh (xs.take i) = T at *
              clear hx ex HFX HTL HPLL
              obtain ⟨xc, xr, xs2⟩ := x
              dsimp only at c0 c1 c2 HPL HSR HSC HTT HRS
              go_upto_region 13 with fail
              clear c0 c1 c2
              have HW4 : Hid (Bw wr (wr.alloc (.cells #[.int .i64 xc, .int .i64 xr, .string xs2] 45)) ∧ GP (wr.alloc (.cells #[.int .i64 xc, .int .i64 xr, .string xs2] 45)) wr.heap.size xc xr xs2) := ⟨Bw.al _ _, heap_alloc_new _ _⟩
              generalize wr.alloc (.cells #[.int .i64 xc, .int .i64 xr, .string xs2] 45) = w4 at *
              obtain ⟨gp, hgp⟩ : ∃ g, wr.heap.size = g := ⟨_, rfl⟩
              rw [hgp] at HW4 ⊢
              have HGP : Hid (wr.heap.size = gp) := hgp
              clear hgp
              obtain ⟨d0, d1, d2, d3⟩ := HW4.out.2.at
              go_wp2_with fail
              refine (HPL.out w4 (HR.out.own.below.tr HW4.out.1)).mono ?_
              rintro e w4' ⟨rfl, rfl⟩
              clear HPL
              dsimp only
              go_wp2_with fail
              refine (HSR.out _ (HR.out.own.below.tr HW4.out.1)).mono ?_
              rintro e w5 ⟨rfl, hb5⟩
              have HW5 : Hid (Bw wr w5 ∧ GP w5 gp xc xr xs2) := ⟨HW4.out.1.tr hb5, HW4.out.2.next hb5⟩
              clear HSR hb5 d0 d1 d2 d3 HW4
              obtain ⟨d0, d1, d2, d3⟩ := HW5.out.2.at
              dsimp only
              go_upto_region 15 with fail
              clear d0 d1 d2 d3
              have HW6 : Hid (Bw wr (w5.setCell ⟨gp, 2, none⟩ (.string nt)) ∧ GP (w5.setCell ⟨gp, 2, none⟩ (.string nt)) gp xc xr nt) := ⟨HW5.out.1.setCell (Nat.le_of_eq HGP.out) _, HW5.out.2.set nt⟩
              clear HW5
              generalize w5.setCell ⟨gp, 2, none⟩ (.string nt) = w6 at *
              obtain ⟨d0, d1, d2, d3⟩ := HW6.out.2.at
              go_wp2_with fail
              refine (HSC.out _ (HR.out.own.below.tr HW6.out.1)).mono ?_
              rintro e w7 ⟨rfl, hb7⟩
              have HW7 : Hid (Bw wr w7 ∧ GP w7 gp xc xr nt) := ⟨HW6.out.1.tr hb7, HW6.out.2.next hb7⟩
              clear HSC hb7 d0 d1 d2 d3 HW6
              obtain ⟨d0, d1, d2, d3⟩ := HW7.out.2.at
              dsimp only
              generalize ftx nt = ff at *
              by_cases hff : ff = 0
              · subst hff
                rw [ps.errV_zero]
                have HRN2 := HRN.out rfl
                have hsum : (T : Int) + (n : Int) = ((tot part wh (xs.take (i + 1)) : Nat) : Int) := by rw [HTT]; omega
                by_cases hne : nt.size = 0
                · rw [if_pos hne, List.append_nil] at HRS
                  have HRL : Hid (RL w xs part by' wh (i + 1) (.slice p9 (rpl part by' wh (xs.take i)).length k9) w7) := ⟨HRN2, by rw [HRS]; exact HR.out.own.next HW7.out.1⟩
                  obtain rfl := ps.size_nul hne
                  clear HRN HFF HRS HLN HW7 HR HRN2 HTT
                  generalize (rpl part by' wh (xs.take i)).length = n2 at *
                  go_wp2_with fail
                  exact ⟨⟨i + 1, rfl, by first | rfl | rw [hsum], hlt, HRL⟩, by simp [intOf]; omega⟩
                · have hne2 : nt.toList.isEmpty = false := by
                    rw [Bool.eq_false_iff]
                    exact fun e => hne (ps.emp_yes e)
                  rw [if_neg hne] at HRS
                  obtain ⟨g2, k2, w8, hr, hV8⟩ := (HR.out.own.next HW7.out.1).fill HLN.out xc xr nt
                  rw [← HRS] at hV8
                  have HR8 : Hid ((Builtin.append_ #[22, 22] 22 #[.slice p9 (rpl part by' wh (xs.take i)).length k9, .slice (some ⟨w7.heap.size, 0, none⟩) 1 1]).run Tryz.prog (w7.alloc (.cells #[.int .i64 xc, .int .i64 xr, .string nt] 45)) = .ok (.slice (some ⟨g2, 0, none⟩) ((rpl part by' wh (xs.take i)).length + 1) k2) w8) := hr
                  have HRL : Hid (RL w xs part by' wh (i + 1) (.slice (some ⟨g2, 0, none⟩) ((rpl part by' wh (xs.take i)).length + 1) k2) w8) := ⟨HRN2, hV8⟩
                  clear HRN HFF HRS HLN HW7 HR HRN2 HTT hr hV8 hne
                  generalize (rpl part by' wh (xs.take i)).length + 1 = n3 at *
                  generalize (rpl part by' wh (xs.take i)).length = n2 at *
                  go_wp2_with (first | (at_builtin; refine wpList_append_eq rfl _ _ 22 22 rfl _ _ _ _ rfl rfl HR8.out ?_))
                  exact ⟨⟨i + 1, rfl, by first | rfl | rw [hsum], hlt, HRL⟩, by simp [intOf]; omega⟩
              · have HO : Hid (RpO w xs part by' wh 0 ps.errV (.returned (.tuple #[.slice none 0 0, .int .i64 0, .iface 67 (.int .i64 ff)])) w7) := .inl ⟨by rw [HRE.out, HFF.out hff]; exact hff, by rw [HRE.out, HFF.out hff, ps.errV_some hff], HR.out.own.below.tr HW7.out.1⟩
                rw [ps.errV_some hff]
                clear HRN HFF HRS HLN HW7 HR HTT
                go_wp2_with fail
                exact bodyPost_ret (v := .tuple #[.slice none 0 0, .int .i64 0, .iface 67 (.int .i64 ff)]) (by simp [results, Tryz.results18, go_sem]) rfl HO
            · have hlt' : ¬ (i : Int) < (xs.length : Int) := by omega
              have e1 : xs.take i = xs := List.take_of_length_le (by omega)
              have HE : Hid (ffl part by' wh xs = 0 ∧ RV fL w u12 (rpl part by' wh xs) wr) := by
                refine ⟨ffl_none fun j y hy => HR.out.fine j y (by have := (List.getElem?_eq_some_iff.1 hy).1; omega) hy, ?_⟩
                have := HR.out.own
                rw [e1] at this
                exact this
              rw [e1]
              clear HR
              go_wp2_with fail
              go_meet
              case rel => exact ⟨rfl, HE⟩
        case rest =>
        obtain ⟨rfl, HE⟩ := hcut
        apply_assumption
        have HO : Hid (RpO w xs part by' wh 0 ps.errV (.returned (.tuple #[u12, .int .i64 (tot part wh xs : Nat), .nilIface])) wc) := .inr ⟨by rw [HRE.out]; exact HE.out.1, u12, rfl, HE.out.2⟩
        go_wp2_with fail
        exact bodyPost_ret (v := .tuple #[u12, .int .i64 (tot part wh xs : Nat), .nilIface]) (by simp [results, Tryz.results18, go_sem]) rfl HO
  · have HO : Hid (RpO w xs part by' wh t ps.errV (.returned (.tuple #[.slice none 0 0, .int .i64 0, .iface 67 (.int .i64 t)])) w1) := .inl ⟨by rw [rpE_told h0]; exact h0, by rw [rpE_told h0, ps.errV_some h0], HB1⟩
    rw [ps.errV_some h0]
    go_wp2_with fail
    exact bodyPost_ret (v := .tuple #[.slice none 0 0, .int .i64 0, .iface 67 (.int .i64 t)]) (by simp [results, Tryz.results18, go_sem]) rfl HO
end Go.Proofs.YtomgjjngkffbbaaGreatDoor.fw

/- Package graph: the cells of a sheet are looked at, one by one. Conditions: as each theorem says. -/
import Derived.Test.YtpgjmbbdhilhkaaGreatDoorZo
namespace Go.Proofs.YtpgjmbbdhilhkaaGreatDoor.ps
open Go.RowKit
open adr (C isC ckc)
/-- What is told of a sheet. -/
def FS (xs : List Fl) (v : Value) : Prop := (v = .nilIface ∧ xs.length ≤ 200 ∧ Srt xs ∧ Ful xs) ∨ ((∃ t x, v = .iface t x) ∧ ¬ OKs xs)
/-- So far nothing was found. -/
def FK (xs : List Fl) (i : Nat) : Prop := Srt (xs.take i) ∧ ∀ j x, j < i → xs[j]? = some x → x.s.size ≠ 0
abbrev FG (w1 : World) (gx oy bb : Nat) (y x : Fl) (wx : World) : Prop := wx.cell? ⟨gx, oy, none⟩ = some (.int .i64 y.c) ∧ wx.cell? ⟨gx, oy + 1, none⟩ = some (.int .i64 y.r) ∧ wx.cell? ⟨bb, 0, none⟩ = some (.int .i64 x.c) ∧ wx.cell? ⟨bb, 1, none⟩ = some (.int .i64 x.r) ∧ Below w1.heap.size w1 wx
theorem fgb {w1 : World} {gx oy bb : Nat} {y x : Fl} {wx : World} (h : FG w1 gx oy bb y x wx) : Below w1.heap.size w1 wx := h.2.2.2.2
/-- What was found of a cell and the one ahead of it. -/
def AH (xs : List Fl) (i : Nat) (x : Fl) (b : Bool) : Prop := (b = false → ∀ y, 0 < i → xs[i - 1]? = some y → lt y x.c x.r = true) ∧ (b = true → ∃ y, 0 < i ∧ xs[i - 1]? = some y ∧ lt y x.c x.r = false)
set_option maxRecDepth 100000 in
set_option maxHeartbeats 8000000 in
theorem formulas_any (p : Option Addr) (c : Nat) (xs : List Fl) (w : World) (hx : FM w p xs) (hE : EnvP w) :
    Calls Tryz.prog 21 #[.slice p xs.length c] w fun e w' => (∃ vl v, e = .returned (.tuple #[vl, v]) ∧ FS xs v) ∧ Below w.heap.size w w' := by
  obtain ⟨n, hn⟩ : ∃ n, xs.length = n := ⟨_, rfl⟩
  have HN : Hid (xs.length = n) := hn
  rw [hn]
  have HX : Hid (FM w p xs ∧ EnvP w) := ⟨hx, hE⟩
  clear hx hE hn
  go_enter Tryz.func21, Tryz.ntmps21
  by_cases h2 : n ≤ 200
  · have hl : ¬ (200 : Int) < (n : Int) := by omega
    have hl2 : (n : Int) ≤ 200 := by omega
    have hmk : ∀ W : World, (Instr.makeSlice 50 (.int .i64 (n : Int)) (.int .i64 (n : Int))).run Tryz.prog W = .ok (.slice (some ⟨W.heap.size, 0, none⟩) n n) (W.alloc (.cells (zr12 n) 65)) := fun W => make65 n (by omega) W
    go_wp2_with fail
    have HL0 : Hid (LW w n (w.alloc (.cells (zr12 n) 65))) := LW.make w n
    generalize w.alloc (.cells (zr12 n) 65) = W0 at *
    clear hmk
    go_loopw [19] (fun a wr => ∃ i : Nat, a = .int .i64 i ∧ i ≤ n ∧ FK xs i ∧ LW w n wr) (fun a _ => n - (intOf a).toNat)
    case atStart => exact ⟨0, rfl, Nat.zero_le _, ⟨by simp [Srt], fun j x hj => absurd hj (Nat.not_lt_zero _)⟩, HL0.out⟩
    case round =>
      obtain ⟨i, rfl, hi, hF, hL⟩ := hrel
      have HK : Hid (FK xs i ∧ LW w n wr) := ⟨hF, hL⟩
      clear hF hL HL0
      by_cases hin : i < n
      · have hiN : (i : Int) < (n : Int) := by omega
        have hi0 : (0 : Int) ≤ (i : Int) := by omega
        obtain ⟨x, hx⟩ : ∃ x, xs[i]? = some x := ⟨_, List.getElem?_eq_getElem (by rw [HN.out]; exact hin)⟩
        have HXi : Hid (xs[i]? = some x) := hx
        obtain ⟨gx, ox, rfl, hgx⟩ := HX.out.1.at hx
        have hfw := HX.out.1.next HK.out.2.ahead (fun g o e => by injection e with e; injection e with e1; rw [← e1]; exact hgx)
        obtain ⟨q0, q1, q2⟩ := FM.cells hfw hx
        have hbx : (wr.alloc (.cells #[.int .i64 x.c, .int .i64 x.r, .string x.s] 33)).heap[wr.heap.size]? = some (.cells #[.int .i64 x.c, .int .i64 x.r, .string x.s] 33 (0, 0)) := heap_alloc_new _ _
        have HB : Hid (∀ w1, Below (wr.alloc (.cells #[.int .i64 x.c, .int .i64 x.r, .string x.s] 33)).heap.size (wr.alloc (.cells #[.int .i64 x.c, .int .i64 x.r, .string x.s] 33)) w1 → LW w n w1 ∧ w1.heap[wr.heap.size]? = some (.cells #[.int .i64 x.c, .int .i64 x.r, .string x.s] 33 (0, 0)) ∧ FM w1 (some ⟨gx, ox, none⟩) xs ∧ EnvP w1) := fun w1 hb => by
          have h1 := (HK.out.2.next ((Below.refl _ _).alloc (Nat.le_refl _) (.cells #[.int .i64 x.c, .int .i64 x.r, .string x.s] 33))).next hb
          exact ⟨h1, (hb.block _ (fm.lt_blk hbx)).trans hbx, HX.out.1.next h1.ahead (fun g o e => by injection e with e; injection e with e1; rw [← e1]; exact hgx), HX.out.2.below h1.ahead HX.out.2.size⟩
        clear hx hfw
        go_wp2_with fail
        refine (adr.check_any x.c x.r _).mono ?_
        rintro e w1 ⟨rfl, hb1⟩
        obtain ⟨g1, g2, g3, g4⟩ := HB.out w1 hb1
        have HW1 : Hid (LW w n w1 ∧ w1.heap[wr.heap.size]? = some (.cells #[.int .i64 x.c, .int .i64 x.r, .string x.s] 33 (0, 0)) ∧ FM w1 (some ⟨gx, ox, none⟩) xs ∧ EnvP w1) := ⟨g1, g2, g3, g4⟩
        obtain ⟨b0, b1, b2⟩ := cells3 g2
        clear g1 g2 g3 g4 hb1 hbx q0 q1 q2 HB
        cases hC : isC x.c x.r with
        | false =>
          rw [show ckc false = .iface 48 (.int .i64 1) from rfl]
          have HC : Hid (isC x.c x.r = false) := hC
          clear hC
          go_wp2_with fail
          refine bodyPost_ret (v := .tuple #[.slice none 0 0, .iface 48 (.int .i64 1)]) (by simp [results, Tryz.results21, go_sem]) rfl ⟨⟨_, _, rfl, .inr ⟨⟨_, _, rfl⟩, fun ho => ?_⟩⟩, HW1.out.1.ahead⟩
          have := (ho.2.2 x (List.mem_of_getElem? HXi.out)).1
          rw [HC.out] at this
          cases this
        | true =>
          rw [show ckc true = .nilIface from rfl]
          clear hC
          go_upto_region 10 with fail
          go_cut [43] (fun s43 wx => ∃ b : Bool, s43 = .bool b ∧ AH xs i x b ∧ Below w1.heap.size w1 wx)
          case first =>
            by_cases hz : i = 0
            · subst hz
              go_quiet (fail)
              go_wp2_with fail
              go_meet
              case rel => exact ⟨false, rfl, ⟨fun _ y h => absurd h (Nat.lt_irrefl _), fun h => absurd h (by simp)⟩, drewN_below _ _⟩
            · obtain ⟨k, rfl⟩ : ∃ k, i = k + 1 := ⟨i - 1, by omega⟩
              obtain ⟨y, hy⟩ : ∃ y, xs[k]? = some y := ⟨_, List.getElem?_eq_getElem (by rw [HN.out]; omega)⟩
              have HY : Hid (xs[k]? = some y) := hy
              obtain ⟨y0, y1, -⟩ := FM.cells HW1.out.2.2.1 hy
              have h0d : FG w1 gx (ox + k * 3) wr.heap.size y x w1.drew := ⟨y0, y1, b0, b1, (Below.refl _ _).drew⟩
              have SOF : Hid (∀ wx, Below w1.heap.size w1 wx → FG w1 gx (ox + k * 3) wr.heap.size y x wx) := fun wx hb => ⟨(hb.cell (p := ⟨gx, _, none⟩) (Nat.lt_of_lt_of_le hgx HW1.out.1.ahead.size)).trans y0, (hb.cell (p := ⟨gx, _, none⟩) (Nat.lt_of_lt_of_le hgx HW1.out.1.ahead.size)).trans y1, (hb.cell (p := ⟨wr.heap.size, _, none⟩) (fm.lt_blk HW1.out.2.1)).trans b0, (hb.cell (p := ⟨wr.heap.size, _, none⟩) (fm.lt_blk HW1.out.2.1)).trans b1, hb⟩
              have e1 : ((k + 1 : Nat) : Int) = (k : Int) + 1 := rfl
              have hk0 : (0 : Int) < (k : Int) + 1 := by omega
              have hk00 : (0 : Int) ≤ (k : Int) := by omega
              have hkN : (k : Int) < (n : Int) := by omega
              have hk200 : (k : Int) ≤ 200 := by omega
              have hw1' : IntKind.i64.wrap ((k : Int) + 1 - 1) = (k : Int) := by rw [Int.add_sub_cancel]; exact Go.IntWalk.i64_in _ (by omega)
              have hw2' : IntKind.i64.wrap (k : Int) = (k : Int) := Go.IntWalk.i64_in _ (by omega)
              have hw3' : (k : Int) + 1 - 1 = (k : Int) := by omega
              rw [e1]
              clear hy e1 b0 b1 b2 hiN hi0
              go_region_held3 (fun wx => FG w1 gx (ox + k * 3) wr.heap.size y x wx) (first | exact h0d | exact SOF.out _ (bnext (fgb (by assumption)) (by assumption) (fgb (by assumption)).size)) (first | (go_at_call 22; refine (less_any y.c y.r x.c x.r _).mono ?_; rintro e w2 ⟨rfl, hb2⟩; have hw2 := bnext (fgb (by assumption)) hb2 (fgb (by assumption)).size))
              all_goals
                go_wp2_with fail
                go_meet
                case rel =>
                  refine ⟨_, rfl, ⟨fun h z _ hz' => ?_, fun h => ⟨y, by omega, HY.out, ?_⟩⟩, hw2⟩
                  · rw [show k + 1 - 1 = k from rfl, HY.out] at hz'
                    injection hz' with hz'
                    subst hz'
                    simpa [lt] using h
                  · simpa [lt] using h
          case rest =>
          obtain ⟨b, rfl, hA, hbc⟩ := hcut
          have HWc : Hid (LW w n wc ∧ wc.heap[wr.heap.size]? = some (.cells #[.int .i64 x.c, .int .i64 x.r, .string x.s] 33 (0, 0)) ∧ EnvP wc) := ⟨HW1.out.1.next hbc, (hbc.block _ (fm.lt_blk HW1.out.2.1)).trans HW1.out.2.1, HX.out.2.below (HW1.out.1.next hbc).ahead HX.out.2.size⟩
          have HA : Hid (AH xs i x b) := hA
          clear hA hbc b0 b1 b2 HW1
          cases b with
          | true =>
            go_wp2_with fail
            refine bodyPost_ret (v := .tuple #[.slice none 0 0, .iface 48 (.int .i64 5)]) (by simp [results, Tryz.results21, go_sem]) rfl ⟨⟨_, _, rfl, .inr ⟨⟨_, _, rfl⟩, fun ho => ?_⟩⟩, HWc.out.1.ahead⟩
            obtain ⟨y, hy0, hy, hyl⟩ := HA.out.2 rfl
            have := srt_get ho.2.1 hy HXi.out (by omega)
            rw [hyl] at this
            cases this
          | false =>
            obtain ⟨b0, b1, b2⟩ := cells3 HWc.out.2.1
            have HF : Hid (Calls Tryz.prog 31 #[.string x.s] wc fun e w' => (∃ k n z r t kd m c v, e = .returned (.tuple #[fm.NV k n z r t (.slice kd m c), v]) ∧ FO x.s v) ∧ Below wc.heap.size wc w') := formulaOf_any x.s wc HWc.out.2.2 (by have h1 := HX.out.2.size; have h2 := fm.lt_blk HWc.out.2.1; have h3 := fm.lt_blk HK.out.2.2.choose_spec.1; omega)
            go_wp2_with fail
            refine HF.out.mono ?_
            rintro e w2 ⟨⟨k1, n1, s1, r1, t1, p1, m1, e1, v, rfl, hfo⟩, hb2⟩
            have hL2 := HWc.out.1.next hb2
            have HL2 : Hid (LW w n w2) := hL2
            have hlt : w.heap.size < w2.heap.size := fm.lt_blk hL2.2.choose_spec.1
            clear hb2 HF b0 b1 b2
            rcases hfo with ⟨rfl, hsz⟩ | ⟨⟨tt, xx, rfl⟩, hno⟩
            · have HZ : Hid (x.s.size ≠ 0) := hsz
              clear hsz
              obtain ⟨⟨a0, x0⟩, z0⟩ := hL2.at hin (j := 0) (by decide)
              obtain ⟨⟨a1, x1⟩, z1⟩ := hL2.at hin (j := 1) (by decide)
              obtain ⟨⟨a2, x2⟩, z2⟩ := hL2.at hin (j := 2) (by decide)
              obtain ⟨⟨a3, x3⟩, z3⟩ := hL2.at hin (j := 3) (by decide)
              obtain ⟨⟨a4, x4⟩, z4⟩ := hL2.at hin (j := 4) (by decide)
              obtain ⟨⟨a5, x5⟩, z5⟩ := hL2.at hin (j := 5) (by decide)
              obtain ⟨⟨a6, x6⟩, z6⟩ := hL2.at hin (j := 6) (by decide)
              obtain ⟨⟨a7, x7⟩, z7⟩ := hL2.at hin (j := 7) (by decide)
              obtain ⟨⟨a8, x8⟩, z8⟩ := hL2.at hin (j := 8) (by decide)
              obtain ⟨⟨a9, x9⟩, z9⟩ := hL2.at hin (j := 9) (by decide)
              obtain ⟨⟨a10, x10⟩, z10⟩ := hL2.at hin (j := 10) (by decide)
              obtain ⟨⟨a11, x11⟩, z11⟩ := hL2.at hin (j := 11) (by decide)
              rw [Nat.add_zero] at x0 z0
              clear hL2
              go_wp2_with fail
              refine ⟨⟨i + 1, rfl, hin, ⟨srt_take HK.out.1.1 HXi.out (HA.out.1 rfl), fun j y hj hy => ?_⟩, LW.next ((((((((((((HL2.out.set _ _).set _ _).set _ _).set _ _).set _ _).set _ _).set _ _).set _ _).set _ _).set _ _).set _ _).set _ _) ((Below.refl _ _).alloc (Nat.le_refl _) _)⟩, by simp [intOf]; omega⟩
              by_cases e : j = i
              · subst e
                rw [HXi.out] at hy
                injection hy with hy
                subst hy
                exact HZ.out
              · exact HK.out.1.2 j y (by omega) hy
            · have HZ : Hid (¬ (x.s.size ≠ 0 ∧ x.s.size ≤ 200 ∧ eqS x.s = false)) := hno
              clear hno hL2
              go_wp2_with fail
              refine bodyPost_ret (v := .tuple #[.slice none 0 0, .iface tt xx]) (by simp [results, Tryz.results21, go_sem]) rfl ⟨⟨_, _, rfl, .inr ⟨⟨_, _, rfl⟩, fun ho => HZ.out (ho.2.2 x (List.mem_of_getElem? HXi.out)).2⟩⟩, ?_⟩
              exact HL2.out.ahead.alloc HL2.out.ahead.size _
      · have hin' : ¬ (i : Int) < (n : Int) := by omega
        go_wp2_with fail
        have e : i = n := by omega
        subst e
        refine bodyPost_ret (v := .tuple #[.slice (some ⟨w.heap.size, 0, none⟩) i i, .nilIface]) (by simp [results, Tryz.results21, go_sem]) rfl ⟨⟨_, _, rfl, .inl ⟨rfl, by rw [HN.out]; exact h2, ?_, fun x hx => ?_⟩⟩, HK.out.2.ahead⟩
        · have := HK.out.1.1
          rw [List.take_of_length_le (by rw [HN.out]; exact Nat.le_refl _)] at this
          exact this
        · obtain ⟨j, hj⟩ := List.getElem?_of_mem hx
          exact HK.out.1.2 j x (by have := (List.getElem?_eq_some_iff.1 hj).1; rw [HN.out] at this; exact this) hj
  · have hl : (200 : Int) < (n : Int) := by omega
    go_wp2_with fail
    exact bodyPost_ret (v := .tuple #[.slice none 0 0, .iface 48 (.int .i64 4)]) (by simp [results, Tryz.results21, go_sem]) rfl ⟨⟨_, _, rfl, .inr ⟨⟨_, _, rfl⟩, fun ho => by have := ho.1; have := HN.out; omega⟩⟩, Below.refl _ _⟩
end Go.Proofs.YtpgjmbbdhilhkaaGreatDoor.ps

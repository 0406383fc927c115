
/- Package graph: the cells of a sheet are looked at, one by one; what is told of it, exactly. Conditions: as each theorem says. -/
import Derived.Test.YtomgjjngkffbbaaGreatDoorYa
namespace Go.Proofs.YtomgjjngkffbbaaGreatDoor.ps
open Go.RowKit
open adr (C isC ckc)
/-- Does a cell not stand behind the one ahead of it? -/
def ordB (xs : List Fl) (i : Nat) (x : Fl) : Bool := match i with
  | 0 => false
  | k + 1 => match xs[k]? with
    | some y => !lt y x.c x.r
    | none => false
/-- The fault of a cell of a sheet. -/
def cd (xs : List Fl) (i : Nat) : Int := match xs[i]? with
  | none => 0
  | some x => if isC x.c x.r = false then 1 else if ordB xs i x = true then 5 else ckT x.s
theorem cd_range {xs : List Fl} {i : Nat} {x : Fl} (h : xs[i]? = some x) (h1 : isC x.c x.r = false) : cd xs i = 1 := by unfold cd; rw [h]; exact if_pos h1
theorem cd_order {xs : List Fl} {i : Nat} {x : Fl} (h : xs[i]? = some x) (h1 : isC x.c x.r = true) (h2 : ordB xs i x = true) : cd xs i = 5 := by unfold cd; rw [h]; show (if _ then _ else _) = _; rw [if_neg (by simp [h1]), if_pos h2]
theorem cd_text {xs : List Fl} {i : Nat} {x : Fl} (h : xs[i]? = some x) (h1 : isC x.c x.r = true) (h2 : ordB xs i x = false) : cd xs i = ckT x.s := by unfold cd; rw [h]; show (if _ then _ else _) = _; rw [if_neg (by simp [h1]), if_neg (by simp [h2])]
theorem cd_zero {xs : List Fl} {i : Nat} {x : Fl} (h : xs[i]? = some x) (h0 : cd xs i = 0) : isC x.c x.r = true ∧ ordB xs i x = false ∧ ckT x.s = 0 := by
  cases h1 : isC x.c x.r with
  | false => rw [cd_range h h1] at h0; cases h0
  | true =>
    cases h2 : ordB xs i x with
    | true => rw [cd_order h h1 h2] at h0; cases h0
    | false => rw [cd_text h h1 h2] at h0; exact ⟨rfl, rfl, h0⟩
/-- What is told of a sheet. -/
def Told (xs : List Fl) (e : Int) : Prop := (200 < xs.length ∧ e = 4) ∨ (xs.length ≤ 200 ∧ ((e = 0 ∧ ∀ i, i < xs.length → cd xs i = 0) ∨ (e ≠ 0 ∧ ∃ i, i < xs.length ∧ cd xs i = e ∧ ∀ j, j < i → cd xs j = 0)))
theorem Told.one {xs : List Fl} {e e' : Int} (h : Told xs e) (h' : Told xs e') : e = e' := by
  rcases h with ⟨h1, h2⟩ | ⟨h1, h2⟩
  · rcases h' with ⟨g1, g2⟩ | ⟨g1, g2⟩
    · omega
    · omega
  · rcases h' with ⟨g1, g2⟩ | ⟨g1, g2⟩
    · omega
    · rcases h2 with ⟨rfl, h3⟩ | ⟨h3, i, h4, h5, h6⟩
      · rcases g2 with ⟨g, -⟩ | ⟨g3, i, g4, g5, g6⟩
        · exact g.symm
        · exact absurd (g5.symm.trans (h3 i g4)) g3
      · rcases g2 with ⟨rfl, g3⟩ | ⟨g3, k, g4, g5, g6⟩
        · exact absurd (h5.symm.trans (g3 i h4)) h3
        · rcases Nat.lt_trichotomy i k with hk | hk | hk
          · exact absurd (h5.symm.trans (g6 i hk)) h3
          · subst hk; exact h5.symm.trans g5
          · exact absurd (g5.symm.trans (h6 k hk)) g3
/-- A sheet without a fault. -/
structure Fine (xs : List Fl) : Prop where
  len : xs.length ≤ 200
  srt : Srt xs
  cell : ∀ x ∈ xs, isC x.c x.r = true ∧ x.s.size ≠ 0 ∧ x.s.size ≤ 200
theorem Told.fine {xs : List Fl} (h : Told xs 0) : Fine xs := by
  rcases h with ⟨_, h2⟩ | ⟨h1, h2⟩
  · cases h2
  · rcases h2 with ⟨-, h3⟩ | ⟨h3, -⟩
    · have key : ∀ i, i ≤ xs.length → Srt (xs.take i) := by
        intro i
        induction i with
        | zero => intro _; simp [Srt]
        | succ i ih =>
          intro hi
          obtain ⟨x, hx⟩ : ∃ x, xs[i]? = some x := ⟨_, List.getElem?_eq_getElem (by omega)⟩
          refine srt_take (ih (by omega)) hx (fun y hy hy' => ?_)
          have := (cd_zero hx (h3 i (by omega))).2.1
          obtain ⟨k, rfl⟩ : ∃ k, i = k + 1 := ⟨i - 1, by omega⟩
          unfold ordB at this
          rw [show k + 1 - 1 = k from rfl] at hy'
          simp only [hy'] at this
          simpa using this
      refine ⟨h1, by have := key xs.length (Nat.le_refl _); rwa [List.take_length] at this, fun x hx => ?_⟩
      obtain ⟨i, hi⟩ := List.getElem?_of_mem hx
      have := cd_zero hi (h3 i (List.getElem?_eq_some_iff.1 hi).1)
      exact ⟨this.1, ckT_zero this.2.2⟩
    · exact absurd rfl h3
/-- So far nothing was found. -/
def FK (xs : List Fl) (i : Nat) : Prop := ∀ j, j < i → cd xs j = 0
theorem FK.snoc {xs : List Fl} {i : Nat} (h : FK xs i) (h1 : cd xs i = 0) : FK xs (i + 1) := fun j hj => by
  by_cases e : j = i
  · subst e; exact h1
  · exact h j (by omega)
theorem FK.found {xs : List Fl} {i : Nat} {x : Fl} (h : FK xs i) (hl : xs.length ≤ 200) (hx : xs[i]? = some x) {e : Int} (h1 : cd xs i = e) (h2 : e ≠ 0) : Told xs e :=
  .inr ⟨hl, .inr ⟨h2, i, (List.getElem?_eq_some_iff.1 hx).1, h1, h⟩⟩
theorem FK.none {xs : List Fl} (h : FK xs xs.length) (hl : xs.length ≤ 200) : Told xs 0 := .inr ⟨hl, .inl ⟨rfl, h⟩⟩
abbrev FG (w1 : World) (gx oy bb : Nat) (y x : Fl) (wx : World) : Prop := wx.cell? ⟨gx, oy, none⟩ = some (.int .i64 y.c) ∧ wx.cell? ⟨gx, oy + 1, none⟩ = some (.int .i64 y.r) ∧ wx.cell? ⟨bb, 0, none⟩ = some (.int .i64 x.c) ∧ wx.cell? ⟨bb, 1, none⟩ = some (.int .i64 x.r) ∧ Below w1.heap.size w1 wx
theorem fgb {w1 : World} {gx oy bb : Nat} {y x : Fl} {wx : World} (h : FG w1 gx oy bb y x wx) : Below w1.heap.size w1 wx := h.2.2.2.2
set_option maxRecDepth 100000 in
set_option maxHeartbeats 8000000 in
theorem formulas_any (p : Option Addr) (c : Nat) (xs : List Fl) (w : World) (hx : FM w p xs) (hE : EnvP w) :
    Calls Tryz.prog 44 #[.slice p xs.length c] w fun e w' => (∃ vl t, e = .returned (.tuple #[vl, errV t]) ∧ Told xs t) ∧ Below w.heap.size w w' := by
  obtain ⟨n, hn⟩ : ∃ n, xs.length = n := ⟨_, rfl⟩
  have HN : Hid (xs.length = n) := hn
  rw [hn]
  have HX : Hid (FM w p xs ∧ EnvP w) := ⟨hx, hE⟩
  clear hx hE hn
  go_enter Tryz.func44, Tryz.ntmps44
  by_cases h2 : n ≤ 200
  · have hl : ¬ (200 : Int) < (n : Int) := by omega
    have hl2 : (n : Int) ≤ 200 := by omega
    have hmk : ∀ W : World, (Instr.makeSlice 75 (.int .i64 (n : Int)) (.int .i64 (n : Int))).run Tryz.prog W = .ok (.slice (some ⟨W.heap.size, 0, none⟩) n n) (W.alloc (.cells (zr12 n) 77)) := fun W => make65 n (by omega) W
    go_wp2_with fail
    have HL0 : Hid (LW w n (w.alloc (.cells (zr12 n) 77))) := LW.make w n
    generalize w.alloc (.cells (zr12 n) 77) = W0 at *
    clear hmk
    go_loopw [19] (fun a wr => ∃ i : Nat, a = .int .i64 i ∧ i ≤ n ∧ FK xs i ∧ LW w n wr) (fun a _ => n - (intOf a).toNat)
    case atStart => exact ⟨0, rfl, Nat.zero_le _, fun j hj => absurd hj (Nat.not_lt_zero _), HL0.out⟩
    case round =>
      obtain ⟨i, rfl, hi, hF, hL⟩ := hrel
      have HK : Hid (FK xs i ∧ LW w n wr) := ⟨hF, hL⟩
      clear hF hL HL0
      by_cases hin : i < n
      · have hiN : (i : Int) < (n : Int) := by omega
        have hi0 : (0 : Int) ≤ (i : Int) := by omega
        obtain ⟨x, hx⟩ : ∃ x, xs[i]? = some x := ⟨_, List.getElem?_eq_getElem (by rw [HN.out]; exact hin)⟩
        have HXi : Hid (xs[i]? = some x) := hx
        obtain ⟨gx, ox, rfl, hgx⟩ := HX.out.1.at hx
        have hfw := HX.out.1.next HK.out.2.ahead (fun g o e => by injection e with e; injection e with e1; rw [← e1]; exact hgx)
        obtain ⟨q0, q1, q2⟩ := FM.cells hfw hx
        have hbx : (wr.alloc (.cells #[.int .i64 x.c, .int .i64 x.r, .string x.s] 45)).heap[wr.heap.size]? = some (.cells #[.int .i64 x.c, .int .i64 x.r, .string x.s] 45 (0, 0)) := heap_alloc_new _ _
        have HB : Hid (∀ w1, Below (wr.alloc (.cells #[.int .i64 x.c, .int .i64 x.r, .string x.s] 45)).heap.size (wr.alloc (.cells #[.int .i64 x.c, .int .i64 x.r, .string x.s] 45)) w1 → LW w n w1 ∧ w1.heap[wr.heap.size]? = some (.cells #[.int .i64 x.c, .int .i64 x.r, .string x.s] 45 (0, 0)) ∧ FM w1 (some ⟨gx, ox, none⟩) xs ∧ EnvP w1) := fun w1 hb => by
          have h1 := (HK.out.2.next ((Below.refl _ _).alloc (Nat.le_refl _) (.cells #[.int .i64 x.c, .int .i64 x.r, .string x.s] 45))).next hb
          exact ⟨h1, (hb.block _ (fm.lt_blk hbx)).trans hbx, HX.out.1.next h1.ahead (fun g o e => by injection e with e; injection e with e1; rw [← e1]; exact hgx), HX.out.2.below h1.ahead HX.out.2.size⟩
        clear hx hfw
        go_wp2_with fail
        refine (adr.check_any x.c x.r _).mono ?_
        rintro e w1 ⟨rfl, hb1⟩
        obtain ⟨g1, g2, g3, g4⟩ := HB.out w1 hb1
        have HW1 : Hid (LW w n w1 ∧ w1.heap[wr.heap.size]? = some (.cells #[.int .i64 x.c, .int .i64 x.r, .string x.s] 45 (0, 0)) ∧ FM w1 (some ⟨gx, ox, none⟩) xs ∧ EnvP w1) := ⟨g1, g2, g3, g4⟩
        obtain ⟨b0, b1, b2⟩ := cells3 g2
        clear g1 g2 g3 g4 hb1 hbx q0 q1 q2 HB
        cases hC : isC x.c x.r with
        | false =>
          rw [show ckc false = .iface 67 (.int .i64 1) from rfl]
          have HC : Hid (isC x.c x.r = false) := hC
          clear hC
          go_wp2_with fail
          exact bodyPost_ret (v := .tuple #[.slice none 0 0, .iface 67 (.int .i64 1)]) (by simp [results, Tryz.results44, go_sem]) rfl ⟨⟨_, 1, rfl, HK.out.1.found (by rw [HN.out]; exact h2) HXi.out (cd_range HXi.out HC.out) (by decide)⟩, HW1.out.1.ahead⟩
        | true =>
          rw [show ckc true = .nilIface from rfl]
          have HC : Hid (isC x.c x.r = true) := hC
          clear hC
          go_upto_region 10 with fail
          go_cut [43] (fun s43 wx => ∃ b : Bool, s43 = .bool b ∧ b = ordB xs i x ∧ Below w1.heap.size w1 wx)
          case first =>
            by_cases hz : i = 0
            · subst hz
              go_quiet (fail)
              go_wp2_with fail
              go_meet
              case rel => exact ⟨false, rfl, rfl, drewN_below _ _⟩
            · obtain ⟨k, rfl⟩ : ∃ k, i = k + 1 := ⟨i - 1, by omega⟩
              obtain ⟨y, hy⟩ : ∃ y, xs[k]? = some y := ⟨_, List.getElem?_eq_getElem (by rw [HN.out]; omega)⟩
              have HY : Hid (xs[k]? = some y) := hy
              obtain ⟨y0, y1, -⟩ := FM.cells HW1.out.2.2.1 hy
              have h0d : FG w1 gx (ox + k * 3) wr.heap.size y x w1.drew := ⟨y0, y1, b0, b1, (Below.refl _ _).drew⟩
              have SOF : Hid (∀ wx, Below w1.heap.size w1 wx → FG w1 gx (ox + k * 3) wr.heap.size y x wx) := fun wx hb => ⟨(hb.cell (p := ⟨gx, _, none⟩) (Nat.lt_of_lt_of_le hgx HW1.out.1.ahead.size)).trans y0, (hb.cell (p := ⟨gx, _, none⟩) (Nat.lt_of_lt_of_le hgx HW1.out.1.ahead.size)).trans y1, (hb.cell (p := ⟨wr.heap.size, _, none⟩) (fm.lt_blk HW1.out.2.1)).trans b0, (hb.cell (p := ⟨wr.heap.size, _, none⟩) (fm.lt_blk HW1.out.2.1)).trans b1, hb⟩
              have e1 : ((k + 1 : Nat) : Int) = (k : Int) + 1 := rfl
              have hk0 : (0 : Int) < (k : Int) + 1 := by omega
              have hk00 : (0 : Int) ≤ (k : Int) := by omega
              have hkN : (k : Int) < (n : Int) := by omega
              have hk200 : (k : Int) ≤ 200 := by omega
              have hw1' : IntKind.i64.wrap ((k : Int) + 1 - 1) = (k : Int) := by rw [Int.add_sub_cancel]; exact Go.IntWalk.i64_in _ (by omega)
              have hw2' : IntKind.i64.wrap (k : Int) = (k : Int) := Go.IntWalk.i64_in _ (by omega)
              have hw3' : (k : Int) + 1 - 1 = (k : Int) := by omega
              rw [e1]
              clear hy e1 b0 b1 b2 hiN hi0
              go_region_held3 (fun wx => FG w1 gx (ox + k * 3) wr.heap.size y x wx) (first | exact h0d | exact SOF.out _ (bnext (fgb (by assumption)) (by assumption) (fgb (by assumption)).size)) (first | (go_at_call 46; refine (less_any y.c y.r x.c x.r _).mono ?_; rintro e w2 ⟨rfl, hb2⟩; have hw2 := bnext (fgb (by assumption)) hb2 (fgb (by assumption)).size))
              all_goals
                go_wp2_with fail
                go_meet
                case rel =>
                  refine ⟨_, rfl, ?_, hw2⟩
                  unfold ordB
                  simp only [HY.out]
                  first | rfl | (simp [lt]; done)
          case rest =>
          obtain ⟨b, rfl, hA, hbc⟩ := hcut
          have HWc : Hid (LW w n wc ∧ wc.heap[wr.heap.size]? = some (.cells #[.int .i64 x.c, .int .i64 x.r, .string x.s] 45 (0, 0)) ∧ EnvP wc) := ⟨HW1.out.1.next hbc, (hbc.block _ (fm.lt_blk HW1.out.2.1)).trans HW1.out.2.1, HX.out.2.below (HW1.out.1.next hbc).ahead HX.out.2.size⟩
          have HA : Hid (b = ordB xs i x) := hA
          clear hA hbc b0 b1 b2 HW1
          cases b with
          | true =>
            go_wp2_with fail
            exact bodyPost_ret (v := .tuple #[.slice none 0 0, .iface 67 (.int .i64 5)]) (by simp [results, Tryz.results44, go_sem]) rfl ⟨⟨_, 5, rfl, HK.out.1.found (by rw [HN.out]; exact h2) HXi.out (cd_order HXi.out HC.out HA.out.symm) (by decide)⟩, HWc.out.1.ahead⟩
          | false =>
            obtain ⟨b0, b1, b2⟩ := cells3 HWc.out.2.1
            have HF : Hid (Calls Tryz.prog 62 #[.string x.s] wc fun e w' => (∃ k n z r t kd m c v, e = .returned (.tuple #[fm.NV k n z r t (.slice kd m c), v]) ∧ v = errV (ckT x.s)) ∧ Below wc.heap.size wc w') := formulaOf_any x.s wc HWc.out.2.2 (by have h1 := HX.out.2.size; have h2 := fm.lt_blk HWc.out.2.1; have h3 := fm.lt_blk HK.out.2.2.choose_spec.1; omega)
            go_wp2_with fail
            refine HF.out.mono ?_
            rintro e w2 ⟨⟨k1, n1, s1, r1, t1, p1, m1, e1, v, rfl, hfo⟩, hb2⟩
            have hL2 := HWc.out.1.next hb2
            have HL2 : Hid (LW w n w2) := hL2
            have hlt : w.heap.size < w2.heap.size := fm.lt_blk hL2.2.choose_spec.1
            clear hb2 HF b0 b1 b2
            have HT : Hid (cd xs i = ckT x.s) := cd_text HXi.out HC.out HA.out.symm
            by_cases hk0 : ckT x.s = 0
            · have HZ : Hid (ckT x.s = 0) := hk0
              have ev : v = .nilIface := by rw [hfo, hk0]; rfl
              subst ev
              clear hfo hk0
              obtain ⟨⟨a0, x0⟩, z0⟩ := hL2.at hin (j := 0) (by decide)
              obtain ⟨⟨a1, x1⟩, z1⟩ := hL2.at hin (j := 1) (by decide)
              obtain ⟨⟨a2, x2⟩, z2⟩ := hL2.at hin (j := 2) (by decide)
              obtain ⟨⟨a3, x3⟩, z3⟩ := hL2.at hin (j := 3) (by decide)
              obtain ⟨⟨a4, x4⟩, z4⟩ := hL2.at hin (j := 4) (by decide)
              obtain ⟨⟨a5, x5⟩, z5⟩ := hL2.at hin (j := 5) (by decide)
              obtain ⟨⟨a6, x6⟩, z6⟩ := hL2.at hin (j := 6) (by decide)
              obtain ⟨⟨a7, x7⟩, z7⟩ := hL2.at hin (j := 7) (by decide)
              obtain ⟨⟨a8, x8⟩, z8⟩ := hL2.at hin (j := 8) (by decide)
              obtain ⟨⟨a9, x9⟩, z9⟩ := hL2.at hin (j := 9) (by decide)
              obtain ⟨⟨a10, x10⟩, z10⟩ := hL2.at hin (j := 10) (by decide)
              obtain ⟨⟨a11, x11⟩, z11⟩ := hL2.at hin (j := 11) (by decide)
              rw [Nat.add_zero] at x0 z0
              clear hL2
              go_wp2_with fail
              exact ⟨⟨i + 1, rfl, hin, HK.out.1.snoc (HT.out.trans HZ.out), LW.next ((((((((((((HL2.out.set _ _).set _ _).set _ _).set _ _).set _ _).set _ _).set _ _).set _ _).set _ _).set _ _).set _ _).set _ _) ((Below.refl _ _).alloc (Nat.le_refl _) _)⟩, by simp [intOf]; omega⟩
            · have HZ : Hid (ckT x.s ≠ 0) := hk0
              obtain ⟨q, hq⟩ : ∃ q, ckT x.s = q := ⟨_, rfl⟩
              have HQ : Hid (ckT x.s = q) := hq
              have ev : v = .iface 67 (.int .i64 q) := by rw [hfo, errV_some hk0, hq]
              subst ev
              clear hfo hk0 hL2 hq
              go_wp2_with fail
              refine bodyPost_ret (v := .tuple #[.slice none 0 0, .iface 67 (.int .i64 q)]) (by simp [results, Tryz.results44, go_sem]) rfl ⟨⟨_, q, by rw [errV_some (by rw [← HQ.out]; exact HZ.out)], HK.out.1.found (by rw [HN.out]; exact h2) HXi.out (HT.out.trans HQ.out) (by rw [← HQ.out]; exact HZ.out)⟩, ?_⟩
              exact HL2.out.ahead.alloc HL2.out.ahead.size _
      · have hin' : ¬ (i : Int) < (n : Int) := by omega
        go_wp2_with fail
        have e : i = n := by omega
        subst e
        exact bodyPost_ret (v := .tuple #[.slice (some ⟨w.heap.size, 0, none⟩) i i, .nilIface]) (by simp [results, Tryz.results44, go_sem]) rfl ⟨⟨_, 0, rfl, FK.none (by rw [HN.out]; exact HK.out.1) (by rw [HN.out]; exact h2)⟩, HK.out.2.ahead⟩
  · have hl : (200 : Int) < (n : Int) := by omega
    go_wp2_with fail
    exact bodyPost_ret (v := .tuple #[.slice none 0 0, .iface 67 (.int .i64 4)]) (by simp [results, Tryz.results44, go_sem]) rfl ⟨⟨_, 4, rfl, .inl ⟨by rw [HN.out]; omega, rfl⟩⟩, Below.refl _ _⟩
set_option maxHeartbeats 1600000 in
theorem gcheck_any (p : Option Addr) (c : Nat) (xs : List Fl) (w : World) (hx : FM w p xs) (hE : EnvP w) :
    Calls Tryz.prog 31 #[.slice p xs.length c] w fun e w' => (∃ t, e = .returned (errV t) ∧ Told xs t) ∧ Below w.heap.size w w' := by
  have H : Hid (Calls Tryz.prog 44 #[.slice p xs.length c] w fun e w' => (∃ vl t, e = .returned (.tuple #[vl, errV t]) ∧ Told xs t) ∧ Below w.heap.size w w') := formulas_any p c xs w hx hE
  clear hx hE
  go_enter Tryz.func31, Tryz.ntmps31
  go_wp2_with fail
  refine H.out.mono ?_
  rintro e w1 ⟨⟨vl, v, rfl, hv⟩, hb⟩
  go_wp2_with fail
  go_ret
  exact ⟨⟨v, rfl, hv⟩, hb⟩
end Go.Proofs.YtomgjjngkffbbaaGreatDoor.ps

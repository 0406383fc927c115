
/- The law BookOpens. Conditions: what the package variables hold. -/
import Derived.Test.YtokfijkhflfioaaGreatDoorJr
import Derived.Test.YtokfijkhflfioaaGreatDoorZd
import Derived.Test.YtokfijkhflfioaaGreatDoorJm
import Derived.Test.YtokfijkhflfioaaGreatDoorJk
/- The document: a sheet in which one cell has another text. Conditions: as each theorem says. -/
namespace Go.Proofs.YtokfijkhflfioaaGreatDoor.ps
open Go.RowKit
open adr (C isC ckc)
/-- What the reference makes of a row of cells: whether the text was put already is handed on. -/
def wR (f : Fl) : Bool → List Fl → List Fl
  | b, [] => if b = true then [] else [f]
  | b, x :: l => (if b = false ∧ lt x f.c f.r = false then [f] else []) ++ ((if at' x f.c f.r = true then [] else [x]) ++ wR f (b || !lt x f.c f.r) l)
theorem wR_rest {f : Fl} {l : List Fl} (h : ∀ y ∈ l, at' y f.c f.r = false) : wR f true l = l := by
  induction l with
  | nil => rfl
  | cons x l ih =>
    have h2 := h x (by simp)
    rw [wR, h2, Bool.true_or, ih (fun y hy => h y (by simp [hy]))]
    simp
theorem wR_wt (f : Fl) (l : List Fl) (h : Srt l) : wR f (decide (f.s.size = 0)) l = wt l f := by
  induction l with
  | nil =>
    rw [wR, wt, put]
    by_cases h0 : f.s.size = 0 <;> simp [h0]
  | cons x l ih =>
    obtain ⟨h1, h2⟩ := List.pairwise_cons.1 h
    have ih := ih h2
    rw [wR, wt]
    cases hl : lt x f.c f.r with
    | true =>
      have ha : at' x f.c f.r = false := by
        rw [at_no]
        have := lt_iff.1 hl
        omega
      simp only [ha, Bool.not_true, Bool.or_false, ih]
      simp
    | false =>
      have hr : ∀ y ∈ l, at' y f.c f.r = false := fun y hy => by
        have a := lt_iff.1 (h1 y hy)
        have b : ¬ lt x f.c f.r = true := by simp [hl]
        rw [lt_iff] at b
        rw [at_no]
        omega
      rw [Bool.not_false, Bool.or_true, wR_rest hr, put]
      by_cases h0 : f.s.size = 0
      · cases ha : at' x f.c f.r <;> simp [h0]
      · cases ha : at' x f.c f.r <;> simp [h0]
theorem neq34 (a b c d : Int) (W : World) : (binOp BinOp.neq 23 (.agg #[.int .i64 a, .int .i64 b]) (.agg #[.int .i64 c, .int .i64 d])).run Tryz.prog W = .ok (.bool (!(decide (a = c) && decide (b = d)))) W := by
  rw [run_neq_struct, show (10000 : Nat) = 9998 + 2 from rfl, eqIn30]; rfl
theorem own_next {wx wy : World} {B : Nat} {v : Value} {n : Nat} {xs : List Value} (h : wx.ownsRow B 25 3 v n xs) (hb : Below wx.heap.size wx wy) : wy.ownsRow B 25 3 v n xs := by
  obtain ⟨h0, h | ⟨g, cap, cur, h1, h2, h3, h4⟩⟩ := h
  · exact ⟨h0, Or.inl h⟩
  · exact ⟨h0, Or.inr ⟨g, cap, cur, h1, h2, by rw [hb.block g (Array.getElem?_eq_some_iff.1 h3).1]; exact h3, h4⟩⟩
/-- What is at hand in a round: the new list, the box of the cell. -/
structure RW (w : World) (bc : Nat) (f : Fl) (v : Value) (ys : List Fl) (wx : World) : Prop where
  own : wx.ownsRow w.heap.size 25 3 v ys.length (flF ys)
  box : wx.heap[bc]? = some (.cells #[.int .i64 f.c, .int .i64 f.r] 23 (0, 0))
  below : Below w.heap.size w wx
theorem RW.next {w : World} {bc : Nat} {f : Fl} {v : Value} {ys : List Fl} {wx wy : World} (h : RW w bc f v ys wx) (hb : Below wx.heap.size wx wy) : RW w bc f v ys wy :=
  ⟨own_next h.own hb, (hb.block _ (fm.lt_blk h.box)).trans h.box, bnext h.below hb h.below.size⟩
theorem RW.one {w : World} {bc : Nat} {f : Fl} {v : Value} {ys : List Fl} {wx : World} (h : RW w bc f v ys wx) (hy : ys.length ≤ 100000) (y : Fl) :
    ∃ p n c w', (Builtin.append_ #[26, 26] 26 #[v, .slice (some ⟨wx.heap.size, 0, none⟩) 1 1]).run Tryz.prog (wx.alloc (.cells #[.int .i64 y.c, .int .i64 y.r, .string y.s] 25)) = .ok (.slice p n c) w' ∧ RW w bc f (.slice p n c) (ys ++ [y]) w' := by
  have h1 := h.next ((Below.refl _ _).alloc (Nat.le_refl _) (.cells #[.int .i64 y.c, .int .i64 y.r, .string y.s] 25))
  obtain ⟨v', w', r1, r2, r3, r4, r5, r6⟩ := app_any (wx.alloc (.cells #[.int .i64 y.c, .int .i64 y.r, .string y.s] 25)) w.heap.size h1.below.size v ys.length (flF ys) h1.own (some ⟨wx.heap.size, 0, none⟩) [y] 1 (fm_new wx y) (by simp; omega)
  have ho : w'.ownsRow w.heap.size 25 3 v' (ys ++ [y]).length (flF (ys ++ [y])) := by rw [flF_app, List.length_append]; exact r2
  have hne : v.ownBlock ≠ some bc := fun e => by
    rcases h1.own.2 with ⟨rfl, -⟩ | ⟨g, cap, cur, rfl, -, hg, -⟩
    · cases e
    · have e' : g = bc := by simpa [Value.ownBlock] using e
      rw [e', h1.box] at hg
      injection hg with hg
      injection hg with _ q
      exact absurd q (by decide)
  obtain ⟨p, c, rfl, -⟩ := FB.shape (own_base ho (Nat.zero_le _))
  exact ⟨p, _, c, w', r1, ho, (r4 bc (fm.lt_blk h1.box) hne).trans h1.box, h1.below.trans r3⟩
abbrev RO (w : World) (bc : Nat) (f : Fl) (v : Value) (ys : List Fl) (gx o : Nat) (x : Fl) (wx : World) : Prop :=
  wx.cell? ⟨gx, o, none⟩ = some (.int .i64 x.c) ∧ wx.cell? ⟨gx, o + 1, none⟩ = some (.int .i64 x.r) ∧ wx.cell? ⟨gx, o + 2, none⟩ = some (.string x.s) ∧ wx.cell? ⟨bc, 0, none⟩ = some (.int .i64 f.c) ∧ wx.cell? ⟨bc, 1, none⟩ = some (.int .i64 f.r) ∧ RW w bc f v ys wx
theorem ro_rw {w : World} {bc : Nat} {f : Fl} {v : Value} {ys : List Fl} {gx o : Nat} {x : Fl} {wx : World} (h : RO w bc f v ys gx o x wx) : RW w bc f v ys wx := h.2.2.2.2.2
theorem RW.opened {w : World} {bc : Nat} {f : Fl} {v : Value} {ys xs : List Fl} {gx ox i : Nat} {x : Fl} {wx : World} (h : RW w bc f v ys wx) (hx : FM w (some ⟨gx, ox, none⟩) xs) (hi : xs[i]? = some x) : RO w bc f v ys gx (ox + i * 3) x wx := by
  obtain ⟨q0, q1, q2⟩ := FM.cells (hx.below h.below) hi
  obtain ⟨b0, b1⟩ := cells2 h.box
  exact ⟨q0, q1, q2, b0, b1, h⟩
set_option maxRecDepth 100000 in
set_option maxHeartbeats 8000000 in
theorem rwith_any (p : Option Addr) (c : Nat) (xs : List Fl) (f : Fl) (w : World) (hx : FM w p xs) (hl : xs.length ≤ 3000) (hs : Srt xs) :
    Calls Tryz.prog 25 #[.slice p xs.length c, C f.c f.r, .string f.s] w fun e w' => (∃ v, e = .returned v ∧ FB w' v (wt xs f)) ∧ Below w.heap.size w w' := by
  have HA : Hid (∀ a b c d wx, Calls Tryz.prog 23 #[C a b, C c d] wx fun e w' => e = .returned (.bool (decide (cmpC a b c d < 0))) ∧ Below wx.heap.size wx w') := rahead_any
  obtain ⟨n, hn⟩ : ∃ n, xs.length = n := ⟨_, rfl⟩
  have HN : Hid (xs.length = n) := hn
  have HX : Hid (FM w p xs) := hx
  have hn3 : (n : Int) ≤ 3000 := by omega
  have hn3' : n ≤ 3000 := by omega
  obtain ⟨bc, hbc⟩ : ∃ bc, w.heap.size = bc := ⟨_, rfl⟩
  have HR0 : Hid (RW w bc f (.slice none 0 0) [] (w.alloc (.cells #[.int .i64 f.c, .int .i64 f.r] 23))) := ⟨⟨rfl, .inl ⟨rfl, rfl⟩⟩, by rw [← hbc]; exact heap_alloc_new _ _, (Below.refl _ _).alloc (Nat.le_refl _) _⟩
  have HW : Hid (wR f f.s.toList.isEmpty xs = wt xs f) := by
    have := wR_wt f xs hs
    cases h0 : f.s.toList.isEmpty with
    | true => rw [← this, decide_eq_true (emp_yes h0)]; rfl
    | false => rw [← this, decide_eq_false (emp_no h0)]; rfl
  rw [hn]
  clear hx hl hs hn
  obtain ⟨b0, hb0⟩ : ∃ b0, f.s.toList.isEmpty = b0 := ⟨_, rfl⟩
  rw [hb0] at HW
  go_enter Tryz.func25, Tryz.ntmps25
  go_wp2_with fail
  clear hb0 hbc
  generalize w.alloc (.cells #[.int .i64 f.c, .int .i64 f.r] 23) = W0 at *
  go_loopw [7, 8, 9] (fun s7 s8 s9 wr => ∃ (i mv cv : Nat) (b : Bool) (pv : Option Addr) (ys : List Fl), s9 = .int .i64 i ∧ s8 = .bool b ∧ s7 = .slice pv mv cv ∧ i ≤ n ∧ Hid (RW w bc f (.slice pv mv cv) ys wr ∧ ys ++ wR f b (xs.drop i) = wt xs f ∧ ys.length ≤ 2 * i)) (fun _ _ s9 _ => n - (intOf s9).toNat)
  case atStart => exact ⟨0, 0, 0, b0, none, [], rfl, rfl, rfl, Nat.zero_le _, ⟨HR0.out, by simpa using HW.out, by simp⟩⟩
  case round =>
    clear HR0
    obtain ⟨i, mv, cv, b, pv, ys, rfl, rfl, rfl, hin, HK⟩ := hrel
    have hi0 : (0 : Int) ≤ (i : Int) := by omega
    by_cases hlt : i < n
    · have hlt' : (i : Int) < (n : Int) := by omega
      obtain ⟨x, hx⟩ : ∃ x, xs[i]? = some x := ⟨_, List.getElem?_eq_getElem (by rw [HN.out]; exact hlt)⟩
      have HXi : Hid (xs[i]? = some x) := hx
      have HD : Hid (xs.drop i = x :: xs.drop (i + 1)) := by
        obtain ⟨h1, h2⟩ := List.getElem?_eq_some_iff.1 hx
        exact (List.drop_eq_getElem_cons h1).trans (by rw [h2])
      obtain ⟨gx, ox, rfl, hgx⟩ := HX.out.at hx
      have HO : Hid (∀ v ys wx, RW w bc f v ys wx → RO w bc f v ys gx (ox + i * 3) x wx) := fun v ys wx h => h.opened HX.out HXi.out
      clear hx
      have HW2 : Hid (ys ++ ((if b = false ∧ lt x f.c f.r = false then [f] else []) ++ ((if at' x f.c f.r = true then [] else [x]) ++ wR f (b || !lt x f.c f.r) (xs.drop (i + 1)))) = wt xs f) := by
        have := HK.out.2.1
        rw [HD.out, wR] at this
        exact this
      go_wp2_with fail
      go_cut [29] (fun s29 wx => s29 = .bool (!b && !lt x f.c f.r) ∧ RW w bc f (.slice pv mv cv) ys wx)
      case first =>
        cases b with
        | true =>
          go_quiet (fail)
          go_wp2_with fail
          go_meet
          case rel => exact ⟨rfl, HK.out.1.next (drewN_below _ _)⟩
        | false =>
          have h0d := HO.out _ _ _ (HK.out.1.next (Below.refl _ _).drew)
          obtain ⟨lb, hlb⟩ : ∃ lb, lt x f.c f.r = lb := ⟨_, rfl⟩
          have HLj : Hid (∀ wx, Calls Tryz.prog 23 #[C x.c x.r, C f.c f.r] wx fun e w' => e = .returned (.bool lb) ∧ Below wx.heap.size wx w') := fun wx => by have := HA.out x.c x.r f.c f.r wx; rw [show decide (cmpC x.c x.r f.c f.r < 0) = lb from hlb] at this; exact this
          have HLB : Hid (lt x f.c f.r = lb) := hlb
          clear hlb HW2
          go_region_held3 (fun wx => RO w bc f (.slice pv mv cv) ys gx (ox + i * 3) x wx) (first | exact h0d | assumption | exact HO.out _ _ _ ((ro_rw (by assumption)).next (by assumption))) (first | (go_at_call 23; refine (HLj.out _).mono ?_; rintro e w1 ⟨rfl, hb1⟩; have hw1 := (ro_rw (by assumption)).next hb1))
          all_goals
            go_wp2_with fail
            go_meet
            case rel => exact ⟨by rw [HLB.out]; simp, hw1⟩
      case rest =>
      obtain ⟨rfl, hw⟩ := hcut
      have HWc : Hid (RW w bc f (.slice pv mv cv) ys wc ∧ ys.length ≤ 2 * i) := ⟨hw, HK.out.2.2⟩
      clear hw HK
      go_upto_if 29 with fail
      go_cut [7, 8] (fun s7 s8 wx => ∃ (b' : Bool) (p' : Option Addr) (m' c' : Nat) (ys' : List Fl), s8 = .bool b' ∧ s7 = .slice p' m' c' ∧ RW w bc f (.slice p' m' c') ys' wx ∧ Hid (ys'.length ≤ 2 * i + 1 ∧ ys' ++ ((if at' x f.c f.r = true then [] else [x]) ++ wR f b' (xs.drop (i + 1))) = wt xs f))
      case first =>
        cases hb : (!b && !lt x f.c f.r) with
        | false =>
          have HE : Hid (ys ++ ((if at' x f.c f.r = true then [] else [x]) ++ wR f b (xs.drop (i + 1))) = wt xs f) := by
            have := HW2.out
            unfold Hid
            cases b with
            | true => simpa using this
            | false =>
              have hl : lt x f.c f.r = true := by simpa using hb
              rw [hl] at this
              simpa using this
          clear hb HW2
          go_wp2_with fail
          go_meet
          case rel => exact ⟨b, pv, mv, cv, ys, rfl, rfl, HWc.out.1, ⟨by have := HWc.out.2; omega, HE.out⟩⟩
        | true =>
          have HE : Hid (ys ++ [f] ++ ((if at' x f.c f.r = true then [] else [x]) ++ wR f true (xs.drop (i + 1))) = wt xs f) := by
            have := HW2.out
            unfold Hid
            simp at hb
            rw [hb.1, hb.2] at this
            simpa using this
          obtain ⟨y0, y1⟩ := cells2 HWc.out.1.box
          obtain ⟨p', m', c', w2, hr, hr2⟩ := HWc.out.1.one (by have := HWc.out.2; omega) f
          have HR : Hid ((Builtin.append_ #[26, 26] 26 #[.slice pv mv cv, .slice (some ⟨wc.heap.size, 0, none⟩) 1 1]).run Tryz.prog (wc.alloc (.cells #[.int .i64 f.c, .int .i64 f.r, .string f.s] 25)) = .ok (.slice p' m' c') w2) := hr
          have HR2 : Hid (RW w bc f (.slice p' m' c') (ys ++ [f]) w2) := hr2
          clear hb HW2 hr hr2
          go_wp2_with (first | (at_builtin; refine fm.wpList_append_eq rfl _ _ 26 rfl _ _ _ _ rfl rfl HR.out ?_))
          go_meet
          case rel => exact ⟨true, p', m', c', ys ++ [f], rfl, rfl, HR2.out, ⟨by have := HWc.out.2; simp; omega, HE.out⟩⟩
      case rest =>
      obtain ⟨b', p', m', c', ys', rfl, rfl, hw, HY⟩ := hcut
      have HWd : Hid (RW w bc f (.slice p' m' c') ys' wc) := hw
      clear hw HWc HW2
      obtain ⟨q0, q1, q2, y0, y1, -⟩ := HO.out _ _ _ HWd.out
      have e30 := fun W => neq34 x.c x.r f.c f.r W
      go_wp2_with fail
      go_cut [42] (fun s42 wx => s42 = .bool (!at' x f.c f.r) ∧ RW w bc f (.slice p' m' c') ys' wx)
      case first =>
        have HAt : Hid ((!decide (x.c = f.c) || !decide (x.r = f.r)) = !at' x f.c f.r) := by
          unfold Hid
          cases ha : at' x f.c f.r with
          | true => have := at_iff.1 ha; simp [this.1, this.2]
          | false =>
            have := at_no.1 ha
            by_cases h1 : x.c = f.c
            · have h2 : ¬ x.r = f.r := fun h => this ⟨h1, h⟩
              simp [h2]
            · simp [h1]
        go_region
        all_goals
          go_wp2_with fail
          go_meet
          case rel => exact ⟨by rw [HAt.out], HWd.out.next (Below.refl _ _).drew⟩
      case rest =>
      obtain ⟨rfl, hw⟩ := hcut
      have HWe : Hid (RW w bc f (.slice p' m' c') ys' wc) := hw
      clear hw HWd q0 q1 q2 y0 y1 e30
      cases ha : at' x f.c f.r with
      | true =>
        have HE : Hid (ys' ++ wR f b' (xs.drop (i + 1)) = wt xs f) := by have := HY.out.2; rw [ha] at this; unfold Hid; simpa using this
        clear ha
        go_wp2_with fail
        exact ⟨⟨i + 1, m', c', b', p', ys', rfl, rfl, rfl, hlt, ⟨HWe.out, HE.out, by have := HY.out.1; omega⟩⟩, by simp [intOf]; omega⟩
      | false =>
        have HE : Hid (ys' ++ [x] ++ wR f b' (xs.drop (i + 1)) = wt xs f) := by have := HY.out.2; rw [ha] at this; unfold Hid; simpa using this
        clear ha
        obtain ⟨q0, q1, q2, y0, y1, -⟩ := HO.out _ _ _ HWe.out
        obtain ⟨p2, m2, c2, w2, hr, hr2⟩ := HWe.out.one (by have := HY.out.1; omega) x
        have HR : Hid ((Builtin.append_ #[26, 26] 26 #[.slice p' m' c', .slice (some ⟨wc.heap.size, 0, none⟩) 1 1]).run Tryz.prog (wc.alloc (.cells #[.int .i64 x.c, .int .i64 x.r, .string x.s] 25)) = .ok (.slice p2 m2 c2) w2) := hr
        have HR2 : Hid (RW w bc f (.slice p2 m2 c2) (ys' ++ [x]) w2) := hr2
        clear hr hr2
        go_wp2_with (first | (at_builtin; refine fm.wpList_append_eq rfl _ _ 26 rfl _ _ _ _ rfl rfl HR.out ?_))
        exact ⟨⟨i + 1, m2, c2, b', p2, ys' ++ [x], rfl, rfl, rfl, hlt, ⟨HR2.out, HE.out, by have := HY.out.1; simp; omega⟩⟩, by simp [intOf]; omega⟩
    · have hlt' : ¬ (i : Int) < (n : Int) := by omega
      have HE : Hid (ys ++ wR f b [] = wt xs f) := by
        have := HK.out.2.1
        rw [List.drop_eq_nil_iff.2 (by rw [HN.out]; omega)] at this
        exact this
      cases b with
      | true =>
        have HE2 : Hid (FB wr (.slice pv mv cv) (wt xs f)) := by
          have := HE.out
          rw [wR] at this
          simp at this
          rw [← this]
          exact own_base HK.out.1.own (Nat.zero_le _)
        have HB : Hid (Below w.heap.size w wr) := HK.out.1.below
        clear HK HE
        go_wp2_with fail
        go_ret
        exact ⟨⟨_, rfl, HE2.out⟩, HB.out⟩
      | false =>
        obtain ⟨y0, y1⟩ := cells2 HK.out.1.box
        obtain ⟨p2, m2, c2, w2, hr, hr2⟩ := HK.out.1.one (by have := HK.out.2.2; omega) f
        have HR : Hid ((Builtin.append_ #[26, 26] 26 #[.slice pv mv cv, .slice (some ⟨wr.heap.size, 0, none⟩) 1 1]).run Tryz.prog (wr.alloc (.cells #[.int .i64 f.c, .int .i64 f.r, .string f.s] 25)) = .ok (.slice p2 m2 c2) w2) := hr
        have HE2 : Hid (FB w2 (.slice p2 m2 c2) (wt xs f) ∧ Below w.heap.size w w2) := by
          have := HE.out
          rw [wR] at this
          simp at this
          rw [← this]
          exact ⟨own_base hr2.own (Nat.zero_le _), hr2.below⟩
        clear HK HE hr hr2
        go_wp2_with (first | (at_builtin; refine fm.wpList_append_eq rfl _ _ 26 rfl _ _ _ _ rfl rfl HR.out ?_))
        go_ret
        exact ⟨⟨_, rfl, HE2.out.1⟩, HE2.out.2⟩
end Go.Proofs.YtokfijkhflfioaaGreatDoor.ps

/- The document's Open. Conditions: as each theorem says. -/
namespace Go.Proofs.YtokfijkhflfioaaGreatDoor.fw
open Go Go.RowKit Go.Sort Go.Maps
theorem lo8_byte (c : UInt8) : lo8 (c.toNat : Int) = c := by
  have h := lo8_is (c.toNat : Int)
  have := c.toNat_lt
  exact UInt8.toNat_inj.1 (by omega)
/-- The entry of what was read. -/
theorem enB_read {c r nn : UInt8} {t : List UInt8} (ht : t.length = nn.toNat) : enB (c.toNat : Int) (r.toNat : Int) (txt t) = c :: r :: nn :: t := by
  unfold enB
  have e : (txt t).toList = t := by unfold txt; rw [ByteArray.toList_eq]
  have e2 : lo8 ((txt t).size : Int) = nn := by rw [txt_size, ht, lo8_byte]
  rw [lo8_byte, lo8_byte, e2, e]
  rfl
/-- A place's bytes: what is read there. -/
structure PlB (b : List UInt8) (a k : Nat) (c r nn x y : UInt8) : Prop where
  c : b[a]? = some c
  r : b[a + 1]? = some r
  n : b[a + 2]? = some nn
  kk : nn.toNat = k
  x : b[a + 3 + k]? = some x
  y : b[a + 4 + k]? = some y
def tB (b : List UInt8) (a k : Nat) : List UInt8 := (b.drop (a + 3)).take k
theorem PlB.of {b : List UInt8} {a : Nat} (h : a + 5 ≤ b.length) {nn : UInt8} (hn : b[a + 2]? = some nn) (h2 : a + 5 + nn.toNat ≤ b.length) : ∃ c r x y, PlB b a nn.toNat c r nn x y :=
  ⟨_, _, _, _, List.getElem?_eq_getElem (show a < b.length by omega), List.getElem?_eq_getElem (show a + 1 < b.length by omega), hn, rfl, List.getElem?_eq_getElem (show a + 3 + nn.toNat < b.length by omega), List.getElem?_eq_getElem (show a + 4 + nn.toNat < b.length by omega)⟩
theorem drop3 {b : List UInt8} {a : Nat} {c r nn : UInt8} (hc : b[a]? = some c) (hr : b[a + 1]? = some r) (hn : b[a + 2]? = some nn) : b.drop a = c :: r :: nn :: b.drop (a + 3) := by
  obtain ⟨h1, e1⟩ := List.getElem?_eq_some_iff.1 hc
  obtain ⟨h2, e2⟩ := List.getElem?_eq_some_iff.1 hr
  obtain ⟨h3, e3⟩ := List.getElem?_eq_some_iff.1 hn
  rw [List.drop_eq_getElem_cons h1, List.drop_eq_getElem_cons h2, List.drop_eq_getElem_cons h3, e1, e2, e3]
theorem PlB.tl {b : List UInt8} {a k : Nat} {c r nn x y : UInt8} (h : PlB b a k c r nn x y) : (tB b a k).length = k := by
  have := (List.getElem?_eq_some_iff.1 h.y).1
  unfold tB
  rw [List.length_take, List.length_drop]
  omega
theorem PlB.ent {b : List UInt8} {a k : Nat} {c r nn x y : UInt8} (h : PlB b a k c r nn x y) : ent (b.drop a) = if [x, y] = sm2 (c :: r :: nn :: tB b a k) then some (c, r, tB b a k) else none := by
  have hy := (List.getElem?_eq_some_iff.1 h.y).1
  rw [drop3 h.c h.r h.n]
  unfold fw.ent
  simp only
  have e1 : ((b.drop (a + 3)).drop nn.toNat).take 2 = [x, y] := by
    rw [h.kk]
    refine take2 (b := b.drop (a + 3)) (n := k) ?_ ?_
    · rw [List.getElem?_drop]; exact h.x
    · rw [List.getElem?_drop, show a + 3 + (k + 1) = a + 4 + k by omega]; exact h.y
  rw [e1, h.kk, show (b.drop (a + 3)).take k = tB b a k from rfl]
  have e2 : k + 2 ≤ (b.drop (a + 3)).length := by rw [List.length_drop]; omega
  by_cases hs : [x, y] = sm2 (c :: r :: nn :: tB b a k)
  · rw [if_pos hs, if_pos ⟨e2, hs⟩]
  · rw [if_neg hs, if_neg (fun h2 => hs h2.2)]
theorem ent_few {b : List UInt8} {a : Nat} (h : ¬ a + 5 ≤ b.length) : ent (b.drop a) = none := by
  cases he : ent (b.drop a) with
  | none => rfl
  | some e =>
    obtain ⟨c, r, t⟩ := e
    have := (ent_length he).1
    rw [List.length_drop] at this
    omega
theorem ent_far {b : List UInt8} {a : Nat} {nn : UInt8} (h0 : a + 5 ≤ b.length) (hn : b[a + 2]? = some nn) (h : ¬ a + 5 + nn.toNat ≤ b.length) : ent (b.drop a) = none := by
  rw [drop3 (c := b[a]) (r := b[a + 1]) (List.getElem?_eq_getElem (by omega)) (List.getElem?_eq_getElem (by omega)) hn]
  unfold fw.ent
  simp only
  rw [if_neg]
  rintro ⟨h2, -⟩
  rw [List.length_drop] at h2
  omega
/-- Refused, whatever the sum is. -/
theorem PlB.no {b : List UInt8} {a k : Nat} {c r nn x y : UInt8} (h : PlB b a k c r nn x y) {xs : List ps.Fl} (h2 : setF okT xs c r (tB b a k) = none) : opE xs (b.drop a) = (xs, 0) := by
  have he := h.ent
  split at he
  · exact opE_no he h2
  · exact opE_none he
theorem bw_cell {w wx : World} (h : Bw w wx) {g i : Nat} {v : Value} (hc : w.cell? ⟨g, i, none⟩ = some v) : wx.cell? ⟨g, i, none⟩ = some v := (h.cell (p := ⟨g, i, none⟩) (World.block_lt_of_cell? w ⟨g, i, none⟩ hc)).trans hc
/-- What stands between two entries. -/
structure DI (w : World) (b : List UInt8) (a : Nat) (xs : List ps.Fl) (q : Option Addr) (m : Nat) (wr : World) : Prop where
  below : Bw w wr
  fm : ps.FM wr q xs
  len : m = xs.length
  srt : ps.Srt xs
  few : xs.length ≤ 200
  eq : opE [] b = ((opE xs (b.drop a)).1, a + (opE xs (b.drop a)).2)
set_option maxRecDepth 1000000 in
set_option maxHeartbeats 8000000 in
theorem ropen_any (g o cb : Nat) (b : List UInt8) (w : World) (hv : BM w (.slice (some ⟨g, o, none⟩) b.length cb) b) (hcc : b.length ≤ cb) (hl : b.length ≤ 140737488355328) : Calls Tryz.prog 14 #[.slice (some ⟨g, o, none⟩) b.length cb] w fun e w' => OpO w b e w' := by
  have HV : Hid (BM w (.slice (some ⟨g, o, none⟩) b.length cb) b) := hv
  have hl9 : (b.length : Int) ≤ 140737488355328 := by omega
  have hcc' : (b.length : Int) ≤ (cb : Int) := by omega
  obtain ⟨n, hn⟩ : ∃ n, b.length = n := ⟨_, rfl⟩
  have HN : Hid (b.length = n) := hn
  rw [hn] at hl9 hcc' hcc ⊢
  clear hv hn
  go_enter Tryz.func14, Tryz.ntmps14
  go_wp2_with fail
  go_loopw [4, 5] (fun s4 s5 wr => ∃ (a : Nat) (xs : List ps.Fl) (q : Option Addr) (m cq : Nat), s5 = .int .i64 (a : Int) ∧ s4 = .slice q m cq ∧ a ≤ n ∧ Hid (DI w b a xs q m wr)) (fun _ s5 _ => n - (intOf s5).toNat)
  case atStart => exact ⟨0, [], none, 0, 0, rfl, rfl, Nat.zero_le _, ⟨Below.refl _ _, .inl rfl, rfl, List.Pairwise.nil, Nat.zero_le _, by rw [List.drop_zero]; simp⟩⟩
  case round =>
    obtain ⟨a, xs, q, m, cq, rfl, rfl, ha, HI⟩ := hrel
    have ha0 : (0 : Int) ≤ (a : Int) := by omega
    have ha9 : (a : Int) ≤ (n : Int) := by omega
    have hg : ∀ wx, Bw w wx → ∀ (i : Nat) (x : UInt8), b[i]? = some x → wx.cell? ⟨g, o + i, none⟩ = some (.int .u8 (x.toNat : Int)) := fun wx hb i x hx => by
      obtain ⟨p2, c2, e, hc⟩ := HV.out.next hb
      cases e
      obtain ⟨g2, o2, e, h2⟩ := hc i x hx
      cases e
      exact h2
    have HG : Hid (∀ wx, Bw w wx → ∀ (i : Nat) (x : UInt8), b[i]? = some x → wx.cell? ⟨g, o + i, none⟩ = some (.int .u8 (x.toNat : Int))) := hg
    clear hg
    by_cases h5 : a + 5 ≤ n
    · have h5' : (a : Int) + 5 ≤ (n : Int) := by omega
      obtain ⟨nn, hnn⟩ : ∃ nn, b[a + 2]? = some nn := ⟨_, List.getElem?_eq_getElem (by rw [HN.out]; omega)⟩
      have y2 := HG.out wr HI.out.below (a + 2) nn hnn
      have HNN : Hid (b[a + 2]? = some nn) := hnn
      have hk9 : (nn.toNat : Int) < 256 := by have := nn.toNat_lt; omega
      have hk0 : (0 : Int) ≤ (nn.toNat : Int) := by omega
      clear hnn
      by_cases h6 : a + 5 + nn.toNat ≤ n
      · have h6' : ¬ (a : Int) + 5 + (nn.toNat : Int) > (n : Int) := by omega
        obtain ⟨c, r, x, y, hpl⟩ := PlB.of (by rw [HN.out]; exact h5) HNN.out (by rw [HN.out]; exact h6)
        have HPL : Hid (PlB b a nn.toNat c r nn x y) := hpl
        have HTL : Hid ((tB b a nn.toNat).length = nn.toNat) := hpl.tl
        clear hpl
        generalize hkk : nn.toNat = k at *
        go_upto_region 7 with fail
        obtain ⟨Wz, hWz⟩ : ∃ Wz, Wz = (wr.alloc (.cells #[.int .i64 0, .int .i64 0, .string nul] 25)).drew := ⟨_, rfl⟩
        have hbd : Bw wr Wz := by rw [hWz]; exact (Bw.al wr _).tr (Below.refl _ _).drew
        have HBz : Hid (Bw wr Wz) := hbd
        have HGz : Hid (Wz.heap[wr.heap.size]? = some (.cells #[.int .i64 0, .int .i64 0, .string nul] 25)) := by
          show _ = _
          rw [hWz]
          exact heap_alloc_new wr _
        have hbr : Bw wr wr.drew := (Below.refl _ wr).drew
        have hba : Bw wr (wr.alloc (.cells #[.int .i64 0, .int .i64 0, .string nul] 25)).drew := (Bw.al wr _).tr (Below.refl _ _).drew
        have z0 := HG.out wr.drew (HI.out.below.tr hbr) a c HPL.out.c
        have z1 := HG.out wr.drew (HI.out.below.tr hbr) (a + 1) r HPL.out.r
        have z0a := HG.out _ (HI.out.below.tr hba) a c HPL.out.c
        have z1a := HG.out _ (HI.out.below.tr hba) (a + 1) r HPL.out.r
        have hcv1 : (convert 29 9 (.slice (some ⟨g, o + (a + 3), none⟩) k (cb - (a + 3)))).run Tryz.prog wr.drew = .ok (.string (txt (tB b a k))) wr.drew := (HV.out.next (HI.out.below.tr hbr)).text rfl (a + 3) k (cb - (a + 3)) (by rw [HN.out]; omega) 0
        have hcv2 : (convert 29 9 (.slice (some ⟨g, o + (a + 3), none⟩) k (cb - (a + 3)))).run Tryz.prog (wr.alloc (.cells #[.int .i64 0, .int .i64 0, .string nul] 25)).drew = .ok (.string (txt (tB b a k))) (wr.alloc (.cells #[.int .i64 0, .int .i64 0, .string nul] 25)).drew := by
          rw [← hWz]
          exact (HV.out.next (HI.out.below.tr hbd)).text rfl (a + 3) k (cb - (a + 3)) (by rw [HN.out]; omega) 0
        clear hbd hWz hbr hba
        have hc3 : ¬ cb = a + 3 := by omega
        have hw1 : (0 : Int) ≤ (a : Int) + 3 := by omega
        have hw2 : (a : Int) + 3 ≤ (a : Int) + 3 + (k : Int) := by omega
        have hw3 : (a : Int) + 3 + (k : Int) ≤ (cb : Int) := by omega
        have hw4 : ((a : Int) + 3).toNat = a + 3 := by omega
        have hw5 : ((a : Int) + 3 + (k : Int)).toNat = a + 3 + k := by omega
        have hw6 : a + 3 + k - (a + 3) = k := by omega
        have hw7 : IntKind.i64.wrap ((a : Int) + 3 + (k : Int)) = (a : Int) + 3 + (k : Int) := Go.IntWalk.i64_in _ (by omega)
        have hw8 : (a : Int) < (n : Int) := by omega
        have hw9 : (a : Int) + 1 < (n : Int) := by omega
        clear y2
        go_cut [7] (fun s7 wx => s7 = .pointer (some ⟨wr.heap.size, 0, none⟩) ∧ Bw wr wx ∧ wx.heap[wr.heap.size]? = some (.cells #[.int .i64 (c.toNat : Int), .int .i64 (r.toNat : Int), .string (txt (tB b a k))] 25))
        case first =>
          go_region
          all_goals
            have hv1 : wrap64 (c.toNat : Int) = (c.toNat : Int) := Go.IntWalk.wrap64_in _ (by have := c.toNat_lt; omega)
            have hv2 : wrap64 (r.toNat : Int) = (r.toNat : Int) := Go.IntWalk.wrap64_in _ (by have := r.toNat_lt; omega)
            rw [hv1, hv2]
            go_wp2_with fail
            go_meet
            case rel => exact ⟨rfl, (Bw.al wr _).tr (Below.refl _ _).drew, heap_alloc_new wr _⟩
        case rest =>
        obtain ⟨e7, hb7, hc7⟩ := hcut
        have HB7 : Hid (Bw wr wc) := hb7
        have HC7 : Hid (wc.heap[wr.heap.size]? = some (.cells #[.int .i64 (c.toNat : Int), .int .i64 (r.toNat : Int), .string (txt (tB b a k))] 25)) := hc7
        have hBlt : wr.heap.size < wc.heap.size := (Array.getElem?_eq_some_iff.1 hc7).1
        have HEn : Hid (Calls Tryz.prog 8 #[.agg #[.int .i64 (c.toNat : Int), .int .i64 (r.toNat : Int), .string (txt (tB b a k))]] wc fun e w' => EnO wc (c.toNat : Int) (r.toNat : Int) (txt (tB b a k)) e w') := rentry_any (c.toNat : Int) (r.toNat : Int) (txt (tB b a k)) wc (by rw [txt_size, HTL.out]; omega)
        obtain ⟨s1, s2, hss⟩ : ∃ s1 s2, sm2 (c :: r :: nn :: tB b a k) = [s1, s2] := ⟨_, _, rfl⟩
        have HSS : Hid (sm2 (c :: r :: nn :: tB b a k) = [s1, s2]) := hss
        have HEL : Hid (enL (c.toNat : Int) (r.toNat : Int) (txt (tB b a k)) = (c :: r :: nn :: tB b a k) ++ [s1, s2]) := by
          show _ = _
          rw [enL_is, enB_read (by rw [HTL.out, hkk]), hss]
        subst e7
        obtain ⟨x0, x1, x2⟩ := cells3q hc7
        clear z0 z1 z0a z1a hcv1 hcv2 hb7 hc7 hss hc3 hw1 hw2 hw3 hw4 hw5 hw6 hw7 hw8 hw9 HBz HGz h6'
        apply_assumption
        go_upto_region 9 with (first | (go_at_call 8; refine HEn.out.mono ?_; rintro e w8 ⟨v8, rfl, hv8⟩))
        have hen := hv8.bm
        obtain ⟨p8, c8, rfl, ⟨h0, -⟩ | ⟨ge, rfl, -⟩⟩ := hv8.form
        · rw [HEL.out] at h0; simp at h0
        have HV8 : Hid (BV wc (.slice (some ⟨ge, 0, none⟩) (enL (c.toNat : Int) (r.toNat : Int) (txt (tB b a k))).length c8) (enL (c.toNat : Int) (r.toNat : Int) (txt (tB b a k))) w8) := hv8
        have hel5 : (enL (c.toNat : Int) (r.toNat : Int) (txt (tB b a k))).length = k + 5 := by rw [enL_length, txt_size, HTL.out]
        have HB8 : Hid (Bw wr w8) := HB7.out.tr hv8.below
        have hc8 : w8.heap[wr.heap.size]? = some (.cells #[.int .i64 (c.toNat : Int), .int .i64 (r.toNat : Int), .string (txt (tB b a k))] 25) := (hv8.below.block _ hBlt).trans HC7.out
        have HC8 : Hid (w8.heap[wr.heap.size]? = some (.cells #[.int .i64 (c.toNat : Int), .int .i64 (r.toNat : Int), .string (txt (tB b a k))] 25) ∧ wr.heap.size < w8.heap.size) := ⟨hc8, (Array.getElem?_eq_some_iff.1 hc8).1⟩
        have e1 : w8.cell? ⟨ge, k + 3, none⟩ = some (.int .u8 (s1.toNat : Int)) := by
          refine hv8.cell ?_
          rw [HEL.out, List.getElem?_append_right (by simp only [List.length_cons, HTL.out]; omega)]
          simp only [List.length_cons, HTL.out]
          rw [show k + 3 - (k + 1 + 1 + 1) = 0 by omega]
          rfl
        have e2 : w8.cell? ⟨ge, k + 4, none⟩ = some (.int .u8 (s2.toNat : Int)) := by
          refine hv8.cell ?_
          rw [HEL.out, List.getElem?_append_right (by simp only [List.length_cons, HTL.out]; omega)]
          simp only [List.length_cons, HTL.out]
          rw [show k + 4 - (k + 1 + 1 + 1) = 1 by omega]
          rfl
        have HE8 : Hid (w8.cell? ⟨ge, k + 3, none⟩ = some (.int .u8 (s1.toNat : Int)) ∧ w8.cell? ⟨ge, k + 4, none⟩ = some (.int .u8 (s2.toNat : Int))) := ⟨e1, e2⟩
        rw [hel5]
        obtain ⟨y0, y1, y2⟩ := cells3q hc8
        clear e1 e2 hen hv8 HV8 hel5 HEn HC7 HB7 x0 x1 x2 hc8
        go_upto_region 10 with (first | (go_at_call 6; refine (rin_is _ _ _).mono ?_; rintro e w9 ⟨rfl, hb9⟩))
        have HB9 : Hid (Bw w8 w9) := hb9
        obtain ⟨z0, z1, z2⟩ := cells3q ((hb9.block _ HC8.out.2).trans HC8.out.1)
        clear y0 y1 y2 hb9
        go_upto_region 11 with (first | (go_at_call 7; refine (rtext_is _ _).mono ?_; rintro e w10 ⟨rfl, hb10⟩))
        have HB10 : Hid (Bw w8 w10) := HB9.out.tr hb10
        have HBr : Hid (Bw wr w10) := HB8.out.tr HB10.out
        clear z0 z1 z2 hb10 HB9
        have HTk : Hid (setF okT xs c r (tB b a k) = tkF xs ⟨(c.toNat : Int), (r.toNat : Int), txt (tB b a k)⟩) := set_tk xs c r (tB b a k)
        obtain ⟨B1, hB1⟩ : ∃ B1, adr.isC (c.toNat : Int) (r.toNat : Int) = B1 := ⟨_, rfl⟩
        obtain ⟨t1, ht1⟩ : ∃ t1, ftx (txt (tB b a k)) = t1 := ⟨_, rfl⟩
        have HB1 : Hid (adr.isC (c.toNat : Int) (r.toNat : Int) = B1 ∧ ftx (txt (tB b a k)) = t1) := ⟨hB1, ht1⟩
        rw [hB1, ht1]
        clear hB1 ht1
        have hret : (setF okT xs c r (tB b a k) = none ∨ ¬ [x, y] = [s1, s2]) → opE [] b = (xs, a) := fun h => by
          rw [HI.out.eq]
          have he : opE xs (b.drop a) = (xs, 0) := by
            rcases h with h | h
            · exact HPL.out.no h
            · refine opE_none ?_
              rw [HPL.out.ent, if_neg (by rw [HSS.out]; exact h)]
          rw [he]
          rfl
        have HRet : Hid ((setF okT xs c r (tB b a k) = none ∨ ¬ [x, y] = [s1, s2]) → opE [] b = (xs, a)) := hret
        have HFin : Hid (∀ wx, Bw wr wx → opE [] b = (xs, a) → OpO w b (.returned (.tuple #[.slice q m cq, .int .i64 (a : Int)])) wx) := fun wx hb hq => ⟨⟨q, cq, by rw [hq, HI.out.len], by rw [hq]; exact fm_next HI.out.fm hb⟩, HI.out.below.tr hb⟩
        clear hret
        cases B1 with
        | false =>
          have HN1 : Hid (opE [] b = (xs, a)) := HRet.out (.inl (by rw [HTk.out]; unfold tkF; rw [if_neg (by rw [HB1.out.1]; simp)]))
          go_quiet (fail)
          go_wp2_with fail
          exact bodyPost_ret (v := .tuple #[.slice q m cq, .int .i64 (a : Int)]) (by simp [results, Tryz.results14, go_sem]) rfl (HFin.out _ (HBr.out.tr (drawn_bw _ _)) HN1.out)
        | true =>
          by_cases ht0 : t1 = 0
          · subst ht0
            have hw1 : (a : Int) + 3 + (k : Int) < (n : Int) := by omega
            have hw2 : (a : Int) + 4 + (k : Int) < (n : Int) := by omega
            have hw3 : ((a : Int) + 3 + (k : Int)).toNat = a + 3 + k := by omega
            have hw4 : ((a : Int) + 4 + (k : Int)).toNat = a + 4 + k := by omega
            have hw5 : ((k + 5 : Nat) : Int) - 2 = (k : Int) + 3 := by omega
            have hw6 : ((k + 5 : Nat) : Int) - 1 = (k : Int) + 4 := by omega
            have x1q : ∀ j, (w10.drewN j).cell? ⟨ge, k + 3, none⟩ = some (.int .u8 (s1.toNat : Int)) := fun j => bw_cell (HB10.out.tr (drawn_bw w10 j)) HE8.out.1
            have x2q : ∀ j, (w10.drewN j).cell? ⟨ge, k + 4, none⟩ = some (.int .u8 (s2.toNat : Int)) := fun j => bw_cell (HB10.out.tr (drawn_bw w10 j)) HE8.out.2
            have p1q : ∀ j, (w10.drewN j).cell? ⟨g, o + (a + 3 + k), none⟩ = some (.int .u8 (x.toNat : Int)) := fun j => HG.out _ (HI.out.below.tr (HBr.out.tr (drawn_bw w10 j))) _ x HPL.out.x
            have p2q : ∀ j, (w10.drewN j).cell? ⟨g, o + (a + 4 + k), none⟩ = some (.int .u8 (y.toNat : Int)) := fun j => HG.out _ (HI.out.below.tr (HBr.out.tr (drawn_bw w10 j))) _ y HPL.out.y
            by_cases hs1 : s1 = x
            · by_cases hs2 : s2 = y
              · have hq1 : ((s1.toNat : Int) != (x.toNat : Int)) = false := by rw [hs1]; exact bne_self_eq_false _
                have hq2 : ((s2.toNat : Int) != (y.toNat : Int)) = false := by rw [hs2]; exact bne_self_eq_false _
                have HEnt : Hid (ent (b.drop a) = some (c, r, tB b a k)) := by
                  show _ = _
                  rw [HPL.out.ent, if_pos (by rw [HSS.out, hs1, hs2])]
                have HC1 : Hid (adr.isC (c.toNat : Int) (r.toNat : Int) = true) := HB1.out.1
                have HF0 : Hid (ftx (txt (tB b a k)) = 0) := HB1.out.2
                obtain ⟨ys, hys⟩ : ∃ ys, ps.wt xs ⟨(c.toNat : Int), (r.toNat : Int), txt (tB b a k)⟩ = ys := ⟨_, rfl⟩
                have HYs : Hid (ps.wt xs ⟨(c.toNat : Int), (r.toNat : Int), txt (tB b a k)⟩ = ys) := hys
                have HNo : Hid (200 < ys.length → opE [] b = (xs, a)) := fun h => HRet.out (.inl (by rw [HTk.out]; unfold tkF; rw [if_neg (by rw [hys]; exact fun h2 => by omega)]))
                have HDI : Hid (∀ wx p, Bw wr wx → ps.FM wx p ys → ys.length ≤ 200 → DI w b (a + 5 + k) ys p ys.length wx) := fun wx p hb hf hle => by
                  have hst : setF okT xs c r (tB b a k) = some ys := by
                    rw [HTk.out]
                    unfold tkF
                    rw [if_pos ⟨HC1.out, HF0.out, by rw [hys]; exact hle⟩, hys]
                  refine ⟨HI.out.below.tr hb, hf, rfl, by rw [← hys]; exact ps.wt_srt HI.out.srt _, hle, ?_⟩
                  rw [HI.out.eq, opE_step HEnt.out hst, List.drop_drop, HTL.out, show a + (k + 5) = a + 5 + k by omega]
                  simp only [Prod.mk.injEq, true_and]
                  omega
                clear hs1 hs2 hys
                go_quiet (fail)
                go_upto_region 13 with fail
                generalize hw11 : w10.drewN nq = w11
                have HB11 : Hid (Bw wr w11) := by
                  show Bw _ _
                  rw [← hw11]
                  exact HBr.out.tr (drawn_bw _ _)
                have hb11 : Bw w8 w11 := by rw [← hw11]; exact HB10.out.tr (drawn_bw _ _)
                obtain ⟨z0, z1, z2⟩ := cells3q ((hb11.block _ HC8.out.2).trans HC8.out.1)
                have HWt : Hid (Calls Tryz.prog 25 #[.slice q m cq, .agg #[.int .i64 (c.toNat : Int), .int .i64 (r.toNat : Int)], .string (txt (tB b a k))] w11 fun e w' => (∃ v, e = .returned v ∧ ps.FB w' v ys) ∧ Bw w11 w') := by
                  have h := ps.rwith_any q cq xs ⟨(c.toNat : Int), (r.toNat : Int), txt (tB b a k)⟩ w11 (fm_next HI.out.fm HB11.out) (Nat.le_trans HI.out.few (by decide)) HI.out.srt
                  rw [HYs.out, ← HI.out.len] at h
                  exact h
                clear hw11 hb11 x1q x2q p1q p2q hq1 hq2 hw1 hw2 hw3 hw4 hw5 hw6
                go_upto_region 14 with (first | (go_at_call 25; refine HWt.out.mono ?_; rintro e w12 ⟨⟨v, rfl, hfb⟩, hb12⟩))
                obtain ⟨p12, c12, rfl, hfm⟩ := ps.FB.shape hfb
                have HB12 : Hid (Bw wr w12) := HB11.out.tr hb12
                have HFM : Hid (ps.FM w12 p12 ys) := hfm
                obtain ⟨ny, hny⟩ : ∃ ny, ys.length = ny := ⟨_, rfl⟩
                rw [hny]
                have HNy : Hid (ys.length = ny) := hny
                clear hfb hfm hb12 HWt z0 z1 z2 hny
                by_cases h200 : (ny : Int) > 200
                · have HN1 : Hid (opE [] b = (xs, a)) := HNo.out (by rw [HNy.out]; omega)
                  go_wp2_with fail
                  exact bodyPost_ret (v := .tuple #[.slice q m cq, .int .i64 (a : Int)]) (by simp [results, Tryz.results14, go_sem]) rfl (HFin.out _ HB12.out HN1.out)
                · have HD2 : Hid (DI w b (a + 5 + k) ys p12 ny w12) := by
                    have h := HDI.out w12 p12 HB12.out HFM.out (by rw [HNy.out]; omega)
                    rw [HNy.out] at h
                    exact h
                  go_wp2_with fail
                  exact ⟨⟨a + 5 + k, ys, p12, ny, c12, by simp, rfl, h6, HD2.out⟩, by simp [intOf]; omega⟩
              · have hq1 : ((s1.toNat : Int) != (x.toNat : Int)) = false := by rw [hs1]; exact bne_self_eq_false _
                have hq2 : ((s2.toNat : Int) != (y.toNat : Int)) = true := by
                  simp only [bne_iff_ne, ne_eq]
                  exact fun e => hs2 (UInt8.toNat_inj.1 (by omega))
                have HN1 : Hid (opE [] b = (xs, a)) := HRet.out (.inr (by intro e; injection e with _ e; injection e with e; exact hs2 e.symm))
                clear hs1 hs2
                go_quiet (fail)
                go_wp2_with fail
                exact bodyPost_ret (v := .tuple #[.slice q m cq, .int .i64 (a : Int)]) (by simp [results, Tryz.results14, go_sem]) rfl (HFin.out _ (HBr.out.tr (drawn_bw _ _)) HN1.out)
            · have hq1 : ((s1.toNat : Int) != (x.toNat : Int)) = true := by
                simp only [bne_iff_ne, ne_eq]
                exact fun e => hs1 (UInt8.toNat_inj.1 (by omega))
              have HN1 : Hid (opE [] b = (xs, a)) := HRet.out (.inr (by intro e; injection e with e _; exact hs1 e.symm))
              clear hs1
              go_quiet (fail)
              go_wp2_with fail
              exact bodyPost_ret (v := .tuple #[.slice q m cq, .int .i64 (a : Int)]) (by simp [results, Tryz.results14, go_sem]) rfl (HFin.out _ (HBr.out.tr (drawn_bw _ _)) HN1.out)
          · have hq0 : (t1 != 0) = true := by simpa using ht0
            have HN1 : Hid (opE [] b = (xs, a)) := HRet.out (.inl (by rw [HTk.out]; unfold tkF; rw [if_neg (by show ¬ (_ ∧ ftx (txt (tB b a k)) = 0 ∧ _); rw [HB1.out.2]; exact fun h => ht0 h.2.1)]))
            clear ht0
            go_quiet (fail)
            go_wp2_with fail
            exact bodyPost_ret (v := .tuple #[.slice q m cq, .int .i64 (a : Int)]) (by simp [results, Tryz.results14, go_sem]) rfl (HFin.out _ (HBr.out.tr (drawn_bw _ _)) HN1.out)
      · have h6' : (a : Int) + 5 + (nn.toNat : Int) > (n : Int) := by omega
        have HQ : Hid (opE [] b = (xs, a)) := by
          show _ = _
          rw [HI.out.eq, opE_none (ent_far (by rw [HN.out]; exact h5) HNN.out (by rw [HN.out]; exact h6))]
          rfl
        go_wp2_with fail
        exact bodyPost_ret (v := .tuple #[.slice q m cq, .int .i64 (a : Int)]) (by simp [results, Tryz.results14, go_sem]) rfl ⟨⟨q, cq, by rw [HQ.out, HI.out.len], by rw [HQ.out]; exact HI.out.fm⟩, HI.out.below⟩
    · have h5' : ¬ (a : Int) + 5 ≤ (n : Int) := by omega
      have HQ : Hid (opE [] b = (xs, a)) := by
        show _ = _
        rw [HI.out.eq, opE_none (ent_few (by rw [HN.out]; exact h5))]
        rfl
      go_wp2_with fail
      exact bodyPost_ret (v := .tuple #[.slice q m cq, .int .i64 (a : Int)]) (by simp [results, Tryz.results14, go_sem]) rfl ⟨⟨q, cq, by rw [HQ.out, HI.out.len], by rw [HQ.out]; exact HI.out.fm⟩, HI.out.below⟩
end Go.Proofs.YtokfijkhflfioaaGreatDoor.fw
namespace Go.Proofs.YtokfijkhflfioaaGreatDoor.fw
open Go Go.RowKit Go.Sort
set_option maxRecDepth 1000000 in
set_option maxHeartbeats 8000000 in
theorem ropen_nil (p : Option Addr) (c : Nat) (w : World) : Calls Tryz.prog 14 #[.slice p 0 c] w fun e w' => OpO w [] e w' := by
  have e0 : opE [] [] = ([], 0) := opE_none rfl
  have HO : Hid (OpO w [] (.returned (.tuple #[.slice none 0 0, .int .i64 0])) w) := by
    refine ⟨⟨none, 0, by rw [e0]; rfl, ?_⟩, Below.refl _ _⟩
    rw [e0]
    exact .inl rfl
  clear e0
  go_enter Tryz.func14, Tryz.ntmps14
  go_wp2_with fail
  go_loopw [4, 5] (fun s4 s5 wr => s4 = .slice none 0 0 ∧ s5 = .int .i64 0 ∧ w = wr) (fun _ _ _ => 0)
  case atStart => exact ⟨rfl, rfl, rfl⟩
  case round =>
    obtain ⟨rfl, rfl, rfl⟩ := hrel
    go_wp2_with fail
    exact bodyPost_ret (v := .tuple #[.slice none 0 0, .int .i64 0]) (by simp [results, Tryz.results14, go_sem]) rfl HO.out
/-- Whatever list of bytes was handed in. -/
theorem ropen_bc {w : World} {v : Value} {l : List UInt8} (h : BC w v l) (hl : l.length ≤ 140737488355328) : Calls Tryz.prog 14 #[v] w fun e w' => OpO w l e w' := by
  obtain ⟨h1, p, c, rfl, hc⟩ := h
  cases l with
  | nil => exact ropen_nil p c w
  | cons x l =>
    obtain ⟨p2, c2, e, h2⟩ := id h1
    cases e
    obtain ⟨g, o, rfl, -⟩ := h2 0 x rfl
    exact ropen_any g o c (x :: l) w h1 hc hl
set_option maxRecDepth 1000000 in
set_option maxHeartbeats 8000000 in
theorem bookOpens_any (v : Value) (b : List UInt8) (w : World) (hbc : BC w v b) (hbl : b.length ≤ 140737488355328) (hE : ps.EnvP w) :
    Calls Tryz.prog 4 #[v] w fun e w' => e = .returned (.bool true) ∧ Bw w w' := by
  have HB : Hid (BC w v b) := hbc
  have HE : Hid (ps.EnvP w) := hE
  obtain ⟨X, K, hX⟩ : ∃ X K, opE [] b = (X, K) := ⟨_, _, rfl⟩
  have HT : Hid (ps.Told X 0) := by
    have := told_open b
    rw [hX] at this
    exact this
  have HF : Hid (ps.Fine X) := HT.out.fine
  obtain ⟨n, hn⟩ : ∃ n, X.length = n := ⟨_, rfl⟩
  have HN : Hid (X.length = n) := hn
  have hn2 : (n : Int) ≤ 200 := by have := HF.out.len; omega
  have HO1 : Hid (Calls Tryz.prog 14 #[v] w fun e w' => (∃ q cq, e = .returned (.tuple #[.slice q n cq, .int .i64 (K : Int)]) ∧ ps.FM w' q X) ∧ Bw w w') := by
    have := ropen_bc hbc hbl
    unfold OpO at this
    rw [hX] at this
    dsimp only at this
    rw [hn] at this
    exact this
  have HO2 : Hid (∀ wx, Bw w wx → Calls Tryz.prog 15 #[v] wx fun e w' => (∃ q cq, e = .returned (.tuple #[.slice q n cq, .int .i64 (K : Int)]) ∧ ps.FM w' q X) ∧ Bw wx w') := fun wx hb => by
    have := bc_open (HB.out.next hb) hbl (HE.out.below hb HE.out.size)
    unfold OpO at this
    rw [hX] at this
    dsimp only at this
    rw [hn] at this
    exact this
  have HPk : Hid (∀ wx, Bw w wx → Calls Tryz.prog 17 #[v] wx fun e w' => ∃ u, e = .returned (.tuple #[u, .nilIface]) ∧ BM w' u (bkS X) ∧ Bw wx w') := fun wx hb => by
    have := pack_any v b wx (HB.out.next hb) hbl (HE.out.below hb HE.out.size)
    rw [hX] at this
    refine this.mono ?_
    rintro e w' ⟨u, h1, h2, h3⟩
    exact ⟨u, h1, h2.1, h3⟩
  have HBl : Hid ((bkS X).length ≤ 41000) := by
    have := bkS_le (xs := X) fun y hy => (HF.out.cell y hy).2.2
    have := HF.out.len
    show _ ≤ _
    omega
  clear hbc hE hX hn
  go_enter Tryz.func4, Tryz.ntmps4
  go_upto_region 2 with (first | (go_at_call 14; refine HO1.out.mono ?_; rintro e w1 ⟨⟨q1, cq1, rfl, hfm1⟩, hb1⟩))
  have HB1 : Hid (Bw w w1) := hb1
  have HX1 : Hid (ps.FM w1 q1 X) := hfm1
  clear hfm1 hb1 HO1
  go_upto_region 3 with (first | (go_at_call 15; refine (HO2.out w1 HB1.out).mono ?_; rintro e w2 ⟨⟨q2, cq2, rfl, hfm2⟩, hb2⟩))
  have HB2 : Hid (Bw w w2) := HB1.out.tr hb2
  have HX2 : Hid (ps.FM w2 q1 X) := fm_next HX1.out hb2
  have HSh : Hid (Calls Tryz.prog 16 #[.slice q2 n cq2, .slice q1 n cq1] w2 fun e w' => e = .returned (.bool true) ∧ Bw w2 w') := by
    have := rsheets_fm X q2 q1 cq2 cq1 w2 hfm2 HX2.out (by have := HF.out.len; omega)
    rw [HN.out] at this
    exact this
  clear hfm2 hb2 HO2 HX1 HB1
  go_upto_region 4 with (first | (go_at_call 16; refine HSh.out.mono ?_; rintro e w3 ⟨rfl, hb3⟩))
  have HB3 : Hid (Bw w w3) := HB2.out.tr hb3
  have HX3 : Hid (ps.FM w3 q1 X) := fm_next HX2.out hb3
  clear hb3 HSh HX2 HB2
  go_upto_block 0 with fail
  go_cut [8, 9] (fun s8 s9 wx => ∃ i : Nat, s9 = .int .i64 (i : Int) ∧ Bw w3 wx ∧ BM wx s8 (bkS X))
  case first =>
    go_wp2_with fail
    go_loopw [8, 9] (fun s8 s9 wr => ∃ i : Nat, s9 = .int .i64 (i : Int) ∧ i ≤ n ∧ Hid (BV w3 s8 (bkS (X.take i)) wr)) (fun _ s9 _ => n - (intOf s9).toNat)
    case atStart => exact ⟨0, rfl, Nat.zero_le _, BV.nil w3⟩
    case round =>
      obtain ⟨i, rfl, hi, HV⟩ := hrel
      have hi0 : (0 : Int) ≤ (i : Int) := by omega
      by_cases hlt : i < n
      · have hlt' : (i : Int) < (n : Int) := by omega
        obtain ⟨x, hx⟩ : ∃ x, X[i]? = some x := ⟨_, List.getElem?_eq_getElem (by rw [HN.out]; exact hlt)⟩
        obtain ⟨g, o, rfl, hg, y0, y1, y2⟩ := fm_at (fm_next HX3.out HV.out.below) hx
        have hx2 := HF.out.cell x (List.mem_of_getElem? hx)
        have hlen : (bkS (X.take i)).length ≤ 41000 := by
          have := bkS_le (xs := X.take i) fun y hy => (HF.out.cell y (List.mem_of_mem_take hy)).2.2
          rw [List.length_take] at this
          have hl := HF.out.len
          omega
        have HEn : Hid (Calls Tryz.prog 8 #[FVv x] wr fun e w' => ∃ v, e = .returned v ∧ ∃ g c w4, (Builtin.append_ #[29, 29] 29 #[u8, v]).run Tryz.prog w' = .ok (.slice (some ⟨g, 0, none⟩) ((bkS (X.take i)).length + (x.s.size + 5)) c) w4 ∧ Hid (BV w3 (.slice (some ⟨g, 0, none⟩) ((bkS (X.take i)).length + (x.s.size + 5)) c) (bkS (X.take (i + 1))) w4)) := by
          refine (rentry_any x.c x.r x.s wr (by omega)).mono ?_
          rintro e w' ⟨v, rfl, hv⟩
          refine ⟨v, rfl, ?_⟩
          obtain ⟨g, c, w4, r4, B4⟩ := (HV.out.next hv.below).app hv.bm (by rw [enL_length]; omega) (by rw [enL_length]; omega)
          rw [enL_length] at r4 B4
          refine ⟨g, c, w4, r4, ?_⟩
          show BV _ _ _ _
          rw [show X.take (i + 1) = X.take i ++ [x] by rw [List.take_add_one, hx]; rfl, bkS_snoc]
          exact B4
        clear hx hx2 HV HE HPk
        obtain ⟨c1, r1, s1⟩ := x
        dsimp only at y0 y1 y2 HEn
        generalize (bkS (X.take i)).length + (s1.size + 5) = q at HEn
        go_wp2_with (first | (go_at_call 8; refine HEn.out.mono ?_; rintro e w4 ⟨v4, rfl, g4, c4, w5, r5, B5⟩; have HR5 : Hid _ := r5) | (at_builtin; refine wpList_append_eq rfl _ _ 29 29 rfl _ _ _ _ rfl rfl HR5.out ?_))
        exact ⟨⟨i + 1, by simp, hlt, B5⟩, by simp [intOf]; omega⟩
      · have hlt' : ¬ (i : Int) < (n : Int) := by omega
        obtain rfl : i = n := by omega
        have HV2 : Hid (BV w3 u8 (bkS X) wr) := by
          have := HV.out
          rw [List.take_of_length_le (by rw [HN.out]; exact Nat.le_refl _)] at this
          exact this
        go_wp2_with fail
        go_meet
        case rel => exact ⟨_, rfl, HV2.out.below, HV2.out.bm⟩
  case rest =>
  obtain ⟨i, rfl, hbc, hwant⟩ := hcut
  have HBc : Hid (Bw w wc) := HB3.out.tr hbc
  have HW : Hid (BM wc u8 (bkS X)) := hwant
  clear hbc hwant HB3 HX3
  apply_assumption
  go_upto_region 10 with (first | (go_at_call 17; refine (HPk.out _ HBc.out).mono ?_; rintro e w6 ⟨v6, rfl, hv6, hb6⟩))
  have HB6 : Hid (Bw w w6) := HBc.out.tr hb6
  have HBy : Hid (Calls Tryz.prog 11 #[v6, u8] w6 fun e w' => e = .returned (.bool true) ∧ Bw w6 w') := by
    have := rbytes_any v6 u8 _ _ w6 hv6 (HW.out.next hb6) (by have := HBl.out; omega)
    rw [decide_eq_true rfl] at this
    exact this
  clear hv6 hb6 HW HPk HBc
  go_wp2_with (first | (go_at_call 11; refine HBy.out.mono ?_; rintro e w8 ⟨rfl, hb8⟩))
  go_ret
  exact ⟨rfl, HB6.out.tr hb8⟩
end Go.Proofs.YtokfijkhflfioaaGreatDoor.fw

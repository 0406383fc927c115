
/- The law MergeDiffs. Conditions: what the package variables hold. -/
import Derived.Test.YtomgjjngkffbbaaGreatDoorJr
import Derived.Test.YtomgjjngkffbbaaGreatDoorJm
import Derived.Test.YtomgjjngkffbbaaGreatDoorZd
import Derived.Test.YtomgjjngkffbbaaGreatDoorJp

/- The document: a sheet in which one cell has another text. Conditions: as each theorem says. -/
namespace Go.Proofs.YtomgjjngkffbbaaGreatDoor.ps
open Go.RowKit
open adr (C isC ckc)
/-- What the reference makes of a row of cells: whether the text was put already is handed on. -/
def wR (f : Fl) : Bool → List Fl → List Fl
  | b, [] => if b = true then [] else [f]
  | b, x :: l => (if b = false ∧ lt x f.c f.r = false then [f] else []) ++ ((if at' x f.c f.r = true then [] else [x]) ++ wR f (b || !lt x f.c f.r) l)
theorem wR_rest {f : Fl} {l : List Fl} (h : ∀ y ∈ l, at' y f.c f.r = false) : wR f true l = l := by
  induction l with
  | nil => rfl
  | cons x l ih =>
    have h2 := h x (by simp)
    rw [wR, h2, Bool.true_or, ih (fun y hy => h y (by simp [hy]))]
    simp
theorem wR_wt (f : Fl) (l : List Fl) (h : Srt l) : wR f (decide (f.s.size = 0)) l = wt l f := by
  induction l with
  | nil =>
    rw [wR, wt, put]
    by_cases h0 : f.s.size = 0 <;> simp [h0]
  | cons x l ih =>
    obtain ⟨h1, h2⟩ := List.pairwise_cons.1 h
    have ih := ih h2
    rw [wR, wt]
    cases hl : lt x f.c f.r with
    | true =>
      have ha : at' x f.c f.r = false := by
        rw [at_no]
        have := lt_iff.1 hl
        omega
      simp only [ha, Bool.not_true, Bool.or_false, ih]
      simp
    | false =>
      have hr : ∀ y ∈ l, at' y f.c f.r = false := fun y hy => by
        have a := lt_iff.1 (h1 y hy)
        have b : ¬ lt x f.c f.r = true := by simp [hl]
        rw [lt_iff] at b
        rw [at_no]
        omega
      rw [Bool.not_false, Bool.or_true, wR_rest hr, put]
      by_cases h0 : f.s.size = 0
      · cases ha : at' x f.c f.r <;> simp [h0]
      · cases ha : at' x f.c f.r <;> simp [h0]
theorem neq34 (a b c d : Int) (W : World) : (binOp BinOp.neq 43 (.agg #[.int .i64 a, .int .i64 b]) (.agg #[.int .i64 c, .int .i64 d])).run Tryz.prog W = .ok (.bool (!(decide (a = c) && decide (b = d)))) W := by
  rw [run_neq_struct, show (10000 : Nat) = 9998 + 2 from rfl, eqIn30]; rfl
/-- What is at hand in a round: the new list, the box of the cell. -/
structure RW (w : World) (bc : Nat) (f : Fl) (v : Value) (ys : List Fl) (wx : World) : Prop where
  own : wx.ownsRow w.heap.size 45 3 v ys.length (flF ys)
  box : wx.heap[bc]? = some (.cells #[.int .i64 f.c, .int .i64 f.r] 43 (0, 0))
  below : Below w.heap.size w wx
theorem RW.next {w : World} {bc : Nat} {f : Fl} {v : Value} {ys : List Fl} {wx wy : World} (h : RW w bc f v ys wx) (hb : Below wx.heap.size wx wy) : RW w bc f v ys wy :=
  ⟨own_next h.own hb, (hb.block _ (fm.lt_blk h.box)).trans h.box, bnext h.below hb h.below.size⟩
theorem RW.one {w : World} {bc : Nat} {f : Fl} {v : Value} {ys : List Fl} {wx : World} (h : RW w bc f v ys wx) (hy : ys.length ≤ 100000) (y : Fl) :
    ∃ p n c w', (Builtin.append_ #[22, 22] 22 #[v, .slice (some ⟨wx.heap.size, 0, none⟩) 1 1]).run Tryz.prog (wx.alloc (.cells #[.int .i64 y.c, .int .i64 y.r, .string y.s] 45)) = .ok (.slice p n c) w' ∧ RW w bc f (.slice p n c) (ys ++ [y]) w' := by
  have h1 := h.next ((Below.refl _ _).alloc (Nat.le_refl _) (.cells #[.int .i64 y.c, .int .i64 y.r, .string y.s] 45))
  obtain ⟨v', w', r1, r2, r3, r4, r5, r6⟩ := app_any (wx.alloc (.cells #[.int .i64 y.c, .int .i64 y.r, .string y.s] 45)) w.heap.size h1.below.size v ys.length (flF ys) h1.own (some ⟨wx.heap.size, 0, none⟩) [y] 1 (fm_new wx y) (by simp; omega)
  have ho : w'.ownsRow w.heap.size 45 3 v' (ys ++ [y]).length (flF (ys ++ [y])) := by rw [flF_app, List.length_append]; exact r2
  have hne : v.ownBlock ≠ some bc := fun e => by
    rcases h1.own.2 with ⟨rfl, -⟩ | ⟨g, cap, cur, rfl, -, hg, -⟩
    · cases e
    · have e' : g = bc := by simpa [Value.ownBlock] using e
      rw [e', h1.box] at hg
      injection hg with hg
      injection hg with _ q
      exact absurd q (by decide)
  obtain ⟨p, c, rfl, -⟩ := FB.shape (own_base ho (Nat.zero_le _))
  exact ⟨p, _, c, w', r1, ho, (r4 bc (fm.lt_blk h1.box) hne).trans h1.box, h1.below.trans r3⟩
abbrev RO (w : World) (bc : Nat) (f : Fl) (v : Value) (ys : List Fl) (gx o : Nat) (x : Fl) (wx : World) : Prop :=
  wx.cell? ⟨gx, o, none⟩ = some (.int .i64 x.c) ∧ wx.cell? ⟨gx, o + 1, none⟩ = some (.int .i64 x.r) ∧ wx.cell? ⟨gx, o + 2, none⟩ = some (.string x.s) ∧ wx.cell? ⟨bc, 0, none⟩ = some (.int .i64 f.c) ∧ wx.cell? ⟨bc, 1, none⟩ = some (.int .i64 f.r) ∧ RW w bc f v ys wx
theorem ro_rw {w : World} {bc : Nat} {f : Fl} {v : Value} {ys : List Fl} {gx o : Nat} {x : Fl} {wx : World} (h : RO w bc f v ys gx o x wx) : RW w bc f v ys wx := h.2.2.2.2.2
theorem RW.opened {w : World} {bc : Nat} {f : Fl} {v : Value} {ys xs : List Fl} {gx ox i : Nat} {x : Fl} {wx : World} (h : RW w bc f v ys wx) (hx : FM w (some ⟨gx, ox, none⟩) xs) (hi : xs[i]? = some x) : RO w bc f v ys gx (ox + i * 3) x wx := by
  obtain ⟨q0, q1, q2⟩ := FM.cells (hx.below h.below) hi
  obtain ⟨b0, b1⟩ := cells2 h.box
  exact ⟨q0, q1, q2, b0, b1, h⟩
set_option maxRecDepth 100000 in
set_option maxHeartbeats 8000000 in
theorem rwith_any (p : Option Addr) (c : Nat) (xs : List Fl) (f : Fl) (w : World) (hx : FM w p xs) (hl : xs.length ≤ 3000) (hs : Srt xs) :
    Calls Tryz.prog 30 #[.slice p xs.length c, C f.c f.r, .string f.s] w fun e w' => (∃ v, e = .returned v ∧ FB w' v (wt xs f)) ∧ Below w.heap.size w w' := by
  have HA : Hid (∀ a b c d wx, Calls Tryz.prog 24 #[C a b, C c d] wx fun e w' => e = .returned (.bool (decide (cmpC a b c d < 0))) ∧ Below wx.heap.size wx w') := rahead_any
  obtain ⟨n, hn⟩ : ∃ n, xs.length = n := ⟨_, rfl⟩
  have HN : Hid (xs.length = n) := hn
  have HX : Hid (FM w p xs) := hx
  have hn3 : (n : Int) ≤ 3000 := by omega
  have hn3' : n ≤ 3000 := by omega
  obtain ⟨bc, hbc⟩ : ∃ bc, w.heap.size = bc := ⟨_, rfl⟩
  have HR0 : Hid (RW w bc f (.slice none 0 0) [] (w.alloc (.cells #[.int .i64 f.c, .int .i64 f.r] 43))) := ⟨⟨rfl, .inl ⟨rfl, rfl⟩⟩, by rw [← hbc]; exact heap_alloc_new _ _, (Below.refl _ _).alloc (Nat.le_refl _) _⟩
  have HW : Hid (wR f f.s.toList.isEmpty xs = wt xs f) := by
    have := wR_wt f xs hs
    cases h0 : f.s.toList.isEmpty with
    | true => rw [← this, decide_eq_true (emp_yes h0)]; rfl
    | false => rw [← this, decide_eq_false (emp_no h0)]; rfl
  rw [hn]
  clear hx hl hs hn
  obtain ⟨b0, hb0⟩ : ∃ b0, f.s.toList.isEmpty = b0 := ⟨_, rfl⟩
  rw [hb0] at HW
  go_enter Tryz.func30, Tryz.ntmps30
  go_wp2_with fail
  clear hb0 hbc
  generalize w.alloc (.cells #[.int .i64 f.c, .int .i64 f.r] 43) = W0 at *
  go_loopw [7, 8, 9] (fun s7 s8 s9 wr => ∃ (i mv cv : Nat) (b : Bool) (pv : Option Addr) (ys : List Fl), s9 = .int .i64 i ∧ s8 = .bool b ∧ s7 = .slice pv mv cv ∧ i ≤ n ∧ Hid (RW w bc f (.slice pv mv cv) ys wr ∧ ys ++ wR f b (xs.drop i) = wt xs f ∧ ys.length ≤ 2 * i)) (fun _ _ s9 _ => n - (intOf s9).toNat)
  case atStart => exact ⟨0, 0, 0, b0, none, [], rfl, rfl, rfl, Nat.zero_le _, ⟨HR0.out, by simpa using HW.out, by simp⟩⟩
  case round =>
    clear HR0
    obtain ⟨i, mv, cv, b, pv, ys, rfl, rfl, rfl, hin, HK⟩ := hrel
    have hi0 : (0 : Int) ≤ (i : Int) := by omega
    by_cases hlt : i < n
    · have hlt' : (i : Int) < (n : Int) := by omega
      obtain ⟨x, hx⟩ : ∃ x, xs[i]? = some x := ⟨_, List.getElem?_eq_getElem (by rw [HN.out]; exact hlt)⟩
      have HXi : Hid (xs[i]? = some x) := hx
      have HD : Hid (xs.drop i = x :: xs.drop (i + 1)) := by
        obtain ⟨h1, h2⟩ := List.getElem?_eq_some_iff.1 hx
        exact (List.drop_eq_getElem_cons h1).trans (by rw [h2])
      obtain ⟨gx, ox, rfl, hgx⟩ := HX.out.at hx
      have HO : Hid (∀ v ys wx, RW w bc f v ys wx → RO w bc f v ys gx (ox + i * 3) x wx) := fun v ys wx h => h.opened HX.out HXi.out
      clear hx
      have HW2 : Hid (ys ++ ((if b = false ∧ lt x f.c f.r = false then [f] else []) ++ ((if at' x f.c f.r = true then [] else [x]) ++ wR f (b || !lt x f.c f.r) (xs.drop (i + 1)))) = wt xs f) := by
        have := HK.out.2.1
        rw [HD.out, wR] at this
        exact this
      go_wp2_with fail
      go_cut [29] (fun s29 wx => s29 = .bool (!b && !lt x f.c f.r) ∧ RW w bc f (.slice pv mv cv) ys wx)
      case first =>
        cases b with
        | true =>
          go_quiet (fail)
          go_wp2_with fail
          go_meet
          case rel => exact ⟨rfl, HK.out.1.next (drewN_below _ _)⟩
        | false =>
          have h0d := HO.out _ _ _ (HK.out.1.next (Below.refl _ _).drew)
          obtain ⟨lb, hlb⟩ : ∃ lb, lt x f.c f.r = lb := ⟨_, rfl⟩
          have HLj : Hid (∀ wx, Calls Tryz.prog 24 #[C x.c x.r, C f.c f.r] wx fun e w' => e = .returned (.bool lb) ∧ Below wx.heap.size wx w') := fun wx => by have := HA.out x.c x.r f.c f.r wx; rw [show decide (cmpC x.c x.r f.c f.r < 0) = lb from hlb] at this; exact this
          have HLB : Hid (lt x f.c f.r = lb) := hlb
          clear hlb HW2
          go_region_held3 (fun wx => RO w bc f (.slice pv mv cv) ys gx (ox + i * 3) x wx) (first | exact h0d | assumption | exact HO.out _ _ _ ((ro_rw (by assumption)).next (by assumption))) (first | (go_at_call 24; refine (HLj.out _).mono ?_; rintro e w1 ⟨rfl, hb1⟩; have hw1 := (ro_rw (by assumption)).next hb1))
          all_goals
            go_wp2_with fail
            go_meet
            case rel => exact ⟨by rw [HLB.out]; simp, hw1⟩
      case rest =>
      obtain ⟨rfl, hw⟩ := hcut
      have HWc : Hid (RW w bc f (.slice pv mv cv) ys wc ∧ ys.length ≤ 2 * i) := ⟨hw, HK.out.2.2⟩
      clear hw HK
      go_upto_if 29 with fail
      go_cut [7, 8] (fun s7 s8 wx => ∃ (b' : Bool) (p' : Option Addr) (m' c' : Nat) (ys' : List Fl), s8 = .bool b' ∧ s7 = .slice p' m' c' ∧ RW w bc f (.slice p' m' c') ys' wx ∧ Hid (ys'.length ≤ 2 * i + 1 ∧ ys' ++ ((if at' x f.c f.r = true then [] else [x]) ++ wR f b' (xs.drop (i + 1))) = wt xs f))
      case first =>
        cases hb : (!b && !lt x f.c f.r) with
        | false =>
          have HE : Hid (ys ++ ((if at' x f.c f.r = true then [] else [x]) ++ wR f b (xs.drop (i + 1))) = wt xs f) := by
            have := HW2.out
            unfold Hid
            cases b with
            | true => simpa using this
            | false =>
              have hl : lt x f.c f.r = true := by simpa using hb
              rw [hl] at this
              simpa using this
          clear hb HW2
          go_wp2_with fail
          go_meet
          case rel => exact ⟨b, pv, mv, cv, ys, rfl, rfl, HWc.out.1, ⟨by have := HWc.out.2; omega, HE.out⟩⟩
        | true =>
          have HE : Hid (ys ++ [f] ++ ((if at' x f.c f.r = true then [] else [x]) ++ wR f true (xs.drop (i + 1))) = wt xs f) := by
            have := HW2.out
            unfold Hid
            simp at hb
            rw [hb.1, hb.2] at this
            simpa using this
          obtain ⟨y0, y1⟩ := cells2 HWc.out.1.box
          obtain ⟨p', m', c', w2, hr, hr2⟩ := HWc.out.1.one (by have := HWc.out.2; omega) f
          have HR : Hid ((Builtin.append_ #[22, 22] 22 #[.slice pv mv cv, .slice (some ⟨wc.heap.size, 0, none⟩) 1 1]).run Tryz.prog (wc.alloc (.cells #[.int .i64 f.c, .int .i64 f.r, .string f.s] 45)) = .ok (.slice p' m' c') w2) := hr
          have HR2 : Hid (RW w bc f (.slice p' m' c') (ys ++ [f]) w2) := hr2
          clear hb HW2 hr hr2
          go_wp2_with (first | (at_builtin; refine fm.wpList_append_eq rfl _ _ 22 rfl _ _ _ _ rfl rfl HR.out ?_))
          go_meet
          case rel => exact ⟨true, p', m', c', ys ++ [f], rfl, rfl, HR2.out, ⟨by have := HWc.out.2; simp; omega, HE.out⟩⟩
      case rest =>
      obtain ⟨b', p', m', c', ys', rfl, rfl, hw, HY⟩ := hcut
      have HWd : Hid (RW w bc f (.slice p' m' c') ys' wc) := hw
      clear hw HWc HW2
      obtain ⟨q0, q1, q2, y0, y1, -⟩ := HO.out _ _ _ HWd.out
      have e30 := fun W => neq34 x.c x.r f.c f.r W
      go_wp2_with fail
      go_cut [42] (fun s42 wx => s42 = .bool (!at' x f.c f.r) ∧ RW w bc f (.slice p' m' c') ys' wx)
      case first =>
        have HAt : Hid ((!decide (x.c = f.c) || !decide (x.r = f.r)) = !at' x f.c f.r) := by
          unfold Hid
          cases ha : at' x f.c f.r with
          | true => have := at_iff.1 ha; simp [this.1, this.2]
          | false =>
            have := at_no.1 ha
            by_cases h1 : x.c = f.c
            · have h2 : ¬ x.r = f.r := fun h => this ⟨h1, h⟩
              simp [h2]
            · simp [h1]
        go_region
        all_goals
          go_wp2_with fail
          go_meet
          case rel => exact ⟨by rw [HAt.out], HWd.out.next (Below.refl _ _).drew⟩
      case rest =>
      obtain ⟨rfl, hw⟩ := hcut
      have HWe : Hid (RW w bc f (.slice p' m' c') ys' wc) := hw
      clear hw HWd q0 q1 q2 y0 y1 e30
      cases ha : at' x f.c f.r with
      | true =>
        have HE : Hid (ys' ++ wR f b' (xs.drop (i + 1)) = wt xs f) := by have := HY.out.2; rw [ha] at this; unfold Hid; simpa using this
        clear ha
        go_wp2_with fail
        exact ⟨⟨i + 1, m', c', b', p', ys', rfl, rfl, rfl, hlt, ⟨HWe.out, HE.out, by have := HY.out.1; omega⟩⟩, by simp [intOf]; omega⟩
      | false =>
        have HE : Hid (ys' ++ [x] ++ wR f b' (xs.drop (i + 1)) = wt xs f) := by have := HY.out.2; rw [ha] at this; unfold Hid; simpa using this
        clear ha
        obtain ⟨q0, q1, q2, y0, y1, -⟩ := HO.out _ _ _ HWe.out
        obtain ⟨p2, m2, c2, w2, hr, hr2⟩ := HWe.out.one (by have := HY.out.1; omega) x
        have HR : Hid ((Builtin.append_ #[22, 22] 22 #[.slice p' m' c', .slice (some ⟨wc.heap.size, 0, none⟩) 1 1]).run Tryz.prog (wc.alloc (.cells #[.int .i64 x.c, .int .i64 x.r, .string x.s] 45)) = .ok (.slice p2 m2 c2) w2) := hr
        have HR2 : Hid (RW w bc f (.slice p2 m2 c2) (ys' ++ [x]) w2) := hr2
        clear hr hr2
        go_wp2_with (first | (at_builtin; refine fm.wpList_append_eq rfl _ _ 22 rfl _ _ _ _ rfl rfl HR.out ?_))
        exact ⟨⟨i + 1, m2, c2, b', p2, ys' ++ [x], rfl, rfl, rfl, hlt, ⟨HR2.out, HE.out, by have := HY.out.1; simp; omega⟩⟩, by simp [intOf]; omega⟩
    · have hlt' : ¬ (i : Int) < (n : Int) := by omega
      have HE : Hid (ys ++ wR f b [] = wt xs f) := by
        have := HK.out.2.1
        rw [List.drop_eq_nil_iff.2 (by rw [HN.out]; omega)] at this
        exact this
      cases b with
      | true =>
        have HE2 : Hid (FB wr (.slice pv mv cv) (wt xs f)) := by
          have := HE.out
          rw [wR] at this
          simp at this
          rw [← this]
          exact own_base HK.out.1.own (Nat.zero_le _)
        have HB : Hid (Below w.heap.size w wr) := HK.out.1.below
        clear HK HE
        go_wp2_with fail
        go_ret
        exact ⟨⟨_, rfl, HE2.out⟩, HB.out⟩
      | false =>
        obtain ⟨y0, y1⟩ := cells2 HK.out.1.box
        obtain ⟨p2, m2, c2, w2, hr, hr2⟩ := HK.out.1.one (by have := HK.out.2.2; omega) f
        have HR : Hid ((Builtin.append_ #[22, 22] 22 #[.slice pv mv cv, .slice (some ⟨wr.heap.size, 0, none⟩) 1 1]).run Tryz.prog (wr.alloc (.cells #[.int .i64 f.c, .int .i64 f.r, .string f.s] 45)) = .ok (.slice p2 m2 c2) w2) := hr
        have HE2 : Hid (FB w2 (.slice p2 m2 c2) (wt xs f) ∧ Below w.heap.size w w2) := by
          have := HE.out
          rw [wR] at this
          simp at this
          rw [← this]
          exact ⟨own_base hr2.own (Nat.zero_le _), hr2.below⟩
        clear HK HE hr hr2
        go_wp2_with (first | (at_builtin; refine fm.wpList_append_eq rfl _ _ 22 rfl _ _ _ _ rfl rfl HR.out ?_))
        go_ret
        exact ⟨⟨_, rfl, HE2.out.1⟩, HE2.out.2⟩
end Go.Proofs.YtomgjjngkffbbaaGreatDoor.ps

/- The document's Three. Conditions: as each theorem says. -/
namespace Go.Proofs.YtomgjjngkffbbaaGreatDoor.ps
open Go.RowKit
theorem wt_len (l : List Fl) (f : Fl) : (wt l f).length ≤ l.length + 1 := by
  have hp : (put f).length ≤ 1 := by
    unfold put
    split <;> simp
  induction l with
  | nil => exact hp
  | cons x l ih =>
    unfold wt
    split
    · simp only [List.length_cons]; omega
    · split
      · simp only [List.length_append, List.length_cons]; omega
      · simp only [List.length_append, List.length_cons]; omega
theorem ap_len (l d : List Fl) : (ap l d).length ≤ l.length + d.length := by
  unfold ap
  induction d generalizing l with
  | nil => exact Nat.le_refl _
  | cons f d ih =>
    rw [List.foldl_cons, List.length_cons]
    have := ih (wt l f)
    have := wt_len l f
    omega
theorem ap_snoc (l d : List Fl) (f : Fl) : ap l (d ++ [f]) = wt (ap l d) f := by
  unfold ap
  rw [List.foldl_append]
  rfl
end Go.Proofs.YtomgjjngkffbbaaGreatDoor.ps
namespace Go.Proofs.YtomgjjngkffbbaaGreatDoor.fw
open Go Go.RowKit Go.Sort Go.Maps
theorem lv_of {w : World} {p : Option Addr} {xs : List ps.Fl} (h : ps.FM w p xs) : LV w p xs := fun _ hb _ _ hx => fm_at (fm_next h hb) hx
theorem take_one {α : Type} {l : List α} {i : Nat} {x : α} (h : l[i]? = some x) : l.take (i + 1) = l.take i ++ [x] := by rw [List.take_add_one, h]; rfl
theorem kk_one {t u : Nat} (h1 : ps.kc t = ps.kc u) (h2 : ps.kr t = ps.kr u) : t = u := by
  unfold ps.kc at h1
  unfold ps.kr at h2
  omega
theorem range_one (n t : Nat) (q : Bool) : (List.range n).filter (fun u => decide (u = t) && q) = if t < n ∧ q = true then [t] else [] := by
  induction n with
  | zero => simp
  | succ n ih =>
    rw [List.range_succ, List.filter_append, ih]
    by_cases hq : q = true
    · by_cases h1 : t < n
      · rw [if_pos ⟨h1, hq⟩, if_pos ⟨by omega, hq⟩]
        have : ¬ n = t := by omega
        simp [this]
      · by_cases h2 : n = t
        · subst h2
          rw [if_neg (by omega), if_pos ⟨by omega, hq⟩]
          simp [hq]
        · rw [if_neg (by omega), if_neg (by omega)]
          simp [h2]
    · rw [if_neg (by simp [hq]), if_neg (by simp [hq])]
      simp [hq]
/-- Of one change the clashes with others. -/
def clP (f g : ps.Fl) : Bool := decide (f.c = g.c) && decide (f.r = g.r) && decide (f.s ≠ g.s)
def clF (y : List ps.Fl) (f : ps.Fl) : List (Int × Int) := (y.filter (clP f)).map fun _ => (f.c, f.r)
theorem clF_snoc (y : List ps.Fl) (f g : ps.Fl) : clF (y ++ [g]) f = clF y f ++ if clP f g = true then [(f.c, f.r)] else [] := by
  unfold clF
  rw [List.filter_append, List.map_append]
  congr 1
  by_cases h : clP f g = true <;> simp [h]
def clD (x y : List ps.Fl) : List (Int × Int) := x.flatMap (clF y)
theorem clD_snoc (x y : List ps.Fl) (f : ps.Fl) : clD (x ++ [f]) y = clD x y ++ clF y f := by
  unfold clD
  rw [List.flatMap_append]
  simp
theorem flat_sel {α : Type} (p q : Nat → Bool) (g : Nat → α) (h : Nat → List α) : ∀ l : List Nat, (∀ t ∈ l, h t = if q t = true then [g t] else []) → (l.filter p).flatMap h = (l.filter fun t => p t && q t).map g
  | [], _ => rfl
  | t :: l, hh => by
    have ih := flat_sel p q g h l fun u hu => hh u (List.mem_cons_of_mem _ hu)
    have h1 := hh t List.mem_cons_self
    by_cases hp : p t = true
    · by_cases hq : q t = true
      · rw [if_pos hq] at h1
        simp [hp, hq, h1, ih]
      · rw [if_neg hq] at h1
        simp [hp, hq, h1, ih]
    · simp [hp, ih]
theorem clF_df (s a b : List ps.Fl) (t : Nat) (ht : t < 2574) : clF (ps.df s b 2574) ⟨ps.kc t, ps.kr t, ps.txt a (ps.kc t) (ps.kr t)⟩ = if (ps.ne2 s b t && ps.ne2 a b t) = true then [(ps.kc t, ps.kr t)] else [] := by
  unfold clF ps.df
  rw [List.filter_map, List.filter_filter]
  have e : ∀ u, ((clP ⟨ps.kc t, ps.kr t, ps.txt a (ps.kc t) (ps.kr t)⟩ ∘ fun u => (⟨ps.kc u, ps.kr u, ps.txt b (ps.kc u) (ps.kr u)⟩ : ps.Fl)) u && ps.ne2 s b u) = (decide (u = t) && (ps.ne2 s b t && ps.ne2 a b t)) := by
    intro u
    by_cases hu : u = t
    · subst hu
      simp only [Function.comp, clP, ps.ne2]
      simp [Bool.and_comm]
    · have : clP ⟨ps.kc t, ps.kr t, ps.txt a (ps.kc t) (ps.kr t)⟩ ⟨ps.kc u, ps.kr u, ps.txt b (ps.kc u) (ps.kr u)⟩ = false := by
        unfold clP
        by_cases h1 : ps.kc t = ps.kc u
        · by_cases h2 : ps.kr t = ps.kr u
          · exact absurd (kk_one h1 h2).symm hu
          · simp [h2]
        · simp [h1]
      simp only [Function.comp, this]
      simp [hu]
  rw [show (fun u => ((clP ⟨ps.kc t, ps.kr t, ps.txt a (ps.kc t) (ps.kr t)⟩ ∘ fun u => (⟨ps.kc u, ps.kr u, ps.txt b (ps.kc u) (ps.kr u)⟩ : ps.Fl)) u && ps.ne2 s b u)) = fun u => (decide (u = t) && (ps.ne2 s b t && ps.ne2 a b t)) from funext e, range_one]
  by_cases hq : (ps.ne2 s b t && ps.ne2 a b t) = true
  · rw [if_pos ⟨ht, hq⟩, if_pos hq]; rfl
  · rw [if_neg (fun h => hq h.2), if_neg hq]; rfl
theorem clD_is (s a b : List ps.Fl) : clD (ps.df s a 2574) (ps.df s b 2574) = boT s a b := by
  have h := flat_sel (ps.ne2 s a) (fun t => ps.ne2 s b t && ps.ne2 a b t) (fun t => (ps.kc t, ps.kr t)) (fun t => clF (ps.df s b 2574) ⟨ps.kc t, ps.kr t, ps.txt a (ps.kc t) (ps.kr t)⟩) (List.range 2574) fun t ht => clF_df s a b t (List.mem_range.1 ht)
  unfold clD boT
  rw [show ps.bo s a b = fun t => ps.ne2 s a t && (ps.ne2 s b t && ps.ne2 a b t) from funext fun t => by unfold ps.bo; rw [Bool.and_assoc], ← h]
  generalize clF (ps.df s b 2574) = F
  unfold ps.df
  rw [List.flatMap_map]
theorem clF_len (y : List ps.Fl) (f : ps.Fl) : (clF y f).length ≤ y.length := by
  unfold clF
  rw [List.length_map]
  exact List.length_filter_le _ _
end Go.Proofs.YtomgjjngkffbbaaGreatDoor.fw

/- Package merge: Three. Conditions: what the package variables hold. -/
namespace Go.Proofs.YtomgjjngkffbbaaGreatDoor.fw
open Go Go.RowKit Go.Sort Go.Maps
theorem str_no {a b : ByteArray} (h : a ≠ b) : (a.toList == b.toList) = false := by
  rw [beq_eq_false_iff_ne]
  intro e
  rw [ByteArray.toList_eq, ByteArray.toList_eq] at e
  exact h (ByteArray.ext (Array.toList_inj.1 e))
theorem str_yes (a : ByteArray) : (a.toList == a.toList) = true := by simp
set_option maxHeartbeats 4000000 in
/-- What a cell comes to have of what two made. -/
theorem both_any (c r : Int) (s0 s1 s2 : ByteArray) (w : World) :
    Calls Tryz.prog 34 #[.agg #[.string s0, .string s1, .string s2]] w fun e w' => e = .returned (.tuple #[.string (bth ⟨c, r, s0, s1, s2⟩), .bool (clB ⟨c, r, s0, s1, s2⟩)]) ∧ Bw w w' := by
  have HB : Hid (Bw w (w.alloc (.cells #[.string s0, .string s1, .string s2] 63)) ∧ (w.alloc (.cells #[.string s0, .string s1, .string s2] 63)).heap[w.heap.size]? = some (.cells #[.string s0, .string s1, .string s2] 63 (0, 0))) := ⟨Bw.al w _, heap_alloc_new w _⟩
  go_enter Tryz.func34, Tryz.ntmps34
  go_upto_region 1 with fail
  generalize w.alloc (.cells #[.string s0, .string s1, .string s2] 63) = w1 at *
  generalize w.heap.size = g at *
  obtain ⟨r0, r1, r2⟩ := cells3z HB.out.2
  go_cut [4, 5, 6] (fun s4 s5 s6 wx => s4 = .string s0 ∧ s5 = .string s1 ∧ s6 = .string s2 ∧ wx = w1.drew)
  case first =>
    go_region
    all_goals
      go_wp2_with fail
      go_meet
      case rel => exact ⟨rfl, rfl, rfl, rfl⟩
  case rest =>
  obtain ⟨rfl, rfl, rfl, rfl⟩ := hcut
  have HD : Hid (Bw w w1.drew) := HB.out.1.drew
  clear r0 r1 r2 HB
  apply_assumption
  by_cases h1 : s1 = s0
  · subst h1
    have q1 := str_yes s1
    go_wp2_with fail
    exact bodyPost_ret (v := .tuple #[.string s2, .bool false]) (by simp [results, Tryz.results34, go_sem]) rfl ⟨by simp [bth, clB], HD.out⟩
  · have q1 := str_no h1
    by_cases h2 : s2 = s0
    · subst h2
      have q2 := str_yes s2
      go_wp2_with fail
      exact bodyPost_ret (v := .tuple #[.string s1, .bool false]) (by simp [results, Tryz.results34, go_sem]) rfl ⟨by simp [bth, clB, h1], HD.out⟩
    · have q2 := str_no h2
      by_cases h3 : s2 = s1
      · subst h3
        have q3 := str_yes s2
        go_wp2_with fail
        exact bodyPost_ret (v := .tuple #[.string s2, .bool false]) (by simp [results, Tryz.results34, go_sem]) rfl ⟨by simp [bth, clB, h1], HD.out⟩
      · have q3 := str_no h3
        go_wp2_with fail
        exact bodyPost_ret (v := .tuple #[.string s1, .bool true]) (by simp [results, Tryz.results34, go_sem]) rfl ⟨by simp [bth, clB, h1, h2, h3], HD.out⟩
/-- The first fault of Three. -/
def ThT (L : List Sh) (n : Nat) (t : Int) : Prop := (ShT L t ∧ t ≠ 0) ∨ (ShT L 0 ∧ 200 < n ∧ t = 4) ∨ (ShT L 0 ∧ n ≤ 200 ∧ t = 0)
/-- What Three answers. -/
def ThO (w : World) (s a b : List ps.Fl) (t : Int) (e : Ending) (w' : World) : Prop :=
  (t ≠ 0 ∧ e = .returned (.tuple #[.slice none 0 0, .slice none 0 0, ps.errV t]) ∧ Bw w w') ∨ (t = 0 ∧ ∃ v u, e = .returned (.tuple #[v, u, .nilIface]) ∧ RV fL w v (ps.th s a b) w' ∧ RV cL w u (boT s a b) w')
theorem shT_all {p q r : Option Addr} {cp cq cr : Nat} {s a b : List ps.Fl} (h : ShT [⟨p, cp, s⟩, ⟨q, cq, a⟩, ⟨r, cr, b⟩] 0) : ps.Told s 0 ∧ ps.Told a 0 ∧ ps.Told b 0 := by
  rcases h with ⟨-, h⟩ | ⟨h1, ⟨-, h⟩ | ⟨h2, ⟨-, h⟩ | ⟨h3, -⟩⟩⟩
  · exact absurd rfl h
  · exact absurd rfl h
  · exact absurd rfl h
  · exact ⟨h1, h2, h3⟩
set_option maxRecDepth 1000000 in
set_option maxHeartbeats 8000000 in
theorem three_any (p q r : Option Addr) (cp cq cr : Nat) (s a b : List ps.Fl) (w : World) (hs : ps.FM w p s) (ha : ps.FM w q a) (hb : ps.FM w r b) (hE : ps.EnvP w) :
    Calls Tryz.prog 16 #[.slice p s.length cp, .slice q a.length cq, .slice r b.length cr] w fun e w' => ∃ t, ThT [⟨p, cp, s⟩, ⟨q, cq, a⟩, ⟨r, cr, b⟩] (ps.th s a b).length t ∧ ThO w s a b t e w' := by
  have hb0 : Bw w (w.alloc (.cells #[.slice p s.length cp, .slice q a.length cq, .slice r b.length cr] 22)) := Bw.al w _
  have HL : Hid (Calls Tryz.prog 27 #[.slice (some ⟨w.heap.size, 0, none⟩) 3 3] (w.alloc (.cells #[.slice p s.length cp, .slice q a.length cq, .slice r b.length cr] 22)) fun e w' => ∃ (t : Int) (bo : Option Nat), e = .returned (.tuple #[.map bo, ps.errV t]) ∧ ShT [⟨p, cp, s⟩, ⟨q, cq, a⟩, ⟨r, cr, b⟩] t ∧ LyR (w.alloc (.cells #[.slice p s.length cp, .slice q a.length cq, .slice r b.length cr] 22)) [⟨p, cp, s⟩, ⟨q, cq, a⟩, ⟨r, cr, b⟩] t bo w') := by
    refine (lay_any w.heap.size 3 [⟨p, cp, s⟩, ⟨q, cq, a⟩, ⟨r, cr, b⟩] _ (by simp) (by simp) (fun i s' hs' => ?_) (hE.below hb0 hE.size)).mono fun e w' ⟨t, h1, h2⟩ => by
      obtain ⟨bo, h3, h4⟩ := h2.form
      exact ⟨t, bo, h3, h1, h4⟩
    have hB := heap_alloc_new w (.cells #[.slice p s.length cp, .slice q a.length cq, .slice r b.length cr] 22)
    obtain ⟨q0, q1, q2⟩ := cells3z hB
    match i, hs' with
    | 0, hs' => cases hs'; exact ⟨q0, hs.below hb0⟩
    | 1, hs' => cases hs'; exact ⟨q1, ha.below hb0⟩
    | 2, hs' => cases hs'; exact ⟨q2, hb.below hb0⟩
  have HB0 : Hid (Bw w (w.alloc (.cells #[.slice p s.length cp, .slice q a.length cq, .slice r b.length cr] 22))) := hb0
  obtain ⟨ns, hns⟩ : ∃ n, s.length = n := ⟨_, rfl⟩
  obtain ⟨na, hna⟩ : ∃ n, a.length = n := ⟨_, rfl⟩
  obtain ⟨nb, hnb⟩ : ∃ n, b.length = n := ⟨_, rfl⟩
  rw [hns, hna, hnb] at HL HB0 ⊢
  clear hb0 hs ha hb hE hns hna hnb
  go_enter Tryz.func16, Tryz.ntmps16
  go_upto_region 2 with (first | (go_at_call 27; refine HL.out.mono ?_; rintro e w1 ⟨t, bo, rfl, ht, hly⟩))
  have HT : Hid (ShT [⟨p, cp, s⟩, ⟨q, cq, a⟩, ⟨r, cr, b⟩] t) := ht
  by_cases h0 : t = 0
  · subst h0
    rcases hly with ⟨h1, -⟩ | ⟨-, rfl, X, hX⟩
    · exact absurd rfl h1
    rw [ps.errV_zero]
    have hsz : (w.alloc (.cells #[.slice p ns cp, .slice q na cq, .slice r nb cr] 22)).heap.size = w.heap.size + 1 := by simp
    obtain ⟨Y, hp, hs⟩ := hX.tb.sorted
    have hMY : MT w1 (w.alloc (.cells #[.slice p ns cp, .slice q na cq, .slice r nb cr] 22)).heap.size Y := hX.mt.perm hp
    have hTB : TB Y (xsAt [⟨p, cp, s⟩, ⟨q, cq, a⟩, ⟨r, cr, b⟩]) := by
      have := hX.tb.perm hp
      rw [AL_all] at this
      exact this
    have hlY : Y.length ≤ 1000 := by rw [← hp.length_eq]; have := srt_few hX (by simp); omega
    have HTB : Hid (TB Y (xsAt [⟨p, cp, s⟩, ⟨q, cq, a⟩, ⟨r, cr, b⟩]) ∧ Y.Pairwise ltT ∧ Y.length ≤ 1000) := ⟨hTB, hs, hlY⟩
    have HIS : Hid (thY Y = ps.th s a b ∧ clY Y = boT s a b) := by
      obtain ⟨t1, t2, t3⟩ := shT_all ht
      exact ⟨thY_is hs hTB t1.fine t2.fine t3.fine, clY_is hs hTB⟩
    have HB1 : Hid (Bw w w1) := HB0.out.tr hX.below
    obtain ⟨bt, hbt⟩ : ∃ bt, (w.alloc (.cells #[.slice p ns cp, .slice q na cq, .slice r nb cr] 22)).heap.size = bt := ⟨_, rfl⟩
    rw [hbt] at hMY ⊢
    have HC : Hid (Calls Tryz.prog 28 #[.map (some bt)] w1 fun e w' => (∃ p c, e = .returned (.slice p Y.length c) ∧ CM w' p Y) ∧ Bw w1 w') := cells_any bt Y hlY hs w1 hMY
    have HMY : Hid (MT w1 bt Y) := hMY
    clear hX hp hMY hTB hlY hs hsz hbt HL HB0 ht
    go_upto_block 0 with (first | (go_at_call 28; refine HC.out.mono ?_; rintro e w2 ⟨⟨py, cy, rfl, hcm⟩, hb2⟩))
    have HB2 : Hid (Bw w w2) := HB1.out.tr hb2
    have HM2 : Hid (MT w2 bt Y ∧ CM w2 py Y) := ⟨HMY.out.at (hb2.block _ HMY.out.lt), hcm⟩
    obtain ⟨n, hn⟩ : ∃ n, Y.length = n := ⟨_, rfl⟩
    have HN : Hid (Y.length = n) := hn
    have hn9 : (n : Int) ≤ 1000 := by have := HTB.out.2.2; omega
    rw [hn]
    clear hb2 hcm HC HMY HB1 hn
    go_cut [11, 12] (fun s11 s12 wx => RV fL w2 s11 (thY Y) wx ∧ RV cL w2 s12 (clY Y) wx)
    case first =>
      go_wp2_with fail
      go_loopw [11, 12, 31] (fun s11 s12 s31 wr => ∃ i : Nat, s31 = .int .i64 (i : Int) ∧ i ≤ n ∧ Hid (RV fL w2 s11 (thY (Y.take i)) wr ∧ RV cL w2 s12 (clY (Y.take i)) wr)) (fun _ _ s31 _ => n - (intOf s31).toNat)
      case atStart => exact ⟨0, rfl, Nat.zero_le _, RV.nil fL w2, RV.nil cL w2⟩
      case round =>
        obtain ⟨i, rfl, hi, HV⟩ := hrel
        have hi0 : (0 : Int) ≤ (i : Int) := by omega
        by_cases hlt : i < n
        · have hlt' : (i : Int) < (n : Int) := by omega
          obtain ⟨x, hx⟩ : ∃ x, Y[i]? = some x := ⟨_, List.getElem?_eq_getElem (by rw [HN.out]; exact hlt)⟩
          have HX : Hid (Y[i]? = some x) := hx
          obtain ⟨gy, oy, hpy, -, y0, y1⟩ := (HM2.out.2.below HV.out.1.below).at hx
          subst hpy
          have HKL : Hid (keyOf Tryz.prog 43 (.agg #[.int .i64 x.c, .int .i64 x.r]) = some (klT ⟨x.c, x.r, nul, nul, nul⟩)) := by
            have hg := HTB.out.1.grid x (List.mem_of_getElem? hx)
            exact klT_of (x := ⟨x.c, x.r, nul, nul, nul⟩) (wf_kc (by dsimp only; omega)) (wf_kc (by dsimp only; omega))
          have HOf : Hid (Tr.of Y x.c x.r = x) := Tr.of_mem HTB.out.1.one (List.mem_of_getElem? hx)
          clear hx
          go_upto_region 9 with fail
          have HV1 : Hid (RV fL w2 u11 (thY (Y.take i)) (wr.alloc (.cells #[.int .i64 x.c, .int .i64 x.r] 43)) ∧ RV cL w2 u12 (clY (Y.take i)) (wr.alloc (.cells #[.int .i64 x.c, .int .i64 x.r] 43)) ∧ (wr.alloc (.cells #[.int .i64 x.c, .int .i64 x.r] 43)).heap[wr.heap.size]? = some (.cells #[.int .i64 x.c, .int .i64 x.r] 43 (0, 0))) := ⟨HV.out.1.next (Bw.al wr _), HV.out.2.next (Bw.al wr _), heap_alloc_new wr _⟩
          generalize wr.alloc (.cells #[.int .i64 x.c, .int .i64 x.r] 43) = W1 at *
          generalize wr.heap.size = bx at *
          clear y0 y1
          obtain ⟨c0, c1⟩ := cells2w HV1.out.2.2
          obtain ⟨es, hown, hlk⟩ := HM2.out.1.at (HV1.out.1.below.block _ HM2.out.1.lt)
          have hlook := look_run hown hlk HTB.out.1.one HKL.out
          rw [HOf.out] at hlook
          clear hown hlk
          have HBT : Hid (Calls Tryz.prog 34 #[.agg #[.string x.s0, .string x.s1, .string x.s2]] W1 fun e w' => e = .returned (.tuple #[.string (bth x), .bool (clB x)]) ∧ Bw W1 w') := both_any x.c x.r x.s0 x.s1 x.s2 W1
          go_upto_region 10 with (first | (go_at_call 34; refine HBT.out.mono ?_; rintro e W2 ⟨rfl, hbt2⟩))
          have HV2 : Hid (RV fL w2 u11 (thY (Y.take i)) W2 ∧ RV cL w2 u12 (clY (Y.take i)) W2 ∧ W2.heap[bx]? = some (.cells #[.int .i64 x.c, .int .i64 x.r] 43 (0, 0))) := ⟨HV1.out.1.next hbt2, HV1.out.2.1.next hbt2, (hbt2.block _ (fm.lt_blk HV1.out.2.2)).trans HV1.out.2.2⟩
          clear c0 c1 hlook hbt2 HV1 HBT
          have HD : Hid (thY (Y.take (i + 1)) = thY (Y.take i) ++ if (bth x).size ≠ 0 then [⟨x.c, x.r, bth x⟩] else []) := by
            show _ = _
            rw [List.take_add_one, HX.out]
            exact thY_snoc _ _
          have HD2 : Hid (clY (Y.take (i + 1)) = clY (Y.take i) ++ if clB x = true then [cz x] else []) := by
            show _ = _
            rw [List.take_add_one, HX.out]
            exact clY_snoc _ _
          have hlen : (thY (Y.take i)).length ≤ 10000 := by
            have h1 := thY_len (Y.take i)
            rw [List.length_take] at h1
            omega
          have hlen2 : (clY (Y.take i)).length ≤ 10000 := by
            have h1 := clY_len (Y.take i)
            rw [List.length_take] at h1
            omega
          obtain ⟨c0, c1⟩ := cells2w HV2.out.2.2
          by_cases hne : (bth x).size = 0
          · have hD' := HD.out
            rw [if_neg (by simp [hne]), List.append_nil] at hD'
            have ebt : bth x = nul := ps.size_nul hne
            rw [ebt]
            cases hcl : clB x with
            | false =>
              have HE : Hid (RV fL w2 u11 (thY (Y.take (i + 1))) W2 ∧ RV cL w2 u12 (clY (Y.take (i + 1))) W2) := by
                refine ⟨by rw [hD']; exact HV2.out.1, ?_⟩
                rw [HD2.out, if_neg (by simp [hcl]), List.append_nil]
                exact HV2.out.2.1
              clear hD' ebt hne hlen hlen2
              go_wp2_with fail
              exact ⟨⟨i + 1, by simp, hlt, HE.out⟩, by simp [intOf]; omega⟩
            | true =>
              obtain ⟨g, k, w4, hr, hv, hv2⟩ := RV.cell2 HV2.out.1 HV2.out.2.1 hlen2 x.c x.r
              have HR4 : Hid ((Builtin.append_ #[33, 33] 33 #[u12, .slice (some ⟨W2.heap.size, 0, none⟩) 1 1]).run Tryz.prog (W2.alloc (.cells #[.int .i64 x.c, .int .i64 x.r] 43)) = .ok (.slice (some ⟨g, 0, none⟩) ((clY (Y.take i)).length + 1) k) w4) := hr
              have HE : Hid (RV fL w2 u11 (thY (Y.take (i + 1))) w4 ∧ RV cL w2 (.slice (some ⟨g, 0, none⟩) ((clY (Y.take i)).length + 1) k) (clY (Y.take (i + 1))) w4) := by
                refine ⟨by rw [hD']; exact hv, ?_⟩
                rw [HD2.out, if_pos hcl]
                exact hv2
              generalize (clY (Y.take i)).length + 1 = m at HR4 HE
              clear hr hv hv2 hlen hlen2 hD' ebt hne HD HD2
              go_wp2_with (first | (at_builtin; refine wpList_append_eq rfl _ _ 33 33 rfl _ _ _ _ rfl rfl HR4.out ?_))
              exact ⟨⟨i + 1, by simp, hlt, HE.out⟩, by simp [intOf]; omega⟩
          · have hemp : (bth x).toList.isEmpty = false := by
              rw [Bool.eq_false_iff]
              exact fun e => hne (ps.emp_yes e)
            obtain ⟨g, k, w4, hr, hv, hv2, hkeep⟩ := RV.fill2 HV2.out.1 HV2.out.2.1 hlen x.c x.r (bth x)
            have HR4 : Hid ((Builtin.append_ #[22, 22] 22 #[u11, .slice (some ⟨W2.heap.size, 0, none⟩) 1 1]).run Tryz.prog (W2.alloc (.cells #[.int .i64 x.c, .int .i64 x.r, .string (bth x)] 45)) = .ok (.slice (some ⟨g, 0, none⟩) ((thY (Y.take i)).length + 1) k) w4) := hr
            have hb4 := hkeep bx _ _ (by decide) HV2.out.2.2
            have hv' : RV fL w2 (.slice (some ⟨g, 0, none⟩) ((thY (Y.take i)).length + 1) k) (thY (Y.take (i + 1))) w4 := by
              rw [HD.out, if_pos hne]
              exact hv
            obtain ⟨d0, d1⟩ := cells2w hb4
            generalize (thY (Y.take i)).length + 1 = m at HR4 hv'
            generalize bth x = bs at *
            clear hr hv hkeep hb4 hlen hne HD
            cases hcl : clB x with
            | false =>
              have HE : Hid (RV fL w2 (.slice (some ⟨g, 0, none⟩) m k) (thY (Y.take (i + 1))) w4 ∧ RV cL w2 u12 (clY (Y.take (i + 1))) w4) := by
                refine ⟨hv', ?_⟩
                rw [HD2.out, if_neg (by simp [hcl]), List.append_nil]
                exact hv2
              clear hv' hv2 hlen2
              go_wp2_with (first | (at_builtin; refine wpList_append_eq rfl _ _ 22 22 rfl _ _ _ _ rfl rfl HR4.out ?_))
              exact ⟨⟨i + 1, by simp, hlt, HE.out⟩, by simp [intOf]; omega⟩
            | true =>
              obtain ⟨g2, k2, w5, hr, hv5, hv52⟩ := RV.cell2 hv' hv2 hlen2 x.c x.r
              have HR5 : Hid ((Builtin.append_ #[33, 33] 33 #[u12, .slice (some ⟨w4.heap.size, 0, none⟩) 1 1]).run Tryz.prog (w4.alloc (.cells #[.int .i64 x.c, .int .i64 x.r] 43)) = .ok (.slice (some ⟨g2, 0, none⟩) ((clY (Y.take i)).length + 1) k2) w5) := hr
              have HE : Hid (RV fL w2 (.slice (some ⟨g, 0, none⟩) m k) (thY (Y.take (i + 1))) w5 ∧ RV cL w2 (.slice (some ⟨g2, 0, none⟩) ((clY (Y.take i)).length + 1) k2) (clY (Y.take (i + 1))) w5) := by
                refine ⟨hv5, ?_⟩
                rw [HD2.out, if_pos hcl]
                exact hv52
              generalize (clY (Y.take i)).length + 1 = m2 at HR5 HE
              clear hr hv' hv2 hv5 hv52 hlen2 HD2
              go_upto_region 12 with (first | (at_builtin; refine wpList_append_eq rfl _ _ 22 22 rfl _ _ _ _ rfl rfl HR4.out ?_))
              go_wp2_with (first | (at_builtin; refine wpList_append_eq rfl _ _ 33 33 rfl _ _ _ _ rfl rfl HR5.out ?_))
              exact ⟨⟨i + 1, by simp, hlt, HE.out⟩, by simp [intOf]; omega⟩
        · have hlt' : ¬ (i : Int) < (n : Int) := by omega
          obtain rfl : i = n := by omega
          have HE : Hid (RV fL w2 u11 (thY Y) wr ∧ RV cL w2 u12 (clY Y) wr) := by
            have := HV.out
            rw [List.take_of_length_le (by rw [HN.out]; exact Nat.le_refl _)] at this
            exact this
          go_wp2_with fail
          go_meet
          case rel => exact HE.out
    case rest =>
    have HE : Hid (RV fL w u11 (ps.th s a b) wc ∧ RV cL w u12 (boT s a b) wc) := by
      have h1 := hcut.1.lower HB2.out
      have h2 := hcut.2.lower HB2.out
      rw [HIS.out.1] at h1
      rw [HIS.out.2] at h2
      exact ⟨h1, h2⟩
    obtain ⟨pv, cv, ev, -⟩ := HE.out.1.form
    subst ev
    clear hcut
    apply_assumption
    obtain ⟨m, hm⟩ : ∃ m, (ps.th s a b).length = m := ⟨_, rfl⟩
    have HM : Hid ((ps.th s a b).length = m) := hm
    rw [hm] at HE ⊢
    clear hm
    by_cases h200 : 200 < m
    · have h2' : (200 : Int) < (m : Int) := by omega
      go_wp2_with fail
      exact bodyPost_ret (v := .tuple #[.slice none 0 0, .slice none 0 0, .iface 67 (.int .i64 4)]) (by simp [results, Tryz.results16, go_sem]) rfl ⟨4, .inr (.inl ⟨HT.out, by rw [HM.out]; exact h200, rfl⟩), .inl ⟨by decide, by rw [ps.errV_some (by decide)], HE.out.1.below⟩⟩
    · have h2' : ¬ (200 : Int) < (m : Int) := by omega
      go_wp2_with fail
      exact bodyPost_ret (v := .tuple #[.slice pv m cv, u12, .nilIface]) (by simp [results, Tryz.results16, go_sem]) rfl ⟨0, .inr (.inr ⟨HT.out, by rw [HM.out]; omega, rfl⟩), .inr ⟨rfl, _, _, rfl, HE.out⟩⟩
  · rcases hly with ⟨-, h1⟩ | ⟨h1, -⟩
    · have HB1 : Hid (Bw w w1) := HB0.out.tr h1
      have HN2 : Hid (t ≠ 0) := h0
      rw [ps.errV_some h0]
      clear h0 h1 HL HB0 ht
      go_wp2_with fail
      exact bodyPost_ret (v := .tuple #[.slice none 0 0, .slice none 0 0, .iface 67 (.int .i64 t)]) (by simp [results, Tryz.results16, go_sem]) rfl ⟨t, .inl ⟨HT.out, HN2.out⟩, .inl ⟨HN2.out, by rw [ps.errV_some HN2.out], HB1.out⟩⟩
    · exact absurd h1 h0
end Go.Proofs.YtomgjjngkffbbaaGreatDoor.fw

/- The document's Three, walked. Conditions: as each theorem says. -/
namespace Go.Proofs.YtomgjjngkffbbaaGreatDoor.fw
open Go Go.RowKit Go.Sort Go.Maps
/-- The cells of an element of a list. -/
abbrev YE (w : World) (g o : Nat) (f : ps.Fl) (wx : World) : Prop := wx.cell? ⟨g, o, none⟩ = some (.int .i64 f.c) ∧ wx.cell? ⟨g, o + 1, none⟩ = some (.int .i64 f.r) ∧ wx.cell? ⟨g, o + 2, none⟩ = some (.string f.s) ∧ Bw w wx
theorem rdiff_fm (p q : Option Addr) (cp cq : Nat) (a b : List ps.Fl) (w : World) (ha : ps.FM w p a) (hb : ps.FM w q b) (la : a.length ≤ 3000) (lb : b.length ≤ 3000) :
    Calls Tryz.prog 10 #[.slice p a.length cp, .slice q b.length cq] w fun e w' => ∃ p' c', e = .returned (.slice p' (ps.df a b 2574).length c') ∧ FC w' p' c' (ps.df a b 2574) ∧ Bw w w' :=
  (rdiff_any p q cp cq a b w (lv_of ha) (lv_of hb) la lb).mono fun e w' ⟨v, h1, h2⟩ => by
    obtain ⟨p', c', rfl, hf⟩ := h2.fc
    exact ⟨p', c', h1, hf, h2.below⟩
theorem rwith_fm (p : Option Addr) (c : Nat) (xs : List ps.Fl) (f : ps.Fl) (w : World) (hx : ps.FM w p xs) (hl : xs.length ≤ 3000) (hs : ps.Srt xs) :
    Calls Tryz.prog 30 #[.slice p xs.length c, .agg #[.int .i64 f.c, .int .i64 f.r], .string f.s] w fun e w' => ∃ p' c', e = .returned (.slice p' (ps.wt xs f).length c') ∧ ps.FM w' p' (ps.wt xs f) ∧ Bw w w' :=
  (ps.rwith_any p c xs f w hx hl hs).mono fun e w' ⟨⟨v, h1, h2⟩, h3⟩ => by
    obtain ⟨p', c', rfl, hm⟩ := h2.shape
    exact ⟨p', c', h1, hm, h3⟩
theorem rwith_fb (p : Option Addr) (c : Nat) (xs : List ps.Fl) (f : ps.Fl) (w : World) (hx : ps.FM w p xs) (hl : xs.length ≤ 3000) (hs : ps.Srt xs) :
    Calls Tryz.prog 30 #[.slice p xs.length c, .agg #[.int .i64 f.c, .int .i64 f.r], .string f.s] w fun e w' => ∃ p' c', e = .returned (.slice p' (ps.wt xs f).length c') ∧ ps.FB w' (.slice p' (ps.wt xs f).length c') (ps.wt xs f) ∧ Bw w w' :=
  (ps.rwith_any p c xs f w hx hl hs).mono fun e w' ⟨⟨v, h1, h2⟩, h3⟩ => by
    obtain ⟨p', c', rfl, hm⟩ := h2.shape
    exact ⟨p', c', h1, h2, h3⟩
/-- A list that was there, or that is one's own. -/
def LL (w : World) (p : Option Addr) (n c : Nat) (xs : List ps.Fl) (wx : World) : Prop := n = xs.length ∧ (ps.FM w p xs ∨ ps.FB wx (.slice p n c) xs)
theorem LL.fm {w : World} {p : Option Addr} {n c : Nat} {xs : List ps.Fl} {wx : World} (h : LL w p n c xs wx) (hb : Bw w wx) : ps.FM wx p xs := by
  rcases h.2 with h | h
  · exact fm_next h hb
  · obtain ⟨p', c', e, hm⟩ := h.shape
    injection e with e1 e2 e3
    subst e1
    exact hm
theorem LL.next {w : World} {p : Option Addr} {n c : Nat} {xs : List ps.Fl} {wx wy : World} (h : LL w p n c xs wx) (hb : Bw wx wy) : LL w p n c xs wy := ⟨h.1, h.2.imp id fun h => h.below hb⟩
theorem RV.cell3 {w : World} {u : Value} {ys : List (Int × Int)} {wx : World} (h2 : RV cL w u ys wx) (hl : ys.length ≤ 10000) (c r : Int) :
    ∃ g k w', (Builtin.append_ #[33, 33] 33 #[u, .slice (some ⟨wx.heap.size, 0, none⟩) 1 1]).run Tryz.prog (wx.alloc (.cells #[.int .i64 c, .int .i64 r] 43)) = .ok (.slice (some ⟨g, 0, none⟩) (ys.length + 1) k) w' ∧ RV cL w (.slice (some ⟨g, 0, none⟩) (ys.length + 1) k) (ys ++ [(c, r)]) w' ∧ ∀ (w0 : World) (p : Option Addr) (n c' : Nat) (xs : List ps.Fl), LL w0 p n c' xs wx → LL w0 p n c' xs w' := by
  obtain ⟨g, k, w', e1, e2, -, e4⟩ := h2.one2 ty_fc.symm ((RV.nil fL w).next h2.below) 33 (b := 16) Tryz.underlying33 infoC rfl (by decide) (by omega) (by omega) (c, r) _ rfl
  refine ⟨g, k, w', e1, e2, fun w0 p n c' xs h => ⟨h.1, h.2.imp id fun h => ?_⟩⟩
  refine own_kept h fun q hq => ?_
  obtain ⟨cs, hc⟩ := own_blk h hq
  rw [hc]
  exact e4 q cs _ ty_fc hc
set_option maxRecDepth 1000000 in
set_option maxHeartbeats 16000000 in
theorem rthree_any (p q r : Option Addr) (cp cq cr : Nat) (s a b : List ps.Fl) (w : World) (hs : ps.FM w p s) (ha : ps.FM w q a) (hb : ps.FM w r b) (fs : ps.Fine s) (fa : ps.Fine a) (fb : ps.Fine b) :
    Calls Tryz.prog 15 #[.slice p s.length cp, .slice q a.length cq, .slice r b.length cr] w fun e w' =>
      (200 < (ps.th s a b).length ∧ e = .returned (.tuple #[.slice none 0 0, .slice none 0 0, .int .i64 4]) ∧ Bw w w') ∨
      ((ps.th s a b).length ≤ 200 ∧ ∃ pv cv u, e = .returned (.tuple #[.slice pv (ps.th s a b).length cv, u, .int .i64 0]) ∧ ps.FM w' pv (ps.th s a b) ∧ RV cL w u (boT s a b) w') := by
  have HDx : Hid (∀ wx, Bw w wx → Calls Tryz.prog 10 #[.slice p s.length cp, .slice q a.length cq] wx fun e w' => ∃ p' c', e = .returned (.slice p' (ps.df s a 2574).length c') ∧ FC w' p' c' (ps.df s a 2574) ∧ Bw wx w') := fun wx h => rdiff_fm p q cp cq s a wx (hs.below h) (ha.below h) (by have := fs.len; omega) (by have := fa.len; omega)
  have HDy : Hid (∀ wx, Bw w wx → Calls Tryz.prog 10 #[.slice p s.length cp, .slice r b.length cr] wx fun e w' => ∃ p' c', e = .returned (.slice p' (ps.df s b 2574).length c') ∧ FC w' p' c' (ps.df s b 2574) ∧ Bw wx w') := fun wx h => rdiff_fm p r cp cr s b wx (hs.below h) (hb.below h) (by have := fs.len; omega) (by have := fb.len; omega)
  have HAP : Hid (ps.ap s (ps.df s b 2574) = b ∧ ps.ap b (ps.df s a 2574) = ps.th s a b) := ⟨ps.ap_diff fs.srt fs.ful fs.ing fb.srt fb.ful fb.ing, rfl⟩
  have HCD : Hid (clD (ps.df s a 2574) (ps.df s b 2574) = boT s a b) := clD_is s a b
  have HONE : Hid (∀ i f, (ps.df s a 2574)[i]? = some f → (clF (ps.df s b 2574) f).length ≤ 1) := fun i f hf => by
    obtain ⟨t, ht, rfl, -⟩ := ps.df_mem (List.mem_of_getElem? hf)
    rw [clF_df s a b t ht]
    split <;> simp
  have HFS : Hid (ps.FM w p s ∧ ps.Fine s ∧ ps.Fine b) := ⟨hs, fs, fb⟩
  have lx : (ps.df s a 2574).length ≤ 2574 := df_len
  have ly : (ps.df s b 2574).length ≤ 2574 := df_len
  generalize ps.df s a 2574 = X at *
  generalize ps.df s b 2574 = Y at *
  generalize ps.th s a b = T at *
  generalize boT s a b = Z at *
  obtain ⟨ns, hns⟩ : ∃ n, s.length = n := ⟨_, rfl⟩
  obtain ⟨na, hna⟩ : ∃ n, a.length = n := ⟨_, rfl⟩
  obtain ⟨nb, hnb⟩ : ∃ n, b.length = n := ⟨_, rfl⟩
  obtain ⟨nx, hnx⟩ : ∃ n, X.length = n := ⟨_, rfl⟩
  obtain ⟨ny, hny⟩ : ∃ n, Y.length = n := ⟨_, rfl⟩
  have HN : Hid (s.length = ns ∧ b.length = nb ∧ X.length = nx ∧ Y.length = ny) := ⟨hns, hnb, hnx, hny⟩
  have hx9 : (nx : Int) ≤ 2574 := by omega
  have hy9 : (ny : Int) ≤ 2574 := by omega
  rw [hns, hna, hnx] at HDx
  rw [hns, hnb, hny] at HDy
  rw [hns, hna, hnb]
  clear hs ha hb fs fa fb lx ly hns hna hnb hnx hny
  go_enter Tryz.func15, Tryz.ntmps15
  go_upto_region 2 with (first | (go_at_call 10; refine (HDx.out _ (Below.refl _ _)).mono ?_; rintro e w1 ⟨px, cx, rfl, hf1, hb1⟩))
  have H1 : Hid (Bw w w1 ∧ ps.FM w1 px X) := ⟨hb1, hf1.1⟩
  clear hb1 hf1 HDx
  go_upto_region 3 with (first | (go_at_call 10; refine (HDy.out _ H1.out.1).mono ?_; rintro e w2 ⟨py, cy, rfl, hf2, hb2⟩))
  have H2 : Hid (Bw w w2 ∧ ps.FM w2 px X ∧ ps.FM w2 py Y) := ⟨H1.out.1.tr hb2, fm_next H1.out.2 hb2, hf2.1⟩
  clear hb2 hf2 HDy H1
  have HX : Hid (∀ i f, X[i]? = some f → ∃ g o, px = some ⟨g, o, none⟩ ∧ ∀ wx, Bw w2 wx → YE w2 g (o + i * 3) f wx) := fun i f hf => by
    obtain ⟨g, o, e, -⟩ := fm_at H2.out.2.1 hf
    refine ⟨g, o, e, fun wx h => ?_⟩
    obtain ⟨g', o', e', -, q0, q1, q2⟩ := fm_at (fm_next H2.out.2.1 h) hf
    rw [e] at e'
    injection e' with e'
    injection e' with e1 e2
    subst e1 e2
    exact ⟨q0, q1, q2, h⟩
  have HY : Hid (∀ i f, Y[i]? = some f → ∃ g o, py = some ⟨g, o, none⟩ ∧ ∀ wx, Bw w2 wx → YE w2 g (o + i * 3) f wx) := fun i f hf => by
    obtain ⟨g, o, e, -⟩ := fm_at H2.out.2.2 hf
    refine ⟨g, o, e, fun wx h => ?_⟩
    obtain ⟨g', o', e', -, q0, q1, q2⟩ := fm_at (fm_next H2.out.2.2 h) hf
    rw [e] at e'
    injection e' with e'
    injection e' with e1 e2
    subst e1 e2
    exact ⟨q0, q1, q2, h⟩
  go_upto_block 0 with fail
  go_cut [11] (fun s11 wx => ∃ p' c', s11 = .slice p' nb c' ∧ Hid (ps.FM wx p' b ∧ Bw w2 wx))
  case first =>
    go_wp2_with fail
    go_loopw [11, 13] (fun s11 s13 wr => ∃ (i : Nat) (p' : Option Addr) (n' c' : Nat), s13 = .int .i64 (i : Int) ∧ i ≤ ny ∧ s11 = .slice p' n' c' ∧ Hid (n' = (ps.ap s (Y.take i)).length ∧ ps.FM wr p' (ps.ap s (Y.take i)) ∧ Bw w2 wr)) (fun _ s13 _ => ny - (intOf s13).toNat)
    case atStart => exact ⟨0, p, ns, cp, rfl, Nat.zero_le _, rfl, HN.out.1.symm, HFS.out.1.below H2.out.1, Below.refl _ _⟩
    case round =>
      obtain ⟨i, p', n', c', rfl, hi, rfl, HR⟩ := hrel
      have hi0 : (0 : Int) ≤ (i : Int) := by omega
      by_cases hlt : i < ny
      · have hlt' : (i : Int) < (ny : Int) := by omega
        obtain ⟨f, hf⟩ : ∃ f, Y[i]? = some f := ⟨_, List.getElem?_eq_getElem (by rw [HN.out.2.2.2]; exact hlt)⟩
        obtain ⟨g, o, rfl, hk⟩ := HY.out i f hf
        have HK : Hid (∀ wx, Bw w2 wx → YE w2 g (o + i * 3) f wx) := hk
        have HTK : Hid (ps.ap s (Y.take (i + 1)) = ps.wt (ps.ap s (Y.take i)) f) := by show _ = _; rw [take_one hf, ps.ap_snoc]
        have HWi : Hid (∀ wx, Bw wr wx → Calls Tryz.prog 30 #[.slice p' n' c', .agg #[.int .i64 f.c, .int .i64 f.r], .string f.s] wx fun e w' => ∃ p5 n5 c5, e = .returned (.slice p5 n5 c5) ∧ Hid (n5 = (ps.ap s (Y.take (i + 1))).length ∧ ps.FM w' p5 (ps.ap s (Y.take (i + 1)))) ∧ Bw w2 w') := fun wx h => by
          have h1 := ps.ap_len s (Y.take i)
          have h2 : (Y.take i).length ≤ i := by rw [List.length_take]; omega
          have h3 := HFS.out.2.1.len
          have h := (rwith_fm p' c' (ps.ap s (Y.take i)) f wx (fm_next HR.out.2.1 h) (by omega) (ps.ap_srt _ HFS.out.2.1.srt)).mono (fun e w' ⟨p5, c5, e1, e2, e3⟩ => (⟨p5, _, c5, e1, ⟨by rw [HTK.out], by rw [HTK.out]; exact e2⟩, (HR.out.2.2.tr h).tr e3⟩ : ∃ p5 n5 c5, e = Ending.returned (.slice p5 n5 c5) ∧ Hid (n5 = (ps.ap s (Y.take (i + 1))).length ∧ ps.FM w' p5 (ps.ap s (Y.take (i + 1)))) ∧ Bw w2 w'))
          rw [← HR.out.1] at h
          exact h
        have h0 := hk wr HR.out.2.2
        have h0d := hk wr.drew HR.out.2.2.drew
        clear hf hk
        obtain ⟨q0, q1, q2, -⟩ := h0
        go_wp2_with fail
        go_region_held3 (fun wx => YE w2 g (o + i * 3) f wx) (first | exact h0d | assumption | exact HK.out _ hb5) (first | (go_at_call 30; refine (HWi.out _ (Below.refl _ _).drew).mono ?_; rintro e w5 ⟨p5, n5, c5, rfl, hf5, hb5⟩))
        all_goals
          have HE : Hid (n5 = (ps.ap s (Y.take (i + 1))).length ∧ ps.FM w5 p5 (ps.ap s (Y.take (i + 1))) ∧ Bw w2 w5) := ⟨hf5.out.1, hf5.out.2, hb5⟩
          clear hf5 hb5 h0d q0 q1 q2 HWi HK
          go_wp2_with fail
          exact ⟨⟨i + 1, p5, n5, c5, by simp, hlt, rfl, HE.out⟩, by simp [intOf]; omega⟩
      · have hlt' : ¬ (i : Int) < (ny : Int) := by omega
        obtain rfl : i = ny := by omega
        have HE : Hid (n' = nb ∧ ps.FM wr p' b ∧ Bw w2 wr) := by
          have := HR.out
          rw [List.take_of_length_le (by rw [HN.out.2.2.2]; exact Nat.le_refl _), HAP.out.1, HN.out.2.1] at this
          exact this
        obtain rfl := HE.out.1
        go_wp2_with fail
        go_meet
        case rel => exact ⟨p', c', rfl, HE.out.2⟩
  case rest =>
  obtain ⟨p3, c3, rfl, H3⟩ := hcut
  have HFB : Hid (ps.Fine b) := HFS.out.2.2
  clear HFS
  apply_assumption
  have HLX : Hid (ps.Fine b) := HFB.out
  obtain ⟨w3, hw3⟩ : ∃ x, x = wc := ⟨_, rfl⟩
  subst hw3
  have H23 : Hid (Bw w2 w3) := H3.out.2
  go_upto_block 2 with fail
  go_cut [11, 12] (fun s11 s12 wx => ∃ p' c', s11 = .slice p' T.length c' ∧ Hid (ps.FM wx p' T ∧ RV cL w3 s12 Z wx))
  case first =>
    go_wp2_with fail
    go_loopw [11, 12, 14] (fun s11 s12 s14 wr => ∃ (i : Nat) (p' : Option Addr) (n' c' : Nat), s14 = .int .i64 (i : Int) ∧ i ≤ nx ∧ s11 = .slice p' n' c' ∧ Hid (LL w3 p' n' c' (ps.ap b (X.take i)) wr ∧ RV cL w3 s12 (clD (X.take i) Y) wr ∧ (clD (X.take i) Y).length ≤ i)) (fun _ _ s14 _ => nx - (intOf s14).toNat)
    case atStart => exact ⟨0, p3, nb, c3, rfl, Nat.zero_le _, rfl, ⟨HN.out.2.1.symm, .inl H3.out.1⟩, RV.nil cL w3, Nat.le_refl _⟩
    case round =>
      obtain ⟨i, p', n', c', rfl, hi, rfl, HR⟩ := hrel
      have hi0 : (0 : Int) ≤ (i : Int) := by omega
      by_cases hlt : i < nx
      · have hlt' : (i : Int) < (nx : Int) := by omega
        obtain ⟨f, hf⟩ : ∃ f, X[i]? = some f := ⟨_, List.getElem?_eq_getElem (by rw [HN.out.2.2.1]; exact hlt)⟩
        obtain ⟨g, o, rfl, hk⟩ := HX.out i f hf
        have HK : Hid (∀ wx, Bw w2 wx → YE w2 g (o + i * 3) f wx) := hk
        have HTK : Hid (ps.ap b (X.take (i + 1)) = ps.wt (ps.ap b (X.take i)) f ∧ clD (X.take (i + 1)) Y = clD (X.take i) Y ++ clF Y f) := by rw [take_one hf]; exact ⟨ps.ap_snoc _ _ _, clD_snoc _ _ _⟩
        have HOne : Hid ((clF Y f).length ≤ 1) := HONE.out i f hf
        have HWi : Hid (∀ wx, Bw wr wx → Calls Tryz.prog 30 #[.slice p' n' c', .agg #[.int .i64 f.c, .int .i64 f.r], .string f.s] wx fun e w' => ∃ p5 n5 c5, e = .returned (.slice p5 n5 c5) ∧ Hid (LL w3 p5 n5 c5 (ps.ap b (X.take (i + 1))) w' ∧ Bw wr w') ∧ Bw w2 w') := fun wx h => by
          have h1 := ps.ap_len b (X.take i)
          have h2 : (X.take i).length ≤ i := by rw [List.length_take]; omega
          have h3 := HLX.out.len
          have h' := h
          have h := (rwith_fb p' c' (ps.ap b (X.take i)) f wx (fm_next (HR.out.1.fm HR.out.2.1.below) h) (by omega) (ps.ap_srt _ HLX.out.srt)).mono (fun e w' ⟨p5, c5, e1, e2, e3⟩ => (⟨p5, _, c5, e1, ⟨by rw [HTK.out.1]; exact ⟨rfl, .inr e2⟩, h'.tr e3⟩, ((H23.out.tr HR.out.2.1.below).tr h').tr e3⟩ : ∃ p5 n5 c5, e = Ending.returned (.slice p5 n5 c5) ∧ Hid (LL w3 p5 n5 c5 (ps.ap b (X.take (i + 1))) w' ∧ Bw wr w') ∧ Bw w2 w'))
          rw [← HR.out.1.1] at h
          exact h
        have h0 := hk wr (H23.out.tr HR.out.2.1.below)
        have h0d := hk wr.drew (H23.out.tr HR.out.2.1.below).drew
        clear hf hk
        obtain ⟨q0, q1, q2, -⟩ := h0
        go_wp2_with fail
        go_region_held3 (fun wx => YE w2 g (o + i * 3) f wx) (first | exact h0d | assumption | exact HK.out _ hb5) (first | (go_at_call 30; refine (HWi.out _ (Below.refl _ _).drew).mono ?_; rintro e w5 ⟨p5, n5, c5, rfl, hf5, hb5⟩))
        all_goals
          have HE : Hid (LL w3 p5 n5 c5 (ps.ap b (X.take (i + 1))) w5 ∧ RV cL w3 u12 (clD (X.take i) Y) w5 ∧ (clD (X.take i) Y).length ≤ i) := ⟨hf5.out.1, HR.out.2.1.next hf5.out.2, HR.out.2.2⟩
          clear hf5 hb5 h0d q0 q1 q2 HWi HR
          obtain ⟨A, hA⟩ : ∃ A, clD (X.take i) Y = A := ⟨_, rfl⟩
          rw [hA] at HE HTK
          clear hA
          go_upto_block 4 with fail
          go_wp2_with fail
          obtain ⟨w9, h9⟩ : ∃ x, x = wr := ⟨_, rfl⟩
          subst h9
          go_loopw [12, 15] (fun s12 s15 wr => ∃ k : Nat, s15 = .int .i64 (k : Int) ∧ k ≤ ny ∧ Hid (RV cL w3 s12 (A ++ clF (Y.take k) f) wr ∧ LL w3 p5 n5 c5 (ps.ap b (X.take (i + 1))) wr)) (fun _ s15 _ => ny - (intOf s15).toNat)
          case atStart => exact ⟨0, rfl, Nat.zero_le _, by rw [show clF (Y.take 0) f = [] from rfl, List.append_nil]; exact HE.out.2.1, HE.out.1⟩
          case round =>
            obtain ⟨k, rfl, hk, HQ⟩ := hrel
            have hk0 : (0 : Int) ≤ (k : Int) := by omega
            by_cases hkt : k < ny
            · have hkt' : (k : Int) < (ny : Int) := by omega
              obtain ⟨h, hh⟩ : ∃ h, Y[k]? = some h := ⟨_, List.getElem?_eq_getElem (by rw [HN.out.2.2.2]; exact hkt)⟩
              obtain ⟨gy, oy, rfl, hky⟩ := HY.out k h hh
              have HSN : Hid (clF (Y.take (k + 1)) f = clF (Y.take k) f ++ if clP f h = true then [(f.c, f.r)] else []) := by show _ = _; rw [take_one hh, clF_snoc]
              have hlen : (A ++ clF (Y.take k) f).length ≤ 10000 := by
                have h1 := clF_len (Y.take k) f
                rw [List.length_take] at h1
                rw [List.length_append]
                have := HE.out.2.2
                omega
              obtain ⟨q0, q1, q2, -⟩ := HK.out wr (H23.out.tr HQ.out.1.below)
              obtain ⟨r0, r1, r2, -⟩ := hky wr (H23.out.tr HQ.out.1.below)
              obtain ⟨d0, d1, d2, -⟩ := HK.out wr.drew (H23.out.tr HQ.out.1.below).drew
              have e28 := fun W => eqlC f.c f.r h.c h.r W
              have HQd := HQ.out.1.next (Below.refl wr.heap.size wr).drew
              have HBd : Hid (LL w3 p5 n5 c5 (ps.ap b (X.take (i + 1))) wr.drew) := HQ.out.2.next (Below.refl wr.heap.size wr).drew
              clear hh hky HQ
              obtain ⟨fc, fr, fs⟩ := f
              obtain ⟨hc, hr, hs⟩ := h
              dsimp only at q0 q1 q2 r0 r1 r2 d0 d1 d2 e28 hlen HSN HQd
              by_cases hsame : fc = hc ∧ fr = hr
              · obtain ⟨rfl, rfl⟩ := hsame
                have e29 : ∀ W, (binOp BinOp.eql 43 (.agg #[.int .i64 fc, .int .i64 fr]) (.agg #[.int .i64 fc, .int .i64 fr])).run Tryz.prog W = .ok (.bool true) W := fun W => by rw [e28]; simp
                clear e28
                by_cases hst : fs = hs
                · subst hst
                  have hq := str_yes fs
                  have HE2 : Hid (RV cL w3 u12 (A ++ clF (Y.take (k + 1)) ⟨fc, fr, fs⟩) wr.drew) := by
                    show RV _ _ _ _ _
                    rw [HSN.out, if_neg (by simp [clP]), List.append_nil]
                    exact HQd
                  clear hlen HQd HSN d0 d1 d2
                  go_wp2_with fail
                  go_cut [88] (fun s88 wx => s88 = .bool false ∧ wx = wr.drew)
                  case first =>
                    go_region
                    all_goals
                      go_wp2_with fail
                      go_meet
                      case rel => exact ⟨rfl, rfl⟩
                  case rest =>
                  obtain ⟨rfl, rfl⟩ := hcut
                  apply_assumption
                  clear q0 q1 q2 r0 r1 r2 e29 hq
                  go_wp2_with fail
                  exact ⟨⟨k + 1, by simp, hkt, HE2.out, HBd.out⟩, by simp [intOf]; omega⟩
                · have hq := str_no hst
                  obtain ⟨gn, kn, w7, hrn, hvn, hkn⟩ := HQd.cell3 hlen fc fr
                  have HR7 : Hid ((Builtin.append_ #[33, 33] 33 #[u12, .slice (some ⟨wr.drew.heap.size, 0, none⟩) 1 1]).run Tryz.prog (wr.drew.alloc (.cells #[.int .i64 fc, .int .i64 fr] 43)) = .ok (.slice (some ⟨gn, 0, none⟩) ((A ++ clF (Y.take k) ⟨fc, fr, fs⟩).length + 1) kn) w7) := hrn
                  have HE2 : Hid (RV cL w3 (.slice (some ⟨gn, 0, none⟩) ((A ++ clF (Y.take k) ⟨fc, fr, fs⟩).length + 1) kn) (A ++ clF (Y.take (k + 1)) ⟨fc, fr, fs⟩) w7) := by
                    show RV _ _ _ _ _
                    rw [HSN.out, if_pos (by simp [clP, hst]), ← List.append_assoc]
                    exact hvn
                  generalize (A ++ clF (Y.take k) ⟨fc, fr, fs⟩).length + 1 = m at HR7 HE2
                  have HL7 : Hid (LL w3 p5 n5 c5 (ps.ap b (X.take (i + 1))) w7) := hkn _ _ _ _ _ HBd.out
                  clear hrn hvn hkn hlen HQd HSN HBd
                  go_wp2_with fail
                  go_cut [88] (fun s88 wx => s88 = .bool true ∧ wx = wr.drew)
                  case first =>
                    clear d0 d1 d2 HR7
                    go_region
                    all_goals
                      go_wp2_with fail
                      go_meet
                      case rel => exact ⟨rfl, rfl⟩
                  case rest =>
                  obtain ⟨rfl, rfl⟩ := hcut
                  apply_assumption
                  clear q0 q1 q2 r0 r1 r2 e29 hq
                  generalize wr.drew = w6 at *
                  go_wp2_with (first | (at_builtin; refine wpList_append_eq rfl _ _ 33 33 rfl _ _ _ _ rfl rfl HR7.out ?_))
                  exact ⟨⟨k + 1, by simp, hkt, HE2.out, HL7.out⟩, by simp [intOf]; omega⟩
              · have e29 : ∀ W, (binOp BinOp.eql 43 (.agg #[.int .i64 fc, .int .i64 fr]) (.agg #[.int .i64 hc, .int .i64 hr])).run Tryz.prog W = .ok (.bool false) W := fun W => by
                  rw [e28]
                  have : (decide (fc = hc) && decide (fr = hr)) = false := by
                    rw [Bool.eq_false_iff]
                    intro e
                    simp only [Bool.and_eq_true, decide_eq_true_eq] at e
                    exact hsame e
                  rw [this]
                have HE2 : Hid (RV cL w3 u12 (A ++ clF (Y.take (k + 1)) ⟨fc, fr, fs⟩) wr.drew) := by
                  show RV _ _ _ _ _
                  rw [HSN.out, if_neg (by
                    unfold clP
                    simp only [Bool.and_eq_true, decide_eq_true_eq]
                    exact fun e => hsame e.1), List.append_nil]
                  exact HQd
                clear hlen HQd HSN d0 d1 d2 e28
                go_wp2_with fail
                go_cut [88] (fun s88 wx => s88 = .bool false ∧ wx = wr.drew)
                case first =>
                  go_region
                  all_goals
                    go_wp2_with fail
                    go_meet
                    case rel => exact ⟨rfl, rfl⟩
                case rest =>
                obtain ⟨rfl, rfl⟩ := hcut
                apply_assumption
                clear q0 q1 q2 r0 r1 r2 e29
                go_wp2_with fail
                exact ⟨⟨k + 1, by simp, hkt, HE2.out, HBd.out⟩, by simp [intOf]; omega⟩
            · have hkt' : ¬ (k : Int) < (ny : Int) := by omega
              have HE2 : Hid (LL w3 p5 n5 c5 (ps.ap b (X.take (i + 1))) wr ∧ RV cL w3 u12 (clD (X.take (i + 1)) Y) wr ∧ (clD (X.take (i + 1)) Y).length ≤ i + 1) := by
                have := HQ.out
                rw [List.take_of_length_le (by rw [HN.out.2.2.2]; omega)] at this
                rw [HTK.out.2]
                exact ⟨this.2, this.1, by rw [List.length_append]; have := HE.out.2.2; have := HOne.out; omega⟩
              go_wp2_with fail
              exact ⟨⟨i + 1, p5, n5, c5, by simp, hlt, rfl, HE2.out⟩, by simp [intOf]; omega⟩
      · have hlt' : ¬ (i : Int) < (nx : Int) := by omega
        obtain rfl : i = nx := by omega
        have HE : Hid (n' = T.length ∧ ps.FM wr p' T ∧ RV cL w3 u12 Z wr) := by
          have := HR.out
          rw [List.take_of_length_le (by rw [HN.out.2.2.1]; exact Nat.le_refl _), HAP.out.2, HCD.out] at this
          exact ⟨this.1.1, this.1.fm this.2.1.below, this.2.1⟩
        obtain rfl := HE.out.1
        go_wp2_with fail
        go_meet
        case rel => exact ⟨p', c', rfl, HE.out.2⟩
  case rest =>
  obtain ⟨p4, c4, rfl, H4⟩ := hcut
  have HE : Hid (ps.FM wc p4 T ∧ RV cL w u12 Z wc) := ⟨H4.out.1, H4.out.2.lower (H2.out.1.tr H23.out)⟩
  clear H4
  apply_assumption
  obtain ⟨m, hm⟩ : ∃ m, T.length = m := ⟨_, rfl⟩
  rw [hm]
  by_cases h200 : 200 < m
  · have h2' : (200 : Int) < (m : Int) := by omega
    go_wp2_with fail
    exact bodyPost_ret (v := .tuple #[.slice none 0 0, .slice none 0 0, .int .i64 4]) (by simp [results, Tryz.results15, go_sem]) rfl (.inl ⟨by rw [hm]; exact h200, rfl, HE.out.2.below⟩)
  · have h2' : ¬ (200 : Int) < (m : Int) := by omega
    go_wp2_with fail
    exact bodyPost_ret (v := .tuple #[.slice p4 m c4, u12, .int .i64 0]) (by simp [results, Tryz.results15, go_sem]) rfl ⟨by omega, p4, c4, u12, rfl, HE.out.1, HE.out.2⟩
end Go.Proofs.YtomgjjngkffbbaaGreatDoor.fw

/- The document's Applied. Conditions: as each theorem says. -/
namespace Go.Proofs.YtomgjjngkffbbaaGreatDoor.fw
open Go Go.RowKit Go.Sort Go.Maps
open ps (ordB)
theorem rtext_is (s : ByteArray) (w : World) : Calls Tryz.prog 25 #[.string s] w fun e w' => e = .returned (.int .i64 (ftx s)) ∧ Bw w w' := by
  by_cases h : s.size = 0
  · have e : ftx s = 0 := by unfold ftx; rw [if_pos h]
    rw [e]
    obtain rfl := ps.size_nul h
    go_enter Tryz.func25, Tryz.ntmps25
    go_wp2_with fail
    go_ret
    exact ⟨rfl, Below.refl _ _⟩
  · have e : ftx s = ps.ckT s := by unfold ftx; rw [if_neg h]
    rw [e]
    exact ps.rtext_any s w h
/-- What Applied answers. -/
def RaO (w : World) (l d : List ps.Fl) (t : Int) (e : Ending) (w' : World) : Prop :=
  (t ≠ 0 ∧ e = .returned (.tuple #[.slice none 0 0, .int .i64 t]) ∧ Bw w w') ∨ (t = 0 ∧ ∃ p c, e = .returned (.tuple #[.slice p (ps.ap l d).length c, .int .i64 0]) ∧ ps.FM w' p (ps.ap l d) ∧ Bw w w')
set_option maxRecDepth 1000000 in
set_option maxHeartbeats 16000000 in
theorem rapplied_any (p q : Option Addr) (cp cq : Nat) (l d : List ps.Fl) (w : World) (hl : ps.FM w p l) (hd : ps.FM w q d) (hdl : d.length ≤ 4398046511104) :
    Calls Tryz.prog 13 #[.slice p l.length cp, .slice q d.length cq] w fun e w' => ∃ t, ApT l d t ∧ RaO w l d t e w' := by
  have HC : Hid (Calls Tryz.prog 9 #[.slice p l.length cp] w fun e w' => (∃ t, e = .returned (.int .i64 t) ∧ ps.Told l t) ∧ Bw w w') := ps.rcheck_any p cp l w hl
  have HX : Hid (ps.FM w q d) := hd
  have HFL : Hid (ps.FM w p l) := hl
  obtain ⟨nl, hnl⟩ : ∃ n, l.length = n := ⟨_, rfl⟩
  obtain ⟨n, hn⟩ : ∃ n, d.length = n := ⟨_, rfl⟩
  have HN : Hid (d.length = n ∧ l.length = nl) := ⟨hn, hnl⟩
  have hn9 : (n : Int) ≤ 4398046511104 := by omega
  rw [hnl] at HC ⊢
  rw [hn]
  clear hl hd hdl hn hnl
  go_enter Tryz.func13, Tryz.ntmps13
  go_upto_region 2 with (first | (go_at_call 9; refine HC.out.mono ?_; rintro e w1 ⟨⟨t, rfl, ht⟩, hb1⟩))
  have HT : Hid (ps.Told l t) := ht
  have HB1 : Hid (Bw w w1) := hb1
  clear ht hb1 HC
  by_cases h0 : t = 0
  · subst h0
    go_upto_block 0 with fail
    go_cut [] (fun wx => Hid (CdT d 0 ∧ Bw w wx))
    case first =>
      go_wp2_with fail
      go_loopw [7] (fun a wr => ∃ i : Nat, a = .int .i64 (i : Int) ∧ i ≤ n ∧ Hid (FD d i ∧ Bw w wr)) (fun a _ => n - (intOf a).toNat)
      case atStart => exact ⟨0, rfl, Nat.zero_le _, fun j hj => absurd hj (Nat.not_lt_zero _), HB1.out⟩
      case round =>
        obtain ⟨i, rfl, hi, HK⟩ := hrel
        by_cases hin : i < n
        · have hiN : (i : Int) < (n : Int) := by omega
          have hi0 : (0 : Int) ≤ (i : Int) := by omega
          obtain ⟨x, hx⟩ : ∃ x, d[i]? = some x := ⟨_, List.getElem?_eq_getElem (by rw [HN.out.1]; exact hin)⟩
          have HXi : Hid (d[i]? = some x) := hx
          obtain ⟨gx, ox, rfl, hgx, q0, q1, q2⟩ := fm_at (fm_next HX.out HK.out.2) hx
          have HXX : Hid (∀ wx, Bw w wx → YE w gx (ox + i * 3) x wx) := fun wx h => by
            obtain ⟨g', o', e', -, q0, q1, q2⟩ := fm_at (fm_next HX.out h) HXi.out
            injection e' with e'
            injection e' with e1 e2
            subst e1 e2
            exact ⟨q0, q1, q2, h⟩
          clear hx
          go_upto_region 8 with (first | (go_at_call 23; refine (ps.rin_any x.c x.r _).mono ?_; rintro e w2 ⟨rfl, hb2⟩))
          have HW2 : Hid (Bw w w2) := HK.out.2.tr hb2
          obtain ⟨b0, b1, b2, -⟩ := HXX.out w2 HW2.out
          clear hb2 q0 q1 q2
          cases hC : adr.isC x.c x.r with
          | false =>
            have HO : Hid (CdT d 1) := HK.out.1.found HXi.out (cdd_range HXi.out hC) (by decide)
            clear hC
            go_wp2_with fail
            exact bodyPost_ret (v := .tuple #[.slice none 0 0, .int .i64 1]) (by simp [results, Tryz.results13, go_sem]) rfl ⟨1, .inr ⟨HT.out, .inl ⟨HO.out, by decide⟩⟩, .inl ⟨by decide, rfl, HW2.out⟩⟩
          | true =>
            have HCc : Hid (adr.isC x.c x.r = true) := hC
            clear hC
            go_upto_region 10 with fail
            go_cut [45] (fun s45 wx => ∃ b : Bool, s45 = .bool b ∧ Hid (b = ordB d i x ∧ Bw w wx))
            case first =>
              by_cases hz : i = 0
              · subst hz
                have HDr : Hid (∀ k, Bw w (w2.drewN k)) := fun k => HW2.out.tr (dr_bw _ _)
                go_quiet (fail)
                go_wp2_with fail
                go_meet
                case rel => exact ⟨false, rfl, rfl, HDr.out _⟩
              · obtain ⟨k, rfl⟩ : ∃ k, i = k + 1 := ⟨i - 1, by omega⟩
                obtain ⟨y, hy⟩ : ∃ y, d[k]? = some y := ⟨_, List.getElem?_eq_getElem (by rw [HN.out.1]; omega)⟩
                have HY : Hid (d[k]? = some y) := hy
                have SOF : Hid (∀ wx, Bw w wx → ps.RG w gx (ox + k * 3) (ox + (k + 1) * 3) y x wx) := fun wx hb => by
                  obtain ⟨g', o', e', -, y0, y1, -⟩ := fm_at (fm_next HX.out hb) HY.out
                  injection e' with e'
                  injection e' with e1 e2
                  subst e1 e2
                  obtain ⟨c0, c1, -⟩ := HXX.out wx hb
                  exact ⟨y0, y1, c0, c1, hb⟩
                have h0d : ps.RG w gx (ox + k * 3) (ox + (k + 1) * 3) y x w2.drew := SOF.out _ HW2.out.drew
                have e1 : ((k + 1 : Nat) : Int) = (k : Int) + 1 := rfl
                have hk0 : (0 : Int) < (k : Int) + 1 := by omega
                have hk00 : (0 : Int) ≤ (k : Int) := by omega
                have hkN : (k : Int) < (n : Int) := by omega
                have hk200 : (k : Int) ≤ 4398046511104 := by omega
                have hk1N : (k : Int) + 1 < (n : Int) := by omega
                have hk10 : (0 : Int) ≤ (k : Int) + 1 := by omega
                have hk1t : ((k : Int) + 1).toNat = k + 1 := by omega
                have hw1' : IntKind.i64.wrap ((k : Int) + 1 - 1) = (k : Int) := by rw [Int.add_sub_cancel]; exact Go.IntWalk.i64_in _ (by omega)
                have hw2' : IntKind.i64.wrap (k : Int) = (k : Int) := Go.IntWalk.i64_in _ (by omega)
                have hw3' : (k : Int) + 1 - 1 = (k : Int) := by omega
                rw [e1]
                clear hy e1 b0 b1 b2
                go_region_held3 (fun wx => ps.RG w gx (ox + k * 3) (ox + (k + 1) * 3) y x wx) (first | exact h0d | exact SOF.out _ (Bw.tr (ps.rgb (by assumption)) (by assumption))) (first | (go_at_call 24; refine (ps.rahead_any y.c y.r x.c x.r _).mono ?_; rintro e w5 ⟨rfl, hb5⟩; have hw5 := Bw.tr (ps.rgb (by assumption)) hb5))
                all_goals
                  go_wp2_with fail
                  go_meet
                  case rel =>
                    refine ⟨_, rfl, ?_, hw5⟩
                    unfold ordB
                    simp only [HY.out]
                    first | rfl | (simp [ps.lt]; done)
            case rest =>
            obtain ⟨b, rfl, HA⟩ := hcut
            clear b0 b1 b2
            cases b with
            | true =>
              have HO : Hid (CdT d 5) := HK.out.1.found HXi.out (cdd_order HXi.out HCc.out HA.out.1.symm) (by decide)
              apply_assumption
              go_wp2_with fail
              exact bodyPost_ret (v := .tuple #[.slice none 0 0, .int .i64 5]) (by simp [results, Tryz.results13, go_sem]) rfl ⟨5, .inr ⟨HT.out, .inl ⟨HO.out, by decide⟩⟩, .inl ⟨by decide, rfl, HA.out.2⟩⟩
            | false =>
              obtain ⟨b0, b1, b2, -⟩ := HXX.out wc HA.out.2
              have HTx : Hid (cdd d i = ftx x.s) := cdd_text HXi.out HCc.out HA.out.1.symm
              have HRT : Hid (Calls Tryz.prog 25 #[.string x.s] wc fun e w' => e = .returned (.int .i64 (ftx x.s)) ∧ Bw wc w') := rtext_is x.s wc
              obtain ⟨u, hu⟩ : ∃ u, ftx x.s = u := ⟨_, rfl⟩
              rw [hu] at HTx HRT
              clear hu
              apply_assumption
              go_upto_region 13 with (first | (go_at_call 25; refine HRT.out.mono ?_; rintro e w6 ⟨rfl, hb6⟩))
              have HB6 : Hid (Bw w w6) := HA.out.2.tr hb6
              clear hb6 HRT b0 b1 b2
              by_cases hk0 : u = 0
              · subst hk0
                have HF2 : Hid (FD d (i + 1)) := HK.out.1.snoc HTx.out
                go_wp2_with fail
                exact ⟨⟨i + 1, by simp, hin, HF2.out, HB6.out⟩, by simp [intOf]; omega⟩
              · have HO : Hid (CdT d u ∧ u ≠ 0) := ⟨HK.out.1.found HXi.out HTx.out hk0, hk0⟩
                go_wp2_with fail
                exact bodyPost_ret (v := .tuple #[.slice none 0 0, .int .i64 u]) (by simp [results, Tryz.results13, go_sem]) rfl ⟨u, .inr ⟨HT.out, .inl HO.out⟩, .inl ⟨HO.out.2, rfl, HB6.out⟩⟩
        · have hin' : ¬ (i : Int) < (n : Int) := by omega
          have HE : Hid (CdT d 0 ∧ Bw w wr) := ⟨FD.none (by rw [HN.out.1]; have e : i = n := (by omega); rw [← e]; exact HK.out.1), HK.out.2⟩
          go_wp2_with fail
          go_meet
          case rel => exact HE
    case rest =>
    have HCD := hcut
    clear hcut
    apply_assumption
    have HFD : Hid (FineD d ∧ ps.Fine l) := ⟨HCD.out.1.fine, HT.out.fine⟩
    have HFew : Hid (d.length ≤ 2600) := grid_few HFD.out.1.srt fun x hx => (HFD.out.1.cell x hx).1
    obtain ⟨N, hN⟩ : ∃ n, (ps.ap l d).length = n := ⟨_, rfl⟩
    have HNN : Hid ((ps.ap l d).length = N) := hN
    clear hN
    go_upto_block 2 with fail
    go_cut [0] (fun s0 wx => ∃ p' c', s0 = .slice p' N c' ∧ Hid (ps.FM wx p' (ps.ap l d) ∧ Bw w wx))
    case first =>
      go_wp2_with fail
      go_loopw [0, 9] (fun s0 s9 wr => ∃ (i : Nat) (p' : Option Addr) (n' c' : Nat), s9 = .int .i64 (i : Int) ∧ i ≤ n ∧ s0 = .slice p' n' c' ∧ Hid (n' = (ps.ap l (d.take i)).length ∧ ps.FM wr p' (ps.ap l (d.take i)) ∧ Bw w wr)) (fun _ s9 _ => n - (intOf s9).toNat)
      case atStart => exact ⟨0, p, nl, cp, rfl, Nat.zero_le _, rfl, HN.out.2.symm, fm_next HFL.out HCD.out.2, HCD.out.2⟩
      case round =>
        obtain ⟨i, p', n', c', rfl, hi, rfl, HR⟩ := hrel
        have hi0 : (0 : Int) ≤ (i : Int) := by omega
        by_cases hlt : i < n
        · have hlt' : (i : Int) < (n : Int) := by omega
          obtain ⟨f, hf⟩ : ∃ f, d[i]? = some f := ⟨_, List.getElem?_eq_getElem (by rw [HN.out.1]; exact hlt)⟩
          have HFi : Hid (d[i]? = some f) := hf
          obtain ⟨g, o, rfl, -, q0, q1, q2⟩ := fm_at (fm_next HX.out HR.out.2.2) hf
          have HK : Hid (∀ wx, Bw w wx → YE w g (o + i * 3) f wx) := fun wx h => by
            obtain ⟨g', o', e', -, q0, q1, q2⟩ := fm_at (fm_next HX.out h) HFi.out
            injection e' with e'
            injection e' with e1 e2
            subst e1 e2
            exact ⟨q0, q1, q2, h⟩
          have HTK : Hid (ps.ap l (d.take (i + 1)) = ps.wt (ps.ap l (d.take i)) f) := by show _ = _; rw [take_one hf, ps.ap_snoc]
          have HWi : Hid (∀ wx, Bw wr wx → Calls Tryz.prog 30 #[.slice p' n' c', .agg #[.int .i64 f.c, .int .i64 f.r], .string f.s] wx fun e w' => ∃ p5 n5 c5, e = .returned (.slice p5 n5 c5) ∧ Hid (n5 = (ps.ap l (d.take (i + 1))).length ∧ ps.FM w' p5 (ps.ap l (d.take (i + 1)))) ∧ Bw w w') := fun wx h => by
            have h1 := ps.ap_len l (d.take i)
            have h2 : (d.take i).length ≤ i := by rw [List.length_take]; omega
            have h3 := HFD.out.2.len
            have h4 := HFew.out
            have h5 := HN.out.1
            have h' := h
            have h := (rwith_fm p' c' (ps.ap l (d.take i)) f wx (fm_next HR.out.2.1 h) (by omega) (ps.ap_srt _ HFD.out.2.srt)).mono (fun e w' ⟨p5, c5, e1, e2, e3⟩ => (⟨p5, _, c5, e1, ⟨by rw [HTK.out], by rw [HTK.out]; exact e2⟩, (HR.out.2.2.tr h').tr e3⟩ : ∃ p5 n5 c5, e = Ending.returned (.slice p5 n5 c5) ∧ Hid (n5 = (ps.ap l (d.take (i + 1))).length ∧ ps.FM w' p5 (ps.ap l (d.take (i + 1)))) ∧ Bw w w'))
            rw [← HR.out.1] at h
            exact h
          have h0d := HK.out wr.drew HR.out.2.2.drew
          clear hf
          go_wp2_with fail
          go_region_held3 (fun wx => YE w g (o + i * 3) f wx) (first | exact h0d | assumption | exact HK.out _ hb5) (first | (go_at_call 30; refine (HWi.out _ (Below.refl _ _).drew).mono ?_; rintro e w5 ⟨p5, n5, c5, rfl, hf5, hb5⟩))
          all_goals
            have HE : Hid (n5 = (ps.ap l (d.take (i + 1))).length ∧ ps.FM w5 p5 (ps.ap l (d.take (i + 1))) ∧ Bw w w5) := ⟨hf5.out.1, hf5.out.2, hb5⟩
            clear hf5 hb5 h0d q0 q1 q2 HWi HK
            go_wp2_with fail
            exact ⟨⟨i + 1, p5, n5, c5, by simp, hlt, rfl, HE.out⟩, by simp [intOf]; omega⟩
        · have hlt' : ¬ (i : Int) < (n : Int) := by omega
          obtain rfl : i = n := by omega
          have HE : Hid (n' = N ∧ ps.FM wr p' (ps.ap l d) ∧ Bw w wr) := by
            have := HR.out
            rw [List.take_of_length_le (by rw [HN.out.1]; exact Nat.le_refl _), HNN.out] at this
            exact this
          obtain rfl := HE.out.1
          go_wp2_with fail
          go_meet
          case rel => exact ⟨p', c', rfl, HE.out.2⟩
    case rest =>
    obtain ⟨p3, c3, rfl, H3⟩ := hcut
    apply_assumption
    by_cases h200 : 200 < N
    · have h2' : (200 : Int) < (N : Int) := by omega
      go_wp2_with fail
      exact bodyPost_ret (v := .tuple #[.slice none 0 0, .int .i64 4]) (by simp [results, Tryz.results13, go_sem]) rfl ⟨4, .inr ⟨HT.out, .inr ⟨HCD.out.1, .inl ⟨by rw [HNN.out]; exact h200, rfl⟩⟩⟩, .inl ⟨by decide, rfl, H3.out.2⟩⟩
    · have h2' : ¬ (200 : Int) < (N : Int) := by omega
      go_wp2_with fail
      exact bodyPost_ret (v := .tuple #[.slice p3 N c3, .int .i64 0]) (by simp [results, Tryz.results13, go_sem]) rfl ⟨0, .inr ⟨HT.out, .inr ⟨HCD.out.1, .inr ⟨by rw [HNN.out]; omega, rfl⟩⟩⟩, .inr ⟨rfl, p3, c3, by rw [HNN.out], H3.out.1, H3.out.2⟩⟩
  · have HO : Hid (t ≠ 0) := h0
    go_wp2_with fail
    exact bodyPost_ret (v := .tuple #[.slice none 0 0, .int .i64 t]) (by simp [results, Tryz.results13, go_sem]) rfl ⟨t, .inl ⟨HT.out, HO.out⟩, .inl ⟨HO.out, rfl, HB1.out⟩⟩
end Go.Proofs.YtomgjjngkffbbaaGreatDoor.fw

/- Three in one form; sccsame.Sheets at no cells and a list. Conditions: as each theorem says. -/
namespace Go.Proofs.YtomgjjngkffbbaaGreatDoor.fw
open Go Go.RowKit Go.Sort Go.Maps
/-- What Three answers, in one form. -/
def ThG (w : World) (s a b : List ps.Fl) (pv : Option Addr) (nv cv : Nat) (pu : Option Addr) (nu cu : Nat) (ev : Value) (w' : World) : Prop :=
  Bw w w' ∧ ((∃ z, ev = .iface 67 (.int .i64 z) ∧ pv = none ∧ nv = 0 ∧ cv = 0 ∧ pu = none ∧ nu = 0 ∧ cu = 0 ∧ ¬ (ps.Told s 0 ∧ ps.Told a 0 ∧ ps.Told b 0 ∧ (ps.th s a b).length ≤ 200)) ∨
    (ev = .nilIface ∧ ps.Told s 0 ∧ ps.Told a 0 ∧ ps.Told b 0 ∧ nv = (ps.th s a b).length ∧ nu = (boT s a b).length ∧ nv ≤ 200 ∧ FC w' pv cv (ps.th s a b) ∧ RV cL w (.slice pu nu cu) (boT s a b) w'))
theorem shT_not {p q r : Option Addr} {cp cq cr : Nat} {s a b : List ps.Fl} {t : Int} (h : ShT [⟨p, cp, s⟩, ⟨q, cq, a⟩, ⟨r, cr, b⟩] t) (h0 : t ≠ 0) : ¬ (ps.Told s 0 ∧ ps.Told a 0 ∧ ps.Told b 0) := by
  rintro ⟨h1, h2, h3⟩
  rcases h with ⟨g, hn⟩ | ⟨-, ⟨g, hn⟩ | ⟨-, ⟨g, hn⟩ | ⟨-, g⟩⟩⟩
  · exact hn (g.one h1)
  · exact hn (g.one h2)
  · exact hn (g.one h3)
  · exact h0 g
theorem three_gen (p q r : Option Addr) (cp cq cr : Nat) (s a b : List ps.Fl) (w : World) (hs : ps.FM w p s) (ha : ps.FM w q a) (hb : ps.FM w r b) (hE : ps.EnvP w) :
    Calls Tryz.prog 16 #[.slice p s.length cp, .slice q a.length cq, .slice r b.length cr] w fun e w' => ∃ pv nv cv pu nu cu ev, e = .returned (.tuple #[.slice pv nv cv, .slice pu nu cu, ev]) ∧ ThG w s a b pv nv cv pu nu cu ev w' := by
  refine (three_any p q r cp cq cr s a b w hs ha hb hE).mono fun e w' ⟨t, h1, h2⟩ => ?_
  rcases h2 with ⟨h0, rfl, hbw⟩ | ⟨rfl, v, u, rfl, hv, hu⟩
  · rw [ps.errV_some h0]
    refine ⟨none, 0, 0, none, 0, 0, _, rfl, hbw, .inl ⟨t, rfl, rfl, rfl, rfl, rfl, rfl, rfl, ?_⟩⟩
    rintro ⟨t1, t2, t3, hl⟩
    rcases h1 with ⟨h3, -⟩ | ⟨-, h3, -⟩ | ⟨-, -, h3⟩
    · exact shT_not h3 h0 ⟨t1, t2, t3⟩
    · omega
    · exact h0 h3
  · obtain ⟨pv, cv, rfl, hf⟩ := hv.fc
    obtain ⟨pu, cu, rfl, -⟩ := hu.form
    rcases h1 with ⟨-, h3⟩ | ⟨-, -, h3⟩ | ⟨h3, h4, -⟩
    · exact absurd rfl h3
    · cases h3
    · obtain ⟨t1, t2, t3⟩ := shT_all h3
      exact ⟨pv, _, cv, pu, _, cu, _, rfl, hv.below, .inr ⟨rfl, t1, t2, t3, rfl, rfl, h4, hf, hu⟩⟩
set_option maxHeartbeats 4000000 in
/-- sccsame.Sheets at no cells and a list. -/
theorem rsheets_nil (n : Nat) (r : Option Addr) (cr : Nat) (w : World) :
    Calls Tryz.prog 21 #[.slice none 0 0, .slice r n cr] w fun e w' => (∃ x, e = .returned (.bool x)) ∧ Bw w w' := by
  have hb0 : Bw w w := Below.refl _ _
  by_cases h : n = 0
  · subst h
    go_enter Tryz.func21, Tryz.ntmps21
    go_upto_block 0 with fail
    go_cut [] (fun wx => Hid (wx = w))
    case first =>
      go_wp2_with fail
      go_loopw [5] (fun s5 wr => s5 = .int .i64 0 ∧ Hid (wr = w)) (fun _ _ => 0)
      case atStart => exact ⟨rfl, rfl⟩
      case round =>
        obtain ⟨rfl, HR⟩ := hrel
        go_wp2_with fail
        go_meet
        case rel => exact HR
    case rest =>
    obtain rfl := hcut.out
    clear hcut
    apply_assumption
    go_wp2_with fail
    go_ret
    exact ⟨⟨_, rfl⟩, hb0⟩
  · have h1 : ¬ (0 : Int) = (n : Int) := by omega
    have h2 : ¬ (n : Int) = 0 := by omega
    go_enter Tryz.func21, Tryz.ntmps21
    go_wp2_with fail
    go_ret
    exact ⟨⟨_, rfl⟩, hb0⟩
/-- The fact of the law: nothing, the small sheet, nothing. -/
theorem th_small : ps.th [] smL [] = smL := by
  unfold ps.th
  rw [df_nil told_sm.fine]
  rfl
theorem boT_second (s a : List ps.Fl) : boT s a s = [] := by rw [boT_turned, boT_first]
end Go.Proofs.YtomgjjngkffbbaaGreatDoor.fw

/- The laws MergeThree and MergeDiffs. Conditions: what the package variables hold. -/
namespace Go.Proofs.YtomgjjngkffbbaaGreatDoor.fw
open Go Go.RowKit Go.Sort Go.Maps
theorem err_same (t : Int) (w : World) (hT : ErrTy w) : Calls Tryz.prog 29 #[ps.errV t, .int .i64 t] w fun e w' => e = .returned (.bool true) ∧ Bw w w' := by
  by_cases h : t = 0
  · subst h
    rw [ps.errV_zero]
    exact (same_nil 0 w).mono fun e w' ⟨h1, h2⟩ => ⟨by rw [h1]; rfl, h2⟩
  · rw [ps.errV_some h]
    exact (same_errno t t w hT).mono fun e w' ⟨h1, h2⟩ => ⟨by rw [h1]; simp, h2⟩
theorem made_fm (X : List ps.Fl) (p p' : Option Addr) (c c' : Nat) (t : Int) (w : World) (hv : ps.FM w p X) (hv' : ps.FM w p' X) (hl : X.length ≤ 100000) (hT : ErrTy w) :
    Calls Tryz.prog 12 #[.slice p X.length c, ps.errV t, .slice p' X.length c', .int .i64 t] w fun e w' => e = .returned (.bool true) ∧ Bw w w' := by
  have HER : Hid (Calls Tryz.prog 29 #[ps.errV t, .int .i64 t] w fun e w' => e = .returned (.bool true) ∧ Bw w w') := err_same t w hT
  have HS : Hid (∀ wx, Bw w wx → Calls Tryz.prog 21 #[.slice p X.length c, .slice p' X.length c'] wx fun e w' => e = .returned (.bool true) ∧ Bw w w') := fun wx hb => (rsheets_fm X p p' c c' wx (hv.below hb) (hv'.below hb) hl).mono fun e w' ⟨h1, h2⟩ => ⟨h1, hb.tr h2⟩
  clear hv hv' hl hT
  generalize ps.errV t = ev at *
  generalize X.length = n at *
  go_enter Tryz.func12, Tryz.ntmps12
  go_wp2_with (first | (go_at_call 29; refine HER.out.mono ?_; rintro e w1 ⟨rfl, hb1⟩) | (go_at_call 21; refine (HS.out _ hb1).mono ?_; rintro e w2 ⟨rfl, hb2⟩))
  go_ret
  exact ⟨rfl, hb2⟩
/-- Which of three faults is told. -/
def e3 (t1 t2 t3 : Int) : Int := if t1 ≠ 0 then t1 else if t2 ≠ 0 then t2 else t3
theorem shT_is3 {p q r : Option Addr} {cp cq cr : Nat} {s a b : List ps.Fl} {t t1 t2 t3 : Int} (h : ShT [⟨p, cp, s⟩, ⟨q, cq, a⟩, ⟨r, cr, b⟩] t) (h1 : ps.Told s t1) (h2 : ps.Told a t2) (h3 : ps.Told b t3) : t = e3 t1 t2 t3 := by
  unfold e3
  rcases h with ⟨g, hn⟩ | ⟨g1, ⟨g, hn⟩ | ⟨g2, ⟨g, hn⟩ | ⟨g3, g⟩⟩⟩
  · have := g.one h1
    subst this
    rw [if_pos hn]
  · have e1 := g1.one h1
    have e2 := g.one h2
    subst e2
    rw [if_neg (by rw [← e1]; simp), if_pos hn]
  · have e1 := g1.one h1
    have e2 := g2.one h2
    have e3 := g.one h3
    rw [if_neg (by rw [← e1]; simp), if_neg (by rw [← e2]; simp)]
    exact e3
  · have e1 := g1.one h1
    have e2 := g2.one h2
    have e3 := g3.one h3
    rw [if_neg (by rw [← e1]; simp), if_neg (by rw [← e2]; simp), ← e3]
    exact g
theorem shT_is2 {p q : Option Addr} {cp cq : Nat} {s a : List ps.Fl} {t t1 t2 : Int} (h : ShT [⟨p, cp, s⟩, ⟨q, cq, a⟩] t) (h1 : ps.Told s t1) (h2 : ps.Told a t2) : t = if t1 ≠ 0 then t1 else t2 := by
  rcases h with ⟨g, hn⟩ | ⟨g1, ⟨g, hn⟩ | ⟨g2, g⟩⟩
  · have := g.one h1
    subst this
    rw [if_pos hn]
  · have e1 := g1.one h1
    have e2 := g.one h2
    subst e2
    rw [if_neg (by rw [← e1]; simp)]
  · have e1 := g1.one h1
    have e2 := g2.one h2
    rw [if_neg (by rw [← e1]; simp), ← e2]
    exact g
theorem ApT.one {l d : List ps.Fl} {t u : Int} (h : ApT l d t) (h' : ApT l d u) : t = u := by
  rcases h with ⟨h1, h2⟩ | ⟨h1, h2⟩
  · rcases h' with ⟨g1, -⟩ | ⟨g1, -⟩
    · exact h1.one g1
    · exact absurd (h1.one g1) h2
  · rcases h' with ⟨g1, g2⟩ | ⟨-, g2⟩
    · exact absurd (g1.one h1) g2
    · rcases h2 with ⟨h3, h4⟩ | ⟨h3, h4⟩
      · rcases g2 with ⟨g3, -⟩ | ⟨g3, -⟩
        · exact h3.one g3
        · exact absurd (h3.one g3) h4
      · rcases g2 with ⟨g3, g4⟩ | ⟨-, g4⟩
        · exact absurd (g3.one h3) g4
        · rcases h4 with ⟨h5, rfl⟩ | ⟨h5, rfl⟩
          · rcases g4 with ⟨g5, rfl⟩ | ⟨g5, rfl⟩
            · rfl
            · omega
          · rcases g4 with ⟨g5, rfl⟩ | ⟨g5, rfl⟩
            · omega
            · rfl
set_option maxRecDepth 1000000 in
set_option maxHeartbeats 16000000 in
theorem mergeThree_any (p q r : Option Addr) (cp cq cr : Nat) (s a b : List ps.Fl) (w : World) (hs : FC w p cp s) (ha : FC w q cq a) (hb : FC w r cr b) (hE : ps.EnvP w) (hT : ErrTy w) :
    Calls Tryz.prog 4 #[.slice p s.length cp, .slice q a.length cq, .slice r b.length cr] w fun e w' => e = .returned (.bool true) ∧ Bw w w' := by
  obtain ⟨t1, h1⟩ := ps.told_ex s
  obtain ⟨t2, h2⟩ := ps.told_ex a
  obtain ⟨t3, h3⟩ := ps.told_ex b
  have HC1 : Hid (∀ wx, Bw w wx → Calls Tryz.prog 9 #[.slice p s.length cp] wx fun e w' => e = .returned (.int .i64 t1) ∧ Bw w w') := fun wx h => (ps.rcheck_any p cp s wx (hs.1.below h)).mono fun e w' ⟨⟨t, e1, e2⟩, e4⟩ => ⟨by rw [e1, e2.one h1], h.tr e4⟩
  have HC2 : Hid (∀ wx, Bw w wx → Calls Tryz.prog 9 #[.slice q a.length cq] wx fun e w' => e = .returned (.int .i64 t2) ∧ Bw w w') := fun wx h => (ps.rcheck_any q cq a wx (ha.1.below h)).mono fun e w' ⟨⟨t, e1, e2⟩, e4⟩ => ⟨by rw [e1, e2.one h2], h.tr e4⟩
  have HC3 : Hid (∀ wx, Bw w wx → Calls Tryz.prog 9 #[.slice r b.length cr] wx fun e w' => e = .returned (.int .i64 t3) ∧ Bw w w') := fun wx h => (ps.rcheck_any r cr b wx (hb.1.below h)).mono fun e w' ⟨⟨t, e1, e2⟩, e4⟩ => ⟨by rw [e1, e2.one h3], h.tr e4⟩
  have HTy : Hid (∀ wx, Bw w wx → ErrTy wx) := fun wx h => hT.below h hT.1
  have HM0 : Hid (∀ t wx, Bw w wx → Calls Tryz.prog 12 #[.slice none 0 0, ps.errV t, .slice none 0 0, .int .i64 t] wx fun e w' => e = .returned (.bool true) ∧ Bw w w') := fun t wx h => (made_fm [] none none 0 0 t wx (.inl rfl) (.inl rfl) (by simp) (HTy.out wx h)).mono fun e w' ⟨e1, e2⟩ => ⟨e1, h.tr e2⟩
  have HK0 : Hid (∀ wx, Bw w wx → Calls Tryz.prog 17 #[.slice none 0 0, .slice none 0 0] wx fun e w' => e = .returned (.bool true) ∧ Bw w w') := fun wx h => (rcells_any [] _ _ wx wx wx (RV.nil cL wx) (RV.nil cL wx) (by simp)).mono fun e w' ⟨e1, e2⟩ => ⟨e1, h.tr e2⟩
  have HP : Hid (∀ wx, Bw w wx → Calls Tryz.prog 16 #[.slice p s.length cp, .slice q a.length cq, .slice r b.length cr] wx fun e w' => ∃ t, ThT [⟨p, cp, s⟩, ⟨q, cq, a⟩, ⟨r, cr, b⟩] (ps.th s a b).length t ∧ ThO wx s a b t e w') := fun wx h => three_any p q r cp cq cr s a b wx (hs.1.below h) (ha.1.below h) (hb.1.below h) (hE.below h hE.size)
  have HBad : Hid (e3 t1 t2 t3 ≠ 0 → ∀ wx, Bw w wx → Calls Tryz.prog 16 #[.slice p s.length cp, .slice q a.length cq, .slice r b.length cr] wx fun e w' => e = .returned (.tuple #[.slice none 0 0, .slice none 0 0, ps.errV (e3 t1 t2 t3)]) ∧ Bw w w') := fun h0 wx h => (HP.out wx h).mono fun e w' ⟨t, e1, e2⟩ => by
    have et : t = e3 t1 t2 t3 := by
      rcases e1 with ⟨g, -⟩ | ⟨g, -⟩ | ⟨g, -⟩
      · exact shT_is3 g h1 h2 h3
      · exact absurd (shT_is3 g h1 h2 h3).symm h0
      · exact absurd (shT_is3 g h1 h2 h3).symm h0
    subst et
    rcases e2 with ⟨-, e4, e5⟩ | ⟨e4, -⟩
    · exact ⟨e4, h.tr e5⟩
    · exact absurd e4 h0
  have HGood : Hid (t1 = 0 → t2 = 0 → t3 = 0 → ∀ wx, Bw w wx → Calls Tryz.prog 15 #[.slice p s.length cp, .slice q a.length cq, .slice r b.length cr] wx fun e w' =>
      (200 < (ps.th s a b).length ∧ e = .returned (.tuple #[.slice none 0 0, .slice none 0 0, .int .i64 4]) ∧ Bw w w') ∨
      ((ps.th s a b).length ≤ 200 ∧ ∃ pv cv u, e = .returned (.tuple #[.slice pv (ps.th s a b).length cv, u, .int .i64 0]) ∧ ps.FM w' pv (ps.th s a b) ∧ Bw w w' ∧ RV cL wx u (boT s a b) w')) := fun z1 z2 z3 wx h => by
    subst z1 z2 z3
    refine (rthree_any p q r cp cq cr s a b wx (hs.1.below h) (ha.1.below h) (hb.1.below h) h1.fine h2.fine h3.fine).mono fun e w' h5 => ?_
    rcases h5 with ⟨g1, g2, g3⟩ | ⟨g1, pv, cv, u, g2, g3, g4⟩
    · exact .inl ⟨g1, g2, h.tr g3⟩
    · exact .inr ⟨g1, pv, cv, u, g2, g3, h.tr g4.below, g4⟩
  have HSome : Hid (t1 = 0 → t2 = 0 → t3 = 0 → ∀ wx, Bw w wx → Calls Tryz.prog 16 #[.slice p s.length cp, .slice q a.length cq, .slice r b.length cr] wx fun e w' =>
      (200 < (ps.th s a b).length → e = .returned (.tuple #[.slice none 0 0, .slice none 0 0, ps.errV 4]) ∧ Bw w w') ∧
      ((ps.th s a b).length ≤ 200 → ∃ pv cv u, e = .returned (.tuple #[.slice pv (ps.th s a b).length cv, u, ps.errV 0]) ∧ ps.FM w' pv (ps.th s a b) ∧ Bw w w' ∧ Bw wx w' ∧ RV cL wx u (boT s a b) w')) := fun z1 z2 z3 wx h => by
    subst z1 z2 z3
    refine (HP.out wx h).mono fun e w' ⟨t, e1, e2⟩ => ?_
    have e4 : (200 < (ps.th s a b).length ∧ t = 4) ∨ ((ps.th s a b).length ≤ 200 ∧ t = 0) := by
      rcases e1 with ⟨g, g0⟩ | ⟨-, g⟩ | ⟨-, g⟩
      · exact absurd (shT_is3 g h1 h2 h3) g0
      · exact .inl g
      · exact .inr g
    rcases e4 with ⟨g1, rfl⟩ | ⟨g1, rfl⟩
    · refine ⟨fun _ => ?_, fun h => by omega⟩
      rcases e2 with ⟨-, e6, e5⟩ | ⟨e4, -⟩
      · exact ⟨e6, h.tr e5⟩
      · cases e4
    · refine ⟨fun h => by omega, fun _ => ?_⟩
      rcases e2 with ⟨e4, -⟩ | ⟨-, v, u, e4, e5, e6⟩
      · exact absurd rfl e4
      · obtain ⟨pv, cv, rfl, hf⟩ := e5.fc
        exact ⟨pv, cv, u, by rw [e4, ps.errV_zero], hf.1, h.tr e5.below, e5.below, e6⟩
  have HLT : Hid ((ps.th s a b).length ≤ 200 → True) := fun _ => trivial
  obtain ⟨ns, hns⟩ : ∃ n, s.length = n := ⟨_, rfl⟩
  obtain ⟨na, hna⟩ : ∃ n, a.length = n := ⟨_, rfl⟩
  obtain ⟨nb, hnb⟩ : ∃ n, b.length = n := ⟨_, rfl⟩
  rw [hns] at HC1
  rw [hna] at HC2
  rw [hnb] at HC3
  rw [hns, hna, hnb] at HBad HGood HSome
  rw [hns, hna, hnb]
  clear HP HLT hs ha hb hE hT hns hna hnb h1 h2 h3
  go_enter Tryz.func4, Tryz.ntmps4
  go_upto_region 2 with (first | (go_at_call 9; refine (HC1.out _ (Below.refl _ _)).mono ?_; rintro e w1 ⟨rfl, hb1⟩))
  have HB1 : Hid (Bw w w1) := hb1
  clear hb1 HC1
  by_cases z1 : t1 = 0
  · go_upto_region 4 with (first | (go_at_call 9; refine (HC2.out _ HB1.out).mono ?_; rintro e w2 ⟨rfl, hb2⟩))
    have HB2 : Hid (Bw w w2) := hb2
    clear hb2 HC2 HB1
    by_cases z2 : t2 = 0
    · go_upto_region 6 with (first | (go_at_call 9; refine (HC3.out _ HB2.out).mono ?_; rintro e w3 ⟨rfl, hb3⟩))
      have HB3 : Hid (Bw w w3) := hb3
      clear hb3 HC3 HB2
      by_cases z3 : t3 = 0
      · have HG := HGood.out z1 z2 z3
        have HSm := HSome.out z1 z2 z3
        have HGG : Hid _ := HG
        have HSS : Hid _ := HSm
        clear HG HSm HGood HSome HBad z1 z2
        subst z3
        go_upto_region 10 with (first | (go_at_call 15; refine (HGG.out _ HB3.out).mono ?_; rintro e w4 (⟨g1, rfl, hb4⟩ | ⟨g1, pv, cv, u, rfl, hf4, hb4, hu4⟩)))
        · have HMM : Hid _ := HM0.out 4
          have HB4 : Hid (Bw w w4 ∧ 200 < (ps.th s a b).length) := ⟨hb4, g1⟩
          clear hb4 g1 HGG HM0 HB3
          go_upto_region 11 with (first | (go_at_call 16; refine (HSS.out _ HB4.out.1).mono ?_; rintro e w5 ⟨h5, -⟩; obtain ⟨rfl, hb5⟩ := h5 HB4.out.2))
          clear h5 HSS
          generalize ps.errV 4 = ev at *
          go_wp2_with (first | (go_at_call 12; refine (HMM.out _ hb5).mono ?_; rintro e w6 ⟨rfl, hb6⟩) | (go_at_call 17; refine (HK0.out _ hb6).mono ?_; rintro e w7 ⟨rfl, hb7⟩))
          go_ret
          exact ⟨rfl, hb7⟩
        · have HB4 : Hid (Bw w w4 ∧ (ps.th s a b).length ≤ 200 ∧ ps.FM w4 pv (ps.th s a b) ∧ RV cL w3 u (boT s a b) w4) := ⟨hb4, g1, hf4, hu4⟩
          clear hb4 g1 hf4 hu4 HGG HM0 HB3
          go_upto_region 11 with (first | (go_at_call 16; refine (HSS.out _ HB4.out.1).mono ?_; rintro e w5 ⟨-, h5⟩; obtain ⟨pv5, cv5, u5, rfl, hf5, hb5, hx5, hu5⟩ := h5 HB4.out.2.1))
          have HMd : Hid (Calls Tryz.prog 12 #[.slice pv5 (ps.th s a b).length cv5, ps.errV 0, .slice pv (ps.th s a b).length cv, .int .i64 0] w5 fun e w' => e = .returned (.bool true) ∧ Bw w5 w') := made_fm (ps.th s a b) pv5 pv cv5 cv 0 w5 hf5 (fm_next HB4.out.2.2.1 hx5) (by have := HB4.out.2.1; omega) (HTy.out _ hb5)
          have HCe : Hid (∀ wx, Bw w5 wx → Calls Tryz.prog 17 #[u5, u] wx fun e w' => e = .returned (.bool true) ∧ Bw w w') := fun wx h => (rcells_any (boT s a b) _ _ _ _ wx (hu5.next h) ((HB4.out.2.2.2.next hx5).next h) (by have := boT_len s a b; omega)).mono fun e w' ⟨e1, e2⟩ => ⟨e1, (hb5.tr h).tr e2⟩
          clear h5 HSS hf5 hb5 hx5 hu5 HB4
          generalize ps.errV 0 = ev at *
          generalize (ps.th s a b).length = m at *
          go_wp2_with (first | (go_at_call 12; refine HMd.out.mono ?_; rintro e w6 ⟨rfl, hb6⟩) | (go_at_call 17; refine (HCe.out _ hb6).mono ?_; rintro e w7 ⟨rfl, hb7⟩))
          go_ret
          exact ⟨rfl, hb7⟩
      · have HE3 : Hid (e3 t1 t2 t3 = t3) := by show e3 t1 t2 t3 = t3; unfold e3; rw [if_neg (by simp [z1]), if_neg (by simp [z2])]
        have HBd := HBad.out (by rw [HE3.out]; exact z3)
        rw [HE3.out] at HBd
        have HBB : Hid _ := HBd
        have HMM : Hid _ := HM0.out t3
        clear HBd HE3 HBad HGood HSome HM0
        generalize ps.errV t3 = ev at *
        go_wp2_with (first | (go_at_call 16; refine (HBB.out _ HB3.out).mono ?_; rintro e w4 ⟨rfl, hb4⟩) | (go_at_call 12; refine (HMM.out _ hb4).mono ?_; rintro e w5 ⟨rfl, hb5⟩) | (go_at_call 17; refine (HK0.out _ hb5).mono ?_; rintro e w6 ⟨rfl, hb6⟩))
        go_ret
        exact ⟨rfl, hb6⟩
    · have HE3 : Hid (e3 t1 t2 t3 = t2) := by show e3 t1 t2 t3 = t2; unfold e3; rw [if_neg (by simp [z1]), if_pos z2]
      have HBd := HBad.out (by rw [HE3.out]; exact z2)
      rw [HE3.out] at HBd
      have HBB : Hid _ := HBd
      have HMM : Hid _ := HM0.out t2
      clear HBd HE3 HBad HGood HSome HM0
      generalize ps.errV t2 = ev at *
      go_wp2_with (first | (go_at_call 16; refine (HBB.out _ HB2.out).mono ?_; rintro e w4 ⟨rfl, hb4⟩) | (go_at_call 12; refine (HMM.out _ hb4).mono ?_; rintro e w5 ⟨rfl, hb5⟩) | (go_at_call 17; refine (HK0.out _ hb5).mono ?_; rintro e w6 ⟨rfl, hb6⟩))
      go_ret
      exact ⟨rfl, hb6⟩
  · have HE3 : Hid (e3 t1 t2 t3 = t1) := by show e3 t1 t2 t3 = t1; unfold e3; rw [if_pos z1]
    have HBd := HBad.out (by rw [HE3.out]; exact z1)
    rw [HE3.out] at HBd
    have HBB : Hid _ := HBd
    have HMM : Hid _ := HM0.out t1
    clear HBd HE3 HBad HGood HSome HM0
    generalize ps.errV t1 = ev at *
    go_wp2_with (first | (go_at_call 16; refine (HBB.out _ HB1.out).mono ?_; rintro e w4 ⟨rfl, hb4⟩) | (go_at_call 12; refine (HMM.out _ hb4).mono ?_; rintro e w5 ⟨rfl, hb5⟩) | (go_at_call 17; refine (HK0.out _ hb5).mono ?_; rintro e w6 ⟨rfl, hb6⟩))
    go_ret
    exact ⟨rfl, hb6⟩
end Go.Proofs.YtomgjjngkffbbaaGreatDoor.fw
namespace Go.Proofs.YtomgjjngkffbbaaGreatDoor.fw
open Go Go.RowKit Go.Sort Go.Maps
set_option maxRecDepth 1000000 in
set_option maxHeartbeats 16000000 in
theorem mergeDiffs_any (p q r : Option Addr) (cp cq cr : Nat) (a b d : List ps.Fl) (w : World) (ha : FC w p cp a) (hb : FC w q cq b) (hd : FC w r cr d) (hdl : d.length ≤ 4398046511104) (hE : ps.EnvP w) (hT : ErrTy w) :
    Calls Tryz.prog 3 #[.slice p a.length cp, .slice q b.length cq, .slice r d.length cr] w fun e w' => e = .returned (.bool true) ∧ Bw w w' := by
  obtain ⟨t1, h1⟩ := ps.told_ex a
  obtain ⟨t2, h2⟩ := ps.told_ex b
  have HC1 : Hid (∀ wx, Bw w wx → Calls Tryz.prog 9 #[.slice p a.length cp] wx fun e w' => e = .returned (.int .i64 t1) ∧ Bw w w') := fun wx h => (ps.rcheck_any p cp a wx (ha.1.below h)).mono fun e w' ⟨⟨t, e1, e2⟩, e4⟩ => ⟨by rw [e1, e2.one h1], h.tr e4⟩
  have HC2 : Hid (∀ wx, Bw w wx → Calls Tryz.prog 9 #[.slice q b.length cq] wx fun e w' => e = .returned (.int .i64 t2) ∧ Bw w w') := fun wx h => (ps.rcheck_any q cq b wx (hb.1.below h)).mono fun e w' ⟨⟨t, e1, e2⟩, e4⟩ => ⟨by rw [e1, e2.one h2], h.tr e4⟩
  have HTy : Hid (∀ wx, Bw w wx → ErrTy wx) := fun wx h => hT.below h hT.1
  have HM0 : Hid (∀ t wx, Bw w wx → Calls Tryz.prog 12 #[.slice none 0 0, ps.errV t, .slice none 0 0, .int .i64 t] wx fun e w' => e = .returned (.bool true) ∧ Bw w w') := fun t wx h => (made_fm [] none none 0 0 t wx (.inl rfl) (.inl rfl) (by simp) (HTy.out wx h)).mono fun e w' ⟨e1, e2⟩ => ⟨e1, h.tr e2⟩
  have HBad : Hid ((if t1 ≠ 0 then t1 else t2) ≠ 0 → ∀ wx, Bw w wx → Calls Tryz.prog 11 #[.slice p a.length cp, .slice q b.length cq] wx fun e w' => e = .returned (.tuple #[.slice none 0 0, ps.errV (if t1 ≠ 0 then t1 else t2)]) ∧ Bw w w') := fun h0 wx h => (diff_any p q cp cq a b wx (ha.1.below h) (hb.1.below h) (hE.below h hE.size)).mono fun e w' ⟨t, e1, e2⟩ => by
    have et := shT_is2 e1 h1 h2
    rw [← et] at h0 ⊢
    rcases e2 with ⟨-, e4, e5⟩ | ⟨e4, -⟩
    · exact ⟨e4, h.tr e5⟩
    · exact absurd e4 h0
  have HGood : Hid (t1 = 0 → t2 = 0 → (∀ wx, Bw w wx → Calls Tryz.prog 10 #[.slice p a.length cp, .slice q b.length cq] wx fun e w' => ∃ p' c', e = .returned (.slice p' (ps.df a b 2574).length c') ∧ ps.FM w' p' (ps.df a b 2574) ∧ Bw w w') ∧
      ∀ wx, Bw w wx → Calls Tryz.prog 11 #[.slice p a.length cp, .slice q b.length cq] wx fun e w' => ∃ p' c', e = .returned (.tuple #[.slice p' (ps.df a b 2574).length c', ps.errV 0]) ∧ ps.FM w' p' (ps.df a b 2574) ∧ Bw wx w') := fun z1 z2 => by
    subst z1 z2
    refine ⟨fun wx h => ?_, fun wx h => ?_⟩
    · exact (rdiff_fm p q cp cq a b wx (ha.1.below h) (hb.1.below h) (by have := h1.fine.len; omega) (by have := h2.fine.len; omega)).mono fun e w' ⟨p', c', e1, e2, e3⟩ => ⟨p', c', e1, e2.1, h.tr e3⟩
    · exact (diff_good p q cp cq a b wx (ha.1.below h) (hb.1.below h) (hE.below h hE.size) h1 h2).mono fun e w' ⟨p', c', e1, e2, e3⟩ => ⟨p', c', by rw [e1, ps.errV_zero], e2.1, e3⟩
  obtain ⟨tt, HTT⟩ : ∃ tt, Hid (∀ t, ApT a d t → t = tt) := by
    by_cases hh : ∃ t, ApT a d t
    · obtain ⟨t, ht⟩ := hh
      exact ⟨t, fun u hu => hu.one ht⟩
    · exact ⟨0, fun u hu => absurd ⟨u, hu⟩ hh⟩
  have HRA : Hid (∀ wx, Bw w wx → Calls Tryz.prog 13 #[.slice p a.length cp, .slice r d.length cr] wx fun e w' => (tt ≠ 0 ∧ e = .returned (.tuple #[.slice none 0 0, .int .i64 tt]) ∧ Bw w w') ∨ (tt = 0 ∧ ∃ p c, e = .returned (.tuple #[.slice p (ps.ap a d).length c, .int .i64 0]) ∧ ps.FM w' p (ps.ap a d) ∧ Bw w w' ∧ (ps.ap a d).length ≤ 200)) := fun wx h => (rapplied_any p r cp cr a d wx (ha.1.below h) (hd.1.below h) hdl).mono fun e w' ⟨t, e1, e2⟩ => by
    obtain rfl := HTT.out t e1
    rcases e2 with ⟨e3, e4, e5⟩ | ⟨e3, p', c', e4, e5, e6⟩
    · exact .inl ⟨e3, e4, h.tr e5⟩
    · refine .inr ⟨e3, p', c', e4, e5, h.tr e6, ?_⟩
      rcases e1 with ⟨-, g⟩ | ⟨-, ⟨-, g⟩ | ⟨-, ⟨-, g⟩ | ⟨g, -⟩⟩⟩
      · exact absurd e3 g
      · exact absurd e3 g
      · rw [e3] at g; cases g
      · exact g
  have HPA : Hid (∀ wx, Bw w wx → Calls Tryz.prog 14 #[.slice p a.length cp, .slice r d.length cr] wx fun e w' => (tt ≠ 0 → e = .returned (.tuple #[.slice none 0 0, ps.errV tt]) ∧ Bw w w') ∧ (tt = 0 → ∃ p c, e = .returned (.tuple #[.slice p (ps.ap a d).length c, ps.errV 0]) ∧ ps.FM w' p (ps.ap a d) ∧ Bw wx w')) := fun wx h => (apply_any p r cp cr a d wx (ha.1.below h) ha.2 (hd.1.below h) hdl (hE.below h hE.size)).mono fun e w' ⟨t, e1, e2⟩ => by
    obtain rfl := HTT.out t e1
    rcases e2 with ⟨e3, e4, e5⟩ | ⟨e3, v, e4, e5⟩
    · exact ⟨fun _ => ⟨e4, h.tr e5⟩, fun h => absurd h e3⟩
    · refine ⟨fun h => absurd e3 h, fun _ => ?_⟩
      obtain ⟨p', c', rfl, hf⟩ := e5.fc
      exact ⟨p', c', by rw [e4, ps.errV_zero], hf.1, e5.below⟩
  have HLD : Hid ((ps.df a b 2574).length ≤ 2574) := df_len
  obtain ⟨na, hna⟩ : ∃ n, a.length = n := ⟨_, rfl⟩
  obtain ⟨nb, hnb⟩ : ∃ n, b.length = n := ⟨_, rfl⟩
  obtain ⟨nd, hnd⟩ : ∃ n, d.length = n := ⟨_, rfl⟩
  rw [hna] at HC1
  rw [hnb] at HC2
  rw [hna, hnb] at HBad HGood
  rw [hna, hnd] at HRA HPA
  rw [hna, hnb, hnd]
  clear ha hb hd hdl hE hT hna hnb hnd h1 h2 HTT
  generalize ps.df a b 2574 = D at *
  generalize ps.ap a d = L at *
  go_enter Tryz.func3, Tryz.ntmps3
  go_upto_region 2 with (first | (go_at_call 9; refine (HC1.out _ (Below.refl _ _)).mono ?_; rintro e w1 ⟨rfl, hb1⟩))
  have HB1 : Hid (Bw w w1) := hb1
  clear hb1 HC1
  by_cases z1 : t1 = 0
  · go_upto_region 4 with (first | (go_at_call 9; refine (HC2.out _ HB1.out).mono ?_; rintro e w2 ⟨rfl, hb2⟩))
    have HB2 : Hid (Bw w w2) := hb2
    clear hb2 HC2 HB1
    by_cases z2 : t2 = 0
    · obtain ⟨g1, g2⟩ := HGood.out z1 z2
      have HG1 : Hid _ := g1
      have HG2 : Hid _ := g2
      clear g1 g2 HGood HBad z1
      subst z2
      go_upto_region 7 with (first | (go_at_call 10; refine (HG1.out _ HB2.out).mono ?_; rintro e w3 ⟨p3, c3, rfl, hf3, hb3⟩))
      have HB3 : Hid (Bw w w3 ∧ ps.FM w3 p3 D) := ⟨hb3, hf3⟩
      clear hb3 hf3 HG1 HB2
      go_upto_region 8 with (first | (go_at_call 11; refine (HG2.out _ HB3.out.1).mono ?_; rintro e w4 ⟨p4, c4, rfl, hf4, hb4⟩))
      have HMD : Hid (Calls Tryz.prog 12 #[.slice p4 D.length c4, ps.errV 0, .slice p3 D.length c3, .int .i64 0] w4 fun e w' => e = .returned (.bool true) ∧ Bw w w') := (made_fm D p4 p3 c4 c3 0 w4 hf4 (fm_next HB3.out.2 hb4) (by have := HLD.out; omega) (HTy.out _ (HB3.out.1.tr hb4))).mono fun e w' ⟨e1, e2⟩ => ⟨e1, (HB3.out.1.tr hb4).tr e2⟩
      clear hf4 hb4 HB3 HG2
      go_upto_region 9 with (first | (go_at_call 12; refine HMD.out.mono ?_; rintro e w8 ⟨rfl, hb8⟩))
      clear HMD
      have HB8 : Hid (Bw w w8) := hb8
      clear hb8
      by_cases zt : tt = 0
      · have HPZ : Hid _ := fun wx h => ((HPA.out wx h).mono fun e w' h => h.2 zt)
        subst zt
        go_upto_region 10 with (first | (go_at_call 13; refine (HRA.out _ HB8.out).mono ?_; rintro e wA (⟨hz, -⟩ | ⟨-, pa, ca, rfl, hfa, hba, hla⟩); exact absurd rfl hz))
        have HA : Hid (Bw w wA ∧ ps.FM wA pa L ∧ L.length ≤ 200) := ⟨hba, hfa, hla⟩
        clear hba hfa hla HRA HPA
        go_upto_region 11 with (first | (go_at_call 14; refine (HPZ.out _ HA.out.1).mono ?_; rintro e wB ⟨pb, cb, rfl, hfb, hbb⟩))
        have HMd : Hid (Calls Tryz.prog 12 #[.slice pb L.length cb, ps.errV 0, .slice pa L.length ca, .int .i64 0] wB fun e w' => e = .returned (.bool true) ∧ Bw w w') := (made_fm L pb pa cb ca 0 wB hfb (fm_next HA.out.2.1 hbb) (by have := HA.out.2.2; omega) (HTy.out _ (HA.out.1.tr hbb))).mono fun e w' ⟨e1, e2⟩ => ⟨e1, (HA.out.1.tr hbb).tr e2⟩
        clear hfb hbb HA HPZ HM0
        generalize ps.errV 0 = ev at *
        generalize L.length = nl at *
        go_wp2_with (first | (go_at_call 12; refine HMd.out.mono ?_; rintro e wC ⟨rfl, hbC⟩))
        go_ret
        exact ⟨rfl, hbC⟩
      · have HPN : Hid _ := fun wx h => ((HPA.out wx h).mono fun e w' h => h.1 zt)
        have HMT : Hid _ := HM0.out tt
        have HZT : Hid (tt ≠ 0) := zt
        clear zt
        go_upto_region 10 with (first | (go_at_call 13; refine (HRA.out _ HB8.out).mono ?_; rintro e wA (⟨-, rfl, hba⟩ | ⟨hz, -⟩); rotate_left; exact absurd hz HZT.out))
        have HA : Hid (Bw w wA) := hba
        clear hba HRA HPA HM0
        go_upto_region 11 with (first | (go_at_call 14; refine (HPN.out _ HA.out).mono ?_; rintro e wB ⟨rfl, hbb⟩))
        clear HPN HA
        generalize ps.errV tt = ev at *
        go_wp2_with (first | (go_at_call 12; refine (HMT.out _ hbb).mono ?_; rintro e wC ⟨rfl, hbC⟩))
        go_ret
        exact ⟨rfl, hbC⟩
    · have HE3 : Hid ((if t1 ≠ 0 then t1 else t2) = t2) := by show _ = _; rw [if_neg (by simp [z1])]
      have HBd := HBad.out (by rw [HE3.out]; assumption)
      rw [HE3.out] at HBd
      have HBB : Hid _ := HBd
      have HMM : Hid _ := HM0.out t2
      clear HBd HE3 HBad HGood
      go_upto_region 8 with (first | (go_at_call 11; refine (HBB.out _ HB2.out).mono ?_; rintro e w4 ⟨rfl, hb4⟩))
      clear HBB HB2
      go_upto_region 9 with (first | (go_at_call 12; refine (HMM.out _ hb4).mono ?_; rintro e w8 ⟨rfl, hb8⟩))
      clear HMM hb4
      have HB8 : Hid (Bw w w8) := hb8
      clear hb8
      by_cases zt : tt = 0
      · have HPZ : Hid _ := fun wx h => ((HPA.out wx h).mono fun e w' h => h.2 zt)
        subst zt
        go_upto_region 10 with (first | (go_at_call 13; refine (HRA.out _ HB8.out).mono ?_; rintro e wA (⟨hz, -⟩ | ⟨-, pa, ca, rfl, hfa, hba, hla⟩); exact absurd rfl hz))
        have HA : Hid (Bw w wA ∧ ps.FM wA pa L ∧ L.length ≤ 200) := ⟨hba, hfa, hla⟩
        clear hba hfa hla HRA HPA
        go_upto_region 11 with (first | (go_at_call 14; refine (HPZ.out _ HA.out.1).mono ?_; rintro e wB ⟨pb, cb, rfl, hfb, hbb⟩))
        have HMd : Hid (Calls Tryz.prog 12 #[.slice pb L.length cb, ps.errV 0, .slice pa L.length ca, .int .i64 0] wB fun e w' => e = .returned (.bool true) ∧ Bw w w') := (made_fm L pb pa cb ca 0 wB hfb (fm_next HA.out.2.1 hbb) (by have := HA.out.2.2; omega) (HTy.out _ (HA.out.1.tr hbb))).mono fun e w' ⟨e1, e2⟩ => ⟨e1, (HA.out.1.tr hbb).tr e2⟩
        clear hfb hbb HA HPZ HM0
        generalize ps.errV 0 = ev at *
        generalize L.length = nl at *
        go_wp2_with (first | (go_at_call 12; refine HMd.out.mono ?_; rintro e wC ⟨rfl, hbC⟩))
        go_ret
        exact ⟨rfl, hbC⟩
      · have HPN : Hid _ := fun wx h => ((HPA.out wx h).mono fun e w' h => h.1 zt)
        have HMT : Hid _ := HM0.out tt
        have HZT : Hid (tt ≠ 0) := zt
        clear zt
        go_upto_region 10 with (first | (go_at_call 13; refine (HRA.out _ HB8.out).mono ?_; rintro e wA (⟨-, rfl, hba⟩ | ⟨hz, -⟩); rotate_left; exact absurd hz HZT.out))
        have HA : Hid (Bw w wA) := hba
        clear hba HRA HPA HM0
        go_upto_region 11 with (first | (go_at_call 14; refine (HPN.out _ HA.out).mono ?_; rintro e wB ⟨rfl, hbb⟩))
        clear HPN HA
        generalize ps.errV tt = ev at *
        go_wp2_with (first | (go_at_call 12; refine (HMT.out _ hbb).mono ?_; rintro e wC ⟨rfl, hbC⟩))
        go_ret
        exact ⟨rfl, hbC⟩
  · have HE3 : Hid ((if t1 ≠ 0 then t1 else t2) = t1) := by show _ = _; rw [if_pos z1]
    have HBd := HBad.out (by rw [HE3.out]; assumption)
    rw [HE3.out] at HBd
    have HBB : Hid _ := HBd
    have HMM : Hid _ := HM0.out t1
    clear HBd HE3 HBad HGood
    go_upto_region 8 with (first | (go_at_call 11; refine (HBB.out _ HB1.out).mono ?_; rintro e w4 ⟨rfl, hb4⟩))
    clear HBB HB1
    go_upto_region 9 with (first | (go_at_call 12; refine (HMM.out _ hb4).mono ?_; rintro e w8 ⟨rfl, hb8⟩))
    clear HMM hb4
    have HB8 : Hid (Bw w w8) := hb8
    clear hb8
    by_cases zt : tt = 0
    · have HPZ : Hid _ := fun wx h => ((HPA.out wx h).mono fun e w' h => h.2 zt)
      subst zt
      go_upto_region 10 with (first | (go_at_call 13; refine (HRA.out _ HB8.out).mono ?_; rintro e wA (⟨hz, -⟩ | ⟨-, pa, ca, rfl, hfa, hba, hla⟩); exact absurd rfl hz))
      have HA : Hid (Bw w wA ∧ ps.FM wA pa L ∧ L.length ≤ 200) := ⟨hba, hfa, hla⟩
      clear hba hfa hla HRA HPA
      go_upto_region 11 with (first | (go_at_call 14; refine (HPZ.out _ HA.out.1).mono ?_; rintro e wB ⟨pb, cb, rfl, hfb, hbb⟩))
      have HMd : Hid (Calls Tryz.prog 12 #[.slice pb L.length cb, ps.errV 0, .slice pa L.length ca, .int .i64 0] wB fun e w' => e = .returned (.bool true) ∧ Bw w w') := (made_fm L pb pa cb ca 0 wB hfb (fm_next HA.out.2.1 hbb) (by have := HA.out.2.2; omega) (HTy.out _ (HA.out.1.tr hbb))).mono fun e w' ⟨e1, e2⟩ => ⟨e1, (HA.out.1.tr hbb).tr e2⟩
      clear hfb hbb HA HPZ HM0
      generalize ps.errV 0 = ev at *
      generalize L.length = nl at *
      go_wp2_with (first | (go_at_call 12; refine HMd.out.mono ?_; rintro e wC ⟨rfl, hbC⟩))
      go_ret
      exact ⟨rfl, hbC⟩
    · have HPN : Hid _ := fun wx h => ((HPA.out wx h).mono fun e w' h => h.1 zt)
      have HMT : Hid _ := HM0.out tt
      have HZT : Hid (tt ≠ 0) := zt
      clear zt
      go_upto_region 10 with (first | (go_at_call 13; refine (HRA.out _ HB8.out).mono ?_; rintro e wA (⟨-, rfl, hba⟩ | ⟨hz, -⟩); rotate_left; exact absurd hz HZT.out))
      have HA : Hid (Bw w wA) := hba
      clear hba HRA HPA HM0
      go_upto_region 11 with (first | (go_at_call 14; refine (HPN.out _ HA.out).mono ?_; rintro e wB ⟨rfl, hbb⟩))
      clear HPN HA
      generalize ps.errV tt = ev at *
      go_wp2_with (first | (go_at_call 12; refine (HMT.out _ hbb).mono ?_; rintro e wC ⟨rfl, hbC⟩))
      go_ret
      exact ⟨rfl, hbC⟩
end Go.Proofs.YtomgjjngkffbbaaGreatDoor.fw

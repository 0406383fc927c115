/- The reference's Swap: cells put in their order, one by one. Conditions: as each theorem says. -/
import Derived.Test.YtcekgefkimbfaaaGreatDoorWg
import Derived.Test.YtcekgefkimbfaaaGreatDoorWe
import Derived.Test.YtcekgefkimbfaaaGreatDoorAs
namespace Go.Proofs.YtcekgefkimbfaaaGreatDoor.ps
open Go.RowKit
open adr (C isC ckc)
/-- A list of the call's own, and a new one that is made of it. -/
structure TW (w : World) (u : Value) (us : List Fl) (v : Value) (ys : List Fl) (wx : World) : Prop where
  old : wx.ownsRow w.heap.size 36 3 u us.length (flF us)
  own : wx.ownsRow w.heap.size 36 3 v ys.length (flF ys)
  ne : ∀ b, u.ownBlock = some b → v.ownBlock ≠ some b
  below : Below w.heap.size w wx
theorem TW.start {w : World} {u : Value} {us : List Fl} {wx : World} (h : LV w u us wx) : TW w u us (.slice none 0 0) [] wx := ⟨h.own, ⟨rfl, .inl ⟨rfl, rfl⟩⟩, fun _ _ e => by simp [Value.ownBlock] at e, h.below⟩
theorem TW.next {w : World} {u : Value} {us : List Fl} {v : Value} {ys : List Fl} {wx wy : World} (h : TW w u us v ys wx) (hb : Below wx.heap.size wx wy) : TW w u us v ys wy := ⟨own_next h.old hb, own_next h.own hb, h.ne, bnext h.below hb h.below.size⟩
theorem TW.done {w : World} {u : Value} {us : List Fl} {v : Value} {ys : List Fl} {wx : World} (h : TW w u us v ys wx) : LV w v ys wx := ⟨h.own, h.below⟩
theorem TW.more {w : World} {u : Value} {us : List Fl} {v : Value} {ys : List Fl} {wx : World} (h : TW w u us v ys wx) (hy : ys.length ≤ 1000) {p : Option Addr} {zs : List Fl} (hz : FM wx p zs) (hl : zs.length ≤ 1000) {n : Nat} (hn : zs.length = n) (c : Nat) :
    ∃ p' n' c' w', (Builtin.append_ #[22, 22] 22 #[v, .slice p n c]).run Tryz.prog wx = .ok (.slice p' n' c') w' ∧ TW w u us (.slice p' n' c') (ys ++ zs) w' := by
  subst hn
  obtain ⟨v', w', h1, h2, h3, h4, h5, h6⟩ := app_many wx w.heap.size h.below.size v ys.length (flF ys) h.own hy p zs c hz hl
  have ho : w'.ownsRow w.heap.size 36 3 v' (ys ++ zs).length (flF (ys ++ zs)) := by rw [flF_app, List.length_append]; exact h2
  obtain ⟨p', c', rfl, -⟩ := FB.shape (own_base ho (Nat.zero_le _))
  refine ⟨p', _, c', w', h1, ⟨⟨h.old.1, ?_⟩, ho, fun b hb e => ?_, h.below.trans h3⟩⟩
  · rcases h.old.2 with h0 | ⟨g, cap, cur, e1, e2, hg, e4⟩
    · exact .inl h0
    · exact .inr ⟨g, cap, cur, e1, e2, (h4 g (fm.lt_blk hg) (h.ne g (by rw [e1]; rfl))).trans hg, e4⟩
  · rcases h5 b e with e' | e'
    · exact h.ne b hb e'
    · have := (h.old.lt b hb).2
      omega
theorem TW.fm {w : World} {u : Value} {us : List Fl} {v : Value} {ys : List Fl} {wx : World} (h : TW w u us v ys wx) {p : Option Addr} {n c : Nat} (e : u = .slice p n c) : FM wx p us := by
  obtain ⟨p', c', e', hM⟩ := FB.shape (own_base h.old (Nat.zero_le _))
  rw [e] at e'
  injection e' with e1
  subst e1
  exact hM
theorem FM.take {w : World} {p : Option Addr} {xs : List Fl} (h : FM w p xs) (k : Nat) : FM w p (xs.take k) := by
  rcases h with h | ⟨g, o, h1, h2, h3⟩
  · left; rw [h]; simp
  · refine .inr ⟨g, o, h1, h2, fun t u hu => h3 t u ?_⟩
    have e : flF xs = flF (xs.take k) ++ flF (xs.drop k) := by rw [← flF_app, List.take_append_drop]
    rw [e, List.getElem?_append_left (List.getElem?_eq_some_iff.1 hu).1]
    exact hu
theorem FM.dropk {w : World} {g o : Nat} {xs : List Fl} (h : FM w (Option.some ⟨g, o, none⟩) xs) (k : Nat) (hk : k ≤ xs.length) : FM w (Option.some ⟨g, o + k * 3, none⟩) (xs.drop k) := by
  rcases h with h | ⟨g', o', h1, h2, h3⟩
  · left; rw [h]; simp
  · injection h1 with h1; injection h1 with e1 e2; subst e1 e2
    refine .inr ⟨g, o + k * 3, rfl, h2, fun t u hu => ?_⟩
    have e : flF xs = flF (xs.take k) ++ flF (xs.drop k) := by rw [← flF_app, List.take_append_drop]
    have hl : (flF (xs.take k)).length = k * 3 := by rw [flF_len, List.length_take, Nat.min_eq_left hk]
    have := h3 (k * 3 + t) u (by rw [e, List.getElem?_append_right (by omega), hl, Nat.add_sub_cancel_left]; exact hu)
    rwa [← Nat.add_assoc] at this
/-- So many of the first stand ahead of a cell. -/
def Hd (us : List Fl) (x : Fl) (k : Nat) : Prop := ∀ j y, j < k → us[j]? = some y → lt y x.c x.r = true
theorem ins_cut {us : List Fl} {x : Fl} {k : Nat} (hk : k ≤ us.length) (h : Hd us x k) (h2 : ∀ y, us[k]? = some y → lt y x.c x.r = false) : ins us x = us.take k ++ [x] ++ us.drop k := by
  have key : us.takeWhile (fun y => lt y x.c x.r) = us.take k ∧ us.dropWhile (fun y => lt y x.c x.r) = us.drop k := by
    induction us generalizing k with
    | nil => simp
    | cons y us ih =>
      cases k with
      | zero =>
        have := h2 y rfl
        simp [this]
      | succ k =>
        have hy := h 0 y (by omega) rfl
        have := ih (k := k) (by simpa using hk) (fun j z hj hz => h (j + 1) z (by omega) (by simpa using hz)) (fun z hz => h2 z (by simpa using hz))
        simp [hy, this]
  unfold ins
  rw [key.1, key.2]
  simp
/-- The place in the new list and the cell that is put in, opened. -/
abbrev SG (wr : World) (gy oy gx ox : Nat) (y x : Fl) (wx : World) : Prop := wx.cell? ⟨gy, oy, none⟩ = some (.int .i64 y.c) ∧ wx.cell? ⟨gy, oy + 1, none⟩ = some (.int .i64 y.r) ∧ wx.cell? ⟨gx, ox, none⟩ = some (.int .i64 x.c) ∧ wx.cell? ⟨gx, ox + 1, none⟩ = some (.int .i64 x.r) ∧ Below wr.heap.size wr wx
theorem sgb {wr : World} {gy oy gx ox : Nat} {y x : Fl} {wx : World} (h : SG wr gy oy gx ox y x wx) : Below wr.heap.size wr wx := h.2.2.2.2
set_option maxRecDepth 100000 in
set_option maxHeartbeats 8000000 in
theorem rsorted_any (p : Option Addr) (c : Nat) (xs : List Fl) (w : World) (hx : FM w p xs) (hl : xs.length ≤ 200) :
    Calls Tryz.prog 34 #[.slice p xs.length c] w fun e w' => (∃ q d, e = .returned (.slice q xs.length d) ∧ FM w' q (sortR xs)) ∧ Below w.heap.size w w' := by
  obtain ⟨n, hn⟩ : ∃ n, xs.length = n := ⟨_, rfl⟩
  have HN : Hid (xs.length = n) := hn
  rw [hn] at hl ⊢
  have HX : Hid (FM w p xs) := hx
  have hn2 : (n : Int) ≤ 200 := by omega
  clear hx hn
  go_enter Tryz.func34, Tryz.ntmps34
  go_wp2_with fail
  go_loopw [3, 4] (fun v i wr => ∃ k : Nat, i = .int .i64 k ∧ k ≤ n ∧ (∃ p c, v = .slice p (sortR (xs.take k)).length c) ∧ LV w v (sortR (xs.take k)) wr) (fun _ i _ => n - (intOf i).toNat)
  case atStart => exact ⟨0, rfl, Nat.zero_le _, ⟨none, 0, rfl⟩, LV.nil w⟩
  case round =>
    generalize wr = wo at *
    obtain ⟨k, rfl, hk, ⟨pv, cv, rfl⟩, hL⟩ := hrel
    have HL : Hid (LV w (.slice pv (sortR (xs.take k)).length cv) (sortR (xs.take k)) wo) := hL
    have HM : Hid ((sortR (xs.take k)).length = k) := by unfold Hid; rw [sortR_len, List.length_take, HN.out]; omega
    clear hL
    rw [HM.out] at HL ⊢
    by_cases hin : k < n
    · have hiN : (k : Int) < (n : Int) := by omega
      have hi0 : (0 : Int) ≤ (k : Int) := by omega
      have hi200 : (k : Int) ≤ 200 := by omega
      obtain ⟨x, hx⟩ : ∃ x, xs[k]? = some x := ⟨_, List.getElem?_eq_getElem (by rw [HN.out]; exact hin)⟩
      have HXi : Hid (xs[k]? = some x) := hx
      obtain ⟨gx, ox, rfl, hgx⟩ := HX.out.at hx
      have HSn : Hid (sortR (xs.take (k + 1)) = ins (sortR (xs.take k)) x) := by unfold Hid; rw [List.take_add_one, hx]; exact sortR_snoc _ _
      clear hx
      generalize sortR (xs.take k) = us at *
      go_upto_block 2 with fail
      go_cut [5] (fun s5 wx => ∃ m : Nat, s5 = .int .i64 m ∧ m ≤ k ∧ ins us x = us.take m ++ [x] ++ us.drop m ∧ Below wo.heap.size wo wx)
      case first =>
        have HW0 : Hid (Below w.heap.size w wo ∧ FM wo pv us) := ⟨HL.out.below, (TW.start HL.out).fm rfl⟩
        go_wp2_with fail
        go_loopw [5] (fun j wy => ∃ m : Nat, j = .int .i64 m ∧ m ≤ k ∧ Hd us x m ∧ Below wo.heap.size wo wy) (fun j _ => k - (intOf j).toNat)
        case atStart => exact ⟨0, rfl, Nat.zero_le _, fun j y hj => absurd hj (Nat.not_lt_zero _), Below.refl _ _⟩
        case round =>
          obtain ⟨m, rfl, hm, hH, hbw⟩ := hrel
          have HH : Hid (Hd us x m ∧ Below wo.heap.size wo wr) := ⟨hH, hbw⟩
          have HBW : Hid (Below w.heap.size w wr) := bnext HW0.out.1 hbw HW0.out.1.size
          clear hH hbw
          by_cases hmk : m < k
          · have hmI : (m : Int) < (k : Int) := by omega
            have hm0 : (0 : Int) ≤ (m : Int) := by omega
            have hmb : (m == k) = false := by simp; omega
            obtain ⟨y, hy⟩ : ∃ y, us[m]? = some y := ⟨_, List.getElem?_eq_getElem (by rw [HM.out]; exact hmk)⟩
            have HY : Hid (us[m]? = some y) := hy
            obtain ⟨gy, oy, rfl, hgy⟩ := HW0.out.2.at hy
            obtain ⟨y0, y1, -⟩ := FM.cells (HW0.out.2.below HH.out.2) hy
            obtain ⟨x0, x1, -⟩ := FM.cells (HX.out.below HBW.out) HXi.out
            have SOF : Hid (∀ wx, Below wr.heap.size wr wx → SG wr gy (oy + m * 3) gx (ox + k * 3) y x wx) := fun wx hb => ⟨(hb.cell (p := ⟨gy, _, none⟩) (Nat.lt_of_lt_of_le hgy HH.out.2.size)).trans y0, (hb.cell (p := ⟨gy, _, none⟩) (Nat.lt_of_lt_of_le hgy HH.out.2.size)).trans y1, (hb.cell (p := ⟨gx, _, none⟩) (Nat.lt_of_lt_of_le hgx HBW.out.size)).trans x0, (hb.cell (p := ⟨gx, _, none⟩) (Nat.lt_of_lt_of_le hgx HBW.out.size)).trans x1, hb⟩
            have h0d : SG wr gy (oy + m * 3) gx (ox + k * 3) y x wr.drew := SOF.out _ (Below.refl _ _).drew
            clear hy
            go_upto_region 6 with fail
            go_cut [29] (fun s29 wx => s29 = .bool (lt y x.c x.r) ∧ Below wr.heap.size wr wx)
            case first =>
              go_region_held3 (fun wx => SG wr gy (oy + m * 3) gx (ox + k * 3) y x wx) (first | exact h0d | exact SOF.out _ (bnext (sgb (by assumption)) (by assumption) (sgb (by assumption)).size)) (first | (go_at_call 23; refine (rahead_any y.c y.r x.c x.r _).mono ?_; rintro e w2 ⟨rfl, hb2⟩; have hw2 := bnext (sgb (by assumption)) hb2 (sgb (by assumption)).size))
              all_goals
                go_wp2_with fail
                go_meet
                case rel => exact ⟨rfl, hw2⟩
            case rest =>
            obtain ⟨rfl, hb2⟩ := hcut
            have HB2 : Hid (Below wo.heap.size wo wc) := bnext HH.out.2 hb2 HH.out.2.size
            clear hb2 y0 y1 x0 x1 h0d SOF
            cases hlt : lt y x.c x.r with
            | true =>
              have HLT : Hid (lt y x.c x.r = true) := hlt
              clear hlt
              go_wp2_with fail
              refine ⟨⟨m + 1, rfl, hmk, fun j z hj hz => ?_, HB2.out⟩, by simp [intOf]; omega⟩
              by_cases e : j = m
              · subst e
                rw [HY.out] at hz
                injection hz with hz
                subst hz
                exact HLT.out
              · exact HH.out.1 j z (by omega) hz
            | false =>
              have HLT : Hid (lt y x.c x.r = false) := hlt
              clear hlt
              go_wp2_with fail
              go_meet
              case rel =>
                refine ⟨m, rfl, hm, ins_cut (by rw [HM.out]; exact hm) HH.out.1 (fun z hz => ?_), HB2.out⟩
                rw [HY.out] at hz
                injection hz with hz
                subst hz
                exact HLT.out
          · have e : m = k := by omega
            subst e
            go_upto_region 6 with fail
            go_cut [29] (fun s29 wx => s29 = .bool false ∧ Below wr.heap.size wr wx)
            case first =>
              go_quiet (fail)
              go_wp2_with fail
              go_meet
              case rel => exact ⟨rfl, drewN_below _ _⟩
            case rest =>
            obtain ⟨rfl, hb2⟩ := hcut
            have HB2 : Hid (Below wo.heap.size wo wc) := bnext HH.out.2 hb2 HH.out.2.size
            clear hb2
            go_wp2_with fail
            go_meet
            case rel =>
              refine ⟨m, rfl, Nat.le_refl _, ins_cut (by rw [HM.out]; exact Nat.le_refl _) HH.out.1 (fun z hz => ?_), HB2.out⟩
              have := (List.getElem?_eq_some_iff.1 hz).1
              have := HM.out
              omega
      case rest =>
        obtain ⟨m, rfl, hm, hI, hbc⟩ := hcut
        have HI : Hid (ins us x = us.take m ++ [x] ++ us.drop m) := hI
        have HT : Hid (TW w (.slice pv k cv) us (.slice none 0 0) [] wc) := TW.start (HL.out.next hbc)
        have hm0 : (0 : Int) ≤ (m : Int) := by omega
        have hmk : (m : Int) ≤ (k : Int) := by omega
        clear hI hbc HL
        have HU : Hid (∀ t, us.take t ++ us.drop t = us) := fun t => List.take_append_drop t us
        rcases HT.out.old.2 with ⟨e, h0⟩ | ⟨g, cap, cur, e, hbg, hg, hcap, -⟩
        · injection e with e1 e2 e3
          subst e1 e3
          have hk0 : k = 0 := by have := HM.out; omega
          subst hk0
          have hm00 : m = 0 := by omega
          subst hm00
          obtain ⟨p1, n1, c1, w1, hr1, hT1⟩ := HT.out.more (by simp) ((HT.out.fm rfl).take 0) (by rw [List.length_take]; omega) (n := 0) (by rw [List.length_take, HM.out] <;> omega) 0
          have HR1 : Hid ((Builtin.append_ #[22, 22] 22 #[.slice none 0 0, .slice (none) 0 0]).run Tryz.prog wc = .ok (.slice p1 n1 c1) w1) := hr1
          have HT1 : Hid (TW w (.slice (none) 0 0) us (.slice p1 n1 c1) (us.take 0) w1) := hT1
          clear hr1 hT1 HT e2
          go_upto_region 10 with (first | (at_builtin; refine fm.wpList_append_eq rfl _ _ 22 rfl _ _ _ _ rfl rfl HR1.out ?_))
          obtain ⟨q0, q1, q2⟩ := FM.cells (HX.out.below HT1.out.below) HXi.out
          rw [Nat.zero_mul, Nat.add_zero] at q0 q1 q2
          obtain ⟨p2, n2, c2, w2, hr2, hT2⟩ := (HT1.out.next ((Below.refl _ _).alloc (Nat.le_refl _) (.cells #[.int .i64 x.c, .int .i64 x.r, .string x.s] 36))).more (by rw [List.length_take]; omega) (fm_new w1 x) (by simp) (n := 1) rfl 1
          have HR2 : Hid ((Builtin.append_ #[22, 22] 22 #[.slice p1 n1 c1, .slice (some ⟨w1.heap.size, 0, none⟩) 1 1]).run Tryz.prog (w1.alloc (.cells #[.int .i64 x.c, .int .i64 x.r, .string x.s] 36)) = .ok (.slice p2 n2 c2) w2) := hr2
          have HT2 : Hid (TW w (.slice (none) 0 0) us (.slice p2 n2 c2) (us.take 0 ++ [x]) w2) := hT2
          clear hr2 hT2
          go_upto_region 11 with (first | (at_builtin; refine fm.wpList_append_eq rfl _ _ 22 rfl _ _ _ _ rfl rfl HR2.out ?_))
          clear q0 q1 q2 HR1 HR2 HT1
          obtain ⟨p3, n3, c3, w3, hr3, hT3⟩ := HT2.out.more (p := none) (zs := us.drop 0) (by simp) (.inl (by rw [List.drop_eq_nil_iff, HM.out] <;> exact Nat.le_refl _)) (by rw [List.length_drop, HM.out] <;> omega) (n := 0) (by rw [List.length_drop, HM.out] <;> omega) 0
          have HR3 : Hid ((Builtin.append_ #[22, 22] 22 #[.slice p2 n2 c2, .slice none 0 0]).run Tryz.prog w2 = .ok (.slice p3 n3 c3) w3) := hr3
          have HT3 : Hid (LV w (.slice p3 n3 c3) (sortR (xs.take (0 + 1))) w3) := by
            unfold Hid
            rw [HSn.out, HI.out]
            exact hT3.done
          clear hr3 hT3 HT2
          obtain ⟨p4, c4, e4, -⟩ := FB.shape (own_base HT3.out.own (Nat.zero_le _))
          injection e4 with e5 e6 e7
          subst e5 e6 e7
          go_wp2_with (first | (at_builtin; refine fm.wpList_append_eq rfl _ _ 22 rfl _ _ _ _ rfl rfl HR3.out ?_))
          exact ⟨⟨0 + 1, rfl, hin, ⟨_, _, rfl⟩, HT3.out⟩, by simp [intOf]; omega⟩
        · injection e with e1 e2 e3
          subst e1 e3
          have hcI : (k : Int) ≤ (cv : Int) := by have := HM.out; omega
          have hmc0 : (m : Int) ≤ (cv : Int) := by omega
          obtain ⟨p1, n1, c1, w1, hr1, hT1⟩ := HT.out.more (by simp) ((HT.out.fm rfl).take m) (by rw [List.length_take]; omega) (n := m) (by rw [List.length_take, HM.out]; omega) cv
          have HR1 : Hid ((Builtin.append_ #[22, 22] 22 #[.slice none 0 0, .slice (some ⟨g, 0, none⟩) m cv]).run Tryz.prog wc = .ok (.slice p1 n1 c1) w1) := hr1
          have HT1 : Hid (TW w (.slice (some ⟨g, 0, none⟩) k cv) us (.slice p1 n1 c1) (us.take m) w1) := hT1
          clear hr1 hT1 hg hbg hcap HT e2
          go_upto_region 10 with (first | (at_builtin; refine fm.wpList_append_eq rfl _ _ 22 rfl _ _ _ _ rfl rfl HR1.out ?_))
          obtain ⟨q0, q1, q2⟩ := FM.cells (HX.out.below HT1.out.below) HXi.out
          obtain ⟨p2, n2, c2, w2, hr2, hT2⟩ := (HT1.out.next ((Below.refl _ _).alloc (Nat.le_refl _) (.cells #[.int .i64 x.c, .int .i64 x.r, .string x.s] 36))).more (by rw [List.length_take]; omega) (fm_new w1 x) (by simp) (n := 1) rfl 1
          have HR2 : Hid ((Builtin.append_ #[22, 22] 22 #[.slice p1 n1 c1, .slice (some ⟨w1.heap.size, 0, none⟩) 1 1]).run Tryz.prog (w1.alloc (.cells #[.int .i64 x.c, .int .i64 x.r, .string x.s] 36)) = .ok (.slice p2 n2 c2) w2) := hr2
          have HT2 : Hid (TW w (.slice (some ⟨g, 0, none⟩) k cv) us (.slice p2 n2 c2) (us.take m ++ [x]) w2) := hT2
          clear hr2 hT2
          go_upto_region 11 with (first | (at_builtin; refine fm.wpList_append_eq rfl _ _ 22 rfl _ _ _ _ rfl rfl HR2.out ?_))
          clear q0 q1 q2 HR1 HR2 HT1
          by_cases hmc : m = cv
          · have hkc : k = m := by have := HM.out; omega
            subst hmc
            subst hkc
            obtain ⟨p3, n3, c3, w3, hr3, hT3⟩ := HT2.out.more (p := some ⟨g, 0, none⟩) (zs := us.drop k) (by simp; omega) (.inl (by rw [List.drop_eq_nil_iff, HM.out]; exact Nat.le_refl _)) (by rw [List.length_drop, HM.out]; omega) (n := 0) (by rw [List.length_drop, HM.out]; omega) 0
            have HR3 : Hid ((Builtin.append_ #[22, 22] 22 #[.slice p2 n2 c2, .slice (some ⟨g, 0, none⟩) 0 0]).run Tryz.prog w2 = .ok (.slice p3 n3 c3) w3) := hr3
            have HT3 : Hid (LV w (.slice p3 n3 c3) (sortR (xs.take (k + 1))) w3) := by
              unfold Hid
              rw [HSn.out, HI.out]
              exact hT3.done
            clear hr3 hT3 HT2
            obtain ⟨p4, c4, e4, -⟩ := FB.shape (own_base HT3.out.own (Nat.zero_le _))
            injection e4 with e5 e6 e7
            subst e5 e6 e7
            go_wp2_with (first | (at_builtin; refine fm.wpList_append_eq rfl _ _ 22 rfl _ _ _ _ rfl rfl HR3.out ?_))
            exact ⟨⟨k + 1, rfl, hin, ⟨_, _, rfl⟩, HT3.out⟩, by simp [intOf]; omega⟩
          · have hmc1 : ¬ cv = m := fun e => hmc e.symm
            obtain ⟨p3, n3, c3, w3, hr3, hT3⟩ := HT2.out.more (p := some ⟨g, m * 3, none⟩) (zs := us.drop m) (by simp; omega) (by have := FM.dropk (HT2.out.fm rfl) m (by rw [HM.out]; exact hm); rwa [Nat.zero_add] at this) (by rw [List.length_drop, HM.out]; omega) (n := k - m) (by rw [List.length_drop, HM.out]) (cv - m)
            have HR3 : Hid ((Builtin.append_ #[22, 22] 22 #[.slice p2 n2 c2, .slice (some ⟨g, m * 3, none⟩) (k - m) (cv - m)]).run Tryz.prog w2 = .ok (.slice p3 n3 c3) w3) := hr3
            have HT3 : Hid (LV w (.slice p3 n3 c3) (sortR (xs.take (k + 1))) w3) := by
              unfold Hid
              rw [HSn.out, HI.out]
              exact hT3.done
            clear hr3 hT3 HT2
            obtain ⟨p4, c4, e4, -⟩ := FB.shape (own_base HT3.out.own (Nat.zero_le _))
            injection e4 with e5 e6 e7
            subst e5 e6 e7
            go_wp2_with (first | (at_builtin; refine fm.wpList_append_eq rfl _ _ 22 rfl _ _ _ _ rfl rfl HR3.out ?_))
            exact ⟨⟨k + 1, rfl, hin, ⟨_, _, rfl⟩, HT3.out⟩, by simp [intOf]; omega⟩
    · have hin' : ¬ (k : Int) < (n : Int) := by omega
      have e : k = n := by omega
      subst e
      have HL' : Hid (FM wo pv (sortR xs) ∧ Below w.heap.size w wo) := by
        have h1 := HL.out
        rw [List.take_of_length_le (by rw [HN.out]; exact Nat.le_refl _)] at h1
        exact ⟨(TW.start h1).fm rfl, h1.below⟩
      go_wp2_with fail
      go_ret
      exact ⟨⟨pv, ⟨cv, rfl⟩, HL'.out.1⟩, HL'.out.2⟩
/-- The line where a cell's line goes. -/
def kk (a b l : Int) : Int := if l = a then b else if l = b then a else l
theorem sw1_kk (row : Bool) (a b : Int) (x : Fl) : sw1 row a b x = ⟨inC row x.c (kk a b (lnO row x.c x.r)), inR row x.r (kk a b (lnO row x.c x.r)), x.s⟩ := by
  by_cases h1 : lnO row x.c x.r = a
  · rw [sw1_a h1, h1]; unfold kk; rw [if_pos rfl]
  · by_cases h2 : lnO row x.c x.r = b
    · rw [sw1_b h1 h2]; unfold kk; rw [if_neg h1, if_pos h2]
    · rw [sw1_no h1 h2]; unfold kk; rw [if_neg h1, if_neg h2]
      cases row <;> rfl
/-- The cell's box has another row, or column, now. -/
theorem WS.set1 {w : World} {bf : Nat} {f : Fl} {v : Value} {ys : List Fl} {wx : World} (h : WS w bf f v ys wx) (row : Bool) (l : Int) {o : Nat} (ho : o = if row = true then 1 else 0) : WS w bf ⟨inC row f.c l, inR row f.r l, f.s⟩ v ys (wx.setCell ⟨bf, o, none⟩ (.int .i64 l)) := by
  have h1 := fm.blk_set (o := o) (u := .int .i64 l) h.box
  refine ⟨⟨h.own.1, ?_⟩, h.ne, ?_, h.le, h.below.setCell h.le _⟩
  · rcases h.own.2 with h0 | ⟨g, cap, cur, e1, e2, hg, h4⟩
    · exact .inl h0
    · have hne : g ≠ bf := fun e => h.ne (by rw [e1, e]; rfl)
      exact .inr ⟨g, cap, cur, e1, e2, (Below.heap_setCell _ _ _ _ hne).trans hg, h4⟩
  · subst ho
    cases row
    · simpa [inC, inR] using h1
    · simpa [inC, inR] using h1
end Go.Proofs.YtcekgefkimbfaaaGreatDoor.ps
/- The reference's Swap, and what is told of two sheets; the law. Conditions: as each theorem says. -/
namespace Go.Proofs.YtcekgefkimbfaaaGreatDoor.ps
open Go.RowKit
open adr (C isC ckc)
set_option maxRecDepth 100000 in
set_option maxHeartbeats 2000000 in
theorem rswap_any (p : Option Addr) (c : Nat) (xs : List Fl) (row : Bool) (a b : Int) (w : World) (hx : FM w p xs) :
    Calls Tryz.prog 20 #[.slice p xs.length c, .bool row, .int .i64 a, .int .i64 b] w fun e w' => (∃ t v q, e = .returned (.tuple #[v, .int .i64 q]) ∧ Told xs t ∧ SwO xs row a b t v q w') ∧ Below w.heap.size w w' := by
  have H : Hid (Calls Tryz.prog 6 #[.slice p xs.length c] w fun e w' => (∃ t, e = .returned (.int .i64 t) ∧ Told xs t) ∧ Below w.heap.size w w') := rcheck_any p c xs w hx
  obtain ⟨n, hn⟩ : ∃ n, xs.length = n := ⟨_, rfl⟩
  have HN : Hid (xs.length = n) := hn
  rw [hn] at H ⊢
  have HX : Hid (FM w p xs) := hx
  clear hx hn
  go_enter Tryz.func20, Tryz.ntmps20
  go_wp2_with fail
  refine H.out.mono ?_
  rintro e w1 ⟨⟨t, rfl, hT⟩, hb⟩
  have HT : Hid (Told xs t) := hT
  have HB : Hid (Below w.heap.size w w1) := hb
  clear hT hb H
  by_cases ht : t ≠ 0
  · go_wp2_with fail
    exact bodyPost_ret (v := .tuple #[.slice none 0 0, .int .i64 t]) (by simp [results, Tryz.results20, go_sem]) rfl ⟨⟨t, _, t, rfl, HT.out, .inl ⟨ht, rfl, rfl⟩⟩, HB.out⟩
  have ht : t = 0 := Classical.byContradiction ht
  subst ht
  have HI : Hid (∀ l wx, Calls Tryz.prog 33 #[.bool row, .int .i64 l, .int .i64 0] wx fun e w' => e = .returned (.bool (isLn row l)) ∧ w' = wx) := fun l wx => span_any row l wx
  go_wp2_with fail
  refine (HI.out a _).mono ?_
  rintro e w2 ⟨rfl, rfl⟩
  go_wp2_with fail
  refine (HI.out b _).mono ?_
  rintro e w3 ⟨rfl, rfl⟩
  clear HI
  cases hA : isLn row a with
  | false =>
    have HA : Hid (isLn row a = false) := hA
    clear hA
    go_wp2_with fail
    exact bodyPost_ret (v := .tuple #[.slice none 0 0, .int .i64 1]) (by simp [results, Tryz.results20, go_sem]) rfl ⟨⟨0, _, 1, rfl, HT.out, .inr (.inl ⟨rfl, by rw [HA.out]; rfl, rfl, rfl⟩)⟩, HB.out⟩
  | true =>
  have HA : Hid (isLn row a = true) := hA
  clear hA
  cases hA' : isLn row b with
  | false =>
    have HA' : Hid (isLn row b = false) := hA'
    clear hA'
    go_wp2_with fail
    exact bodyPost_ret (v := .tuple #[.slice none 0 0, .int .i64 1]) (by simp [results, Tryz.results20, go_sem]) rfl ⟨⟨0, _, 1, rfl, HT.out, .inr (.inl ⟨rfl, by rw [HA'.out]; simp, rfl, rfl⟩)⟩, HB.out⟩
  | true =>
  have HA' : Hid (isLn row b = true) := hA'
  clear hA'
  have HF : Hid (Fine xs) := HT.out.fine
  have hn2 : n ≤ 200 := by rw [← HN.out]; exact HF.out.len
  go_wp2_with fail
  go_loopw [13, 14] (fun v i wr => ∃ k : Nat, i = .int .i64 k ∧ k ≤ n ∧ (∃ p m c, v = .slice p m c) ∧ LV w v ((xs.take k).map (sw1 row a b)) wr) (fun _ i _ => n - (intOf i).toNat)
  case atStart => exact ⟨0, rfl, Nat.zero_le _, ⟨none, 0, 0, rfl⟩, ⟨⟨rfl, .inl ⟨rfl, rfl⟩⟩, HB.out⟩⟩
  case round =>
    obtain ⟨k, rfl, hk, ⟨pv, mv, cv, rfl⟩, hL⟩ := hrel
    have HL : Hid (LV w (.slice pv mv cv) ((xs.take k).map (sw1 row a b)) wr) := hL
    clear hL
    by_cases hin : k < n
    · have hiN : (k : Int) < (n : Int) := by omega
      have hi0 : (0 : Int) ≤ (k : Int) := by omega
      have hi200 : (k : Int) ≤ 200 := by omega
      obtain ⟨⟨xc, xr, xt⟩, hx⟩ : ∃ x, xs[k]? = some x := ⟨_, List.getElem?_eq_getElem (by rw [HN.out]; exact hin)⟩
      have HXi : Hid (xs[k]? = some ⟨xc, xr, xt⟩) := hx
      obtain ⟨gx, ox, rfl, hgx⟩ := HX.out.at hx
      obtain ⟨q0, q1, q2⟩ := FM.cells (HX.out.below HL.out.below) hx
      dsimp only at q0 q1 q2
      clear hx
      cases row with
      | false =>
        by_cases h1 : xc = a
        · subst h1
          have HEQ : Hid (sw1 false xc b ⟨xc, xr, xt⟩ = ⟨b, xr, xt⟩) := sw1_a rfl
          have HM1 : Hid ((xs.take (k + 1)).map (sw1 false xc b) = (xs.take k).map (sw1 false xc b) ++ [⟨b, xr, xt⟩]) := by unfold Hid; rw [map_take_snoc _ HXi.out, HEQ.out]
          obtain ⟨p', n', c', w6, hr, hLV⟩ := (HL.out.box ⟨b, xr, xt⟩).one (by rw [List.length_map, List.length_take]; omega) ⟨b, xr, xt⟩
          have HR : Hid ((Builtin.append_ #[22, 22] 22 #[.slice pv mv cv, .slice (some ⟨wr.heap.size + 1, 0, none⟩) 1 1]).run Tryz.prog ((wr.alloc (.cells #[.int .i64 b, .int .i64 xr, .string xt] 36)).alloc (.cells #[.int .i64 b, .int .i64 xr, .string xt] 36)) = .ok (.slice p' n' c') w6) := by unfold Hid; rw [show wr.heap.size + 1 = (wr.alloc (.cells #[.int .i64 b, .int .i64 xr, .string xt] 36)).heap.size by simp]; exact hr
          have HLV : Hid (LV w (.slice p' n' c') ((xs.take (k + 1)).map (sw1 false xc b)) w6) := by unfold Hid; rw [HM1.out]; exact hLV
          clear hr hLV
          go_wp2_with (first | (at_builtin; refine fm.wpList_append_eq rfl _ _ 22 rfl _ _ _ _ rfl rfl HR.out ?_))
          exact ⟨⟨k + 1, rfl, hin, ⟨_, _, _, rfl⟩, HLV.out⟩, by simp [intOf]; omega⟩
        · by_cases h2 : xc = b
          · subst h2
            have HEQ : Hid (sw1 false a xc ⟨xc, xr, xt⟩ = ⟨a, xr, xt⟩) := sw1_b h1 rfl
            have HM1 : Hid ((xs.take (k + 1)).map (sw1 false a xc) = (xs.take k).map (sw1 false a xc) ++ [⟨a, xr, xt⟩]) := by unfold Hid; rw [map_take_snoc _ HXi.out, HEQ.out]
            obtain ⟨p', n', c', w6, hr, hLV⟩ := (HL.out.box ⟨a, xr, xt⟩).one (by rw [List.length_map, List.length_take]; omega) ⟨a, xr, xt⟩
            have HR : Hid ((Builtin.append_ #[22, 22] 22 #[.slice pv mv cv, .slice (some ⟨wr.heap.size + 1, 0, none⟩) 1 1]).run Tryz.prog ((wr.alloc (.cells #[.int .i64 a, .int .i64 xr, .string xt] 36)).alloc (.cells #[.int .i64 a, .int .i64 xr, .string xt] 36)) = .ok (.slice p' n' c') w6) := by unfold Hid; rw [show wr.heap.size + 1 = (wr.alloc (.cells #[.int .i64 a, .int .i64 xr, .string xt] 36)).heap.size by simp]; exact hr
            have HLV : Hid (LV w (.slice p' n' c') ((xs.take (k + 1)).map (sw1 false a xc)) w6) := by unfold Hid; rw [HM1.out]; exact hLV
            clear hr hLV
            go_wp2_with (first | (at_builtin; refine fm.wpList_append_eq rfl _ _ 22 rfl _ _ _ _ rfl rfl HR.out ?_))
            exact ⟨⟨k + 1, rfl, hin, ⟨_, _, _, rfl⟩, HLV.out⟩, by simp [intOf]; omega⟩
          · have HEQ : Hid (sw1 false a b ⟨xc, xr, xt⟩ = ⟨xc, xr, xt⟩) := sw1_no h1 h2
            have HM1 : Hid ((xs.take (k + 1)).map (sw1 false a b) = (xs.take k).map (sw1 false a b) ++ [⟨xc, xr, xt⟩]) := by unfold Hid; rw [map_take_snoc _ HXi.out, HEQ.out]
            obtain ⟨p', n', c', w6, hr, hLV⟩ := (HL.out.box ⟨xc, xr, xt⟩).one (by rw [List.length_map, List.length_take]; omega) ⟨xc, xr, xt⟩
            have HR : Hid ((Builtin.append_ #[22, 22] 22 #[.slice pv mv cv, .slice (some ⟨wr.heap.size + 1, 0, none⟩) 1 1]).run Tryz.prog ((wr.alloc (.cells #[.int .i64 xc, .int .i64 xr, .string xt] 36)).alloc (.cells #[.int .i64 xc, .int .i64 xr, .string xt] 36)) = .ok (.slice p' n' c') w6) := by unfold Hid; rw [show wr.heap.size + 1 = (wr.alloc (.cells #[.int .i64 xc, .int .i64 xr, .string xt] 36)).heap.size by simp]; exact hr
            have HLV : Hid (LV w (.slice p' n' c') ((xs.take (k + 1)).map (sw1 false a b)) w6) := by unfold Hid; rw [HM1.out]; exact hLV
            clear hr hLV
            go_wp2_with (first | (at_builtin; refine fm.wpList_append_eq rfl _ _ 22 rfl _ _ _ _ rfl rfl HR.out ?_))
            exact ⟨⟨k + 1, rfl, hin, ⟨_, _, _, rfl⟩, HLV.out⟩, by simp [intOf]; omega⟩
      | true =>
        by_cases h1 : xr = a
        · subst h1
          have HEQ : Hid (sw1 true xr b ⟨xc, xr, xt⟩ = ⟨xc, b, xt⟩) := sw1_a rfl
          have HM1 : Hid ((xs.take (k + 1)).map (sw1 true xr b) = (xs.take k).map (sw1 true xr b) ++ [⟨xc, b, xt⟩]) := by unfold Hid; rw [map_take_snoc _ HXi.out, HEQ.out]
          obtain ⟨p', n', c', w6, hr, hLV⟩ := (HL.out.box ⟨xc, b, xt⟩).one (by rw [List.length_map, List.length_take]; omega) ⟨xc, b, xt⟩
          have HR : Hid ((Builtin.append_ #[22, 22] 22 #[.slice pv mv cv, .slice (some ⟨wr.heap.size + 1, 0, none⟩) 1 1]).run Tryz.prog ((wr.alloc (.cells #[.int .i64 xc, .int .i64 b, .string xt] 36)).alloc (.cells #[.int .i64 xc, .int .i64 b, .string xt] 36)) = .ok (.slice p' n' c') w6) := by unfold Hid; rw [show wr.heap.size + 1 = (wr.alloc (.cells #[.int .i64 xc, .int .i64 b, .string xt] 36)).heap.size by simp]; exact hr
          have HLV : Hid (LV w (.slice p' n' c') ((xs.take (k + 1)).map (sw1 true xr b)) w6) := by unfold Hid; rw [HM1.out]; exact hLV
          clear hr hLV
          go_wp2_with (first | (at_builtin; refine fm.wpList_append_eq rfl _ _ 22 rfl _ _ _ _ rfl rfl HR.out ?_))
          exact ⟨⟨k + 1, rfl, hin, ⟨_, _, _, rfl⟩, HLV.out⟩, by simp [intOf]; omega⟩
        · by_cases h2 : xr = b
          · subst h2
            have HEQ : Hid (sw1 true a xr ⟨xc, xr, xt⟩ = ⟨xc, a, xt⟩) := sw1_b h1 rfl
            have HM1 : Hid ((xs.take (k + 1)).map (sw1 true a xr) = (xs.take k).map (sw1 true a xr) ++ [⟨xc, a, xt⟩]) := by unfold Hid; rw [map_take_snoc _ HXi.out, HEQ.out]
            obtain ⟨p', n', c', w6, hr, hLV⟩ := (HL.out.box ⟨xc, a, xt⟩).one (by rw [List.length_map, List.length_take]; omega) ⟨xc, a, xt⟩
            have HR : Hid ((Builtin.append_ #[22, 22] 22 #[.slice pv mv cv, .slice (some ⟨wr.heap.size + 1, 0, none⟩) 1 1]).run Tryz.prog ((wr.alloc (.cells #[.int .i64 xc, .int .i64 a, .string xt] 36)).alloc (.cells #[.int .i64 xc, .int .i64 a, .string xt] 36)) = .ok (.slice p' n' c') w6) := by unfold Hid; rw [show wr.heap.size + 1 = (wr.alloc (.cells #[.int .i64 xc, .int .i64 a, .string xt] 36)).heap.size by simp]; exact hr
            have HLV : Hid (LV w (.slice p' n' c') ((xs.take (k + 1)).map (sw1 true a xr)) w6) := by unfold Hid; rw [HM1.out]; exact hLV
            clear hr hLV
            go_wp2_with (first | (at_builtin; refine fm.wpList_append_eq rfl _ _ 22 rfl _ _ _ _ rfl rfl HR.out ?_))
            exact ⟨⟨k + 1, rfl, hin, ⟨_, _, _, rfl⟩, HLV.out⟩, by simp [intOf]; omega⟩
          · have HEQ : Hid (sw1 true a b ⟨xc, xr, xt⟩ = ⟨xc, xr, xt⟩) := sw1_no h1 h2
            have HM1 : Hid ((xs.take (k + 1)).map (sw1 true a b) = (xs.take k).map (sw1 true a b) ++ [⟨xc, xr, xt⟩]) := by unfold Hid; rw [map_take_snoc _ HXi.out, HEQ.out]
            obtain ⟨p', n', c', w6, hr, hLV⟩ := (HL.out.box ⟨xc, xr, xt⟩).one (by rw [List.length_map, List.length_take]; omega) ⟨xc, xr, xt⟩
            have HR : Hid ((Builtin.append_ #[22, 22] 22 #[.slice pv mv cv, .slice (some ⟨wr.heap.size + 1, 0, none⟩) 1 1]).run Tryz.prog ((wr.alloc (.cells #[.int .i64 xc, .int .i64 xr, .string xt] 36)).alloc (.cells #[.int .i64 xc, .int .i64 xr, .string xt] 36)) = .ok (.slice p' n' c') w6) := by unfold Hid; rw [show wr.heap.size + 1 = (wr.alloc (.cells #[.int .i64 xc, .int .i64 xr, .string xt] 36)).heap.size by simp]; exact hr
            have HLV : Hid (LV w (.slice p' n' c') ((xs.take (k + 1)).map (sw1 true a b)) w6) := by unfold Hid; rw [HM1.out]; exact hLV
            clear hr hLV
            go_wp2_with (first | (at_builtin; refine fm.wpList_append_eq rfl _ _ 22 rfl _ _ _ _ rfl rfl HR.out ?_))
            exact ⟨⟨k + 1, rfl, hin, ⟨_, _, _, rfl⟩, HLV.out⟩, by simp [intOf]; omega⟩
    · have hin' : ¬ (k : Int) < (n : Int) := by omega
      have e : k = n := by omega
      subst e
      have HL' : Hid (LV w (.slice pv mv cv) (xs.map (sw1 row a b)) wr) := by have := HL.out; rwa [List.take_of_length_le (by rw [HN.out]; exact Nat.le_refl _)] at this
      have HYN : Hid ((xs.map (sw1 row a b)).length = k) := by unfold Hid; rw [List.length_map, HN.out]
      have HNk : Hid (xs.length = k) := HN.out
      clear HL HN
      have HYS : Hid (∀ v q w', (∃ p c, v = Value.slice p k c ∧ FM w' p (sortR (xs.map (sw1 row a b)))) → q = 0 → SwO xs row a b 0 v q w') := fun v q w' h hq => .inr (.inr ⟨rfl, by rw [HA.out, HA'.out]; rfl, hq, by rw [HNk.out]; exact h⟩)
      generalize xs.map (sw1 row a b) = ys at *
      obtain ⟨p4, c4, e4, -⟩ := FB.shape (own_base HL'.out.own (Nat.zero_le _))
      injection e4 with e5 e6 e7
      rw [HYN.out] at e6
      subst e5 e6 e7
      have HC : Hid (Calls Tryz.prog 34 #[.slice pv mv cv] wr fun e w' => (∃ q d, e = .returned (.slice q mv d) ∧ FM w' q (sortR ys)) ∧ Below wr.heap.size wr w') := by
        have h := rsorted_any pv cv ys wr ((TW.start HL'.out).fm rfl) (by rw [HYN.out]; exact hn2)
        rw [HYN.out] at h
        exact h
      go_wp2_with fail
      refine HC.out.mono ?_
      rintro e w5 ⟨⟨p', c', rfl, hM⟩, hb5⟩
      have HM : Hid (FM w5 p' (sortR ys)) := hM
      have HB5 : Hid (Below w.heap.size w w5) := bnext HL'.out.below hb5 HL'.out.below.size
      clear hM hb5
      go_wp2_with fail
      exact bodyPost_ret (v := .tuple #[.slice p' mv c', .int .i64 0]) (by simp [results, Tryz.results20, go_sem]) rfl ⟨⟨0, _, 0, rfl, HT.out, HYS.out _ _ _ ⟨p', c', rfl, HM.out⟩ rfl⟩, HB5.out⟩
end Go.Proofs.YtcekgefkimbfaaaGreatDoor.ps
/- What is told of two sheets; the law of two lines that change places. Conditions: as each theorem says. -/
namespace Go.Proofs.YtcekgefkimbfaaaGreatDoor.ps
open Go.RowKit
open adr (C)
theorem eqIn33 (x : Fl) (m : Nat) (W : World) : (Op.equalIn (m + 4) 36 (FV x) (FV x)).run Tryz.prog W = .ok true W := by
  have hS : Tryz.prog.underlying 36 = some (.struct (Tryz.prog.fieldsOf 36)) := by kernel_rfl
  have hp : Tryz.prog.stoodInHeld 36 = false := by kernel_rfl
  rw [run_equalIn_struct W (m + 3) 36 _ _ hS hp]
  simp only [Program.fieldsOf, Tryz.underlying36]
  simp [Op.eqFields, go_sem, eqIn30]
theorem neq33 (x : Fl) (W : World) : (binOp BinOp.neq 36 (FV x) (FV x)).run Tryz.prog W = .ok (.bool false) W := by
  rw [run_neq_struct, show (10000 : Nat) = 9996 + 4 from rfl, eqIn33]; rfl
set_option maxRecDepth 100000 in
set_option maxHeartbeats 4000000 in
theorem sheets_eq (p q : Option Addr) (c d : Nat) (xs : List Fl) (w : World) (hx : FM w p xs) (hy : FM w q xs) (hl : xs.length ≤ 1000) :
    Calls Tryz.prog 16 #[.slice p xs.length c, .slice q xs.length d] w fun e w' => e = .returned (.bool true) ∧ Below w.heap.size w w' := by
  obtain ⟨n, hn⟩ : ∃ n, xs.length = n := ⟨_, rfl⟩
  have HN : Hid (xs.length = n) := hn
  have HX : Hid (FM w p xs ∧ FM w q xs) := ⟨hx, hy⟩
  have hl1 : (n : Int) ≤ 1000 := by omega
  rw [hn]
  clear hx hy hl hn
  go_enter Tryz.func16, Tryz.ntmps16
  go_wp2_with fail
  go_loopw [5] (fun a wr => ∃ i : Nat, a = .int .i64 i ∧ i ≤ n ∧ Below w.heap.size w wr) (fun a _ => n - (intOf a).toNat)
  case atStart => exact ⟨0, rfl, Nat.zero_le _, Below.refl _ _⟩
  case round =>
    obtain ⟨i, rfl, hi, hb⟩ := hrel
    have HB : Hid (Below w.heap.size w wr) := hb
    clear hb
    by_cases hin : i < n
    · have hiN : (i : Int) < (n : Int) := by omega
      have hi0 : (0 : Int) ≤ (i : Int) := by omega
      obtain ⟨x, hx⟩ : ∃ x, xs[i]? = some x := ⟨_, List.getElem?_eq_getElem (by rw [HN.out]; exact hin)⟩
      obtain ⟨gx, ox, rfl, -⟩ := HX.out.1.at hx
      obtain ⟨gy, oy, rfl, -⟩ := HX.out.2.at hx
      obtain ⟨q0, q1, q2⟩ := FM.cells (HX.out.1.below HB.out) hx
      obtain ⟨r0, r1, r2⟩ := FM.cells (HX.out.2.below HB.out) hx
      have e33 := fun W => neq33 x W
      clear hx
      go_wp2_with fail
      go_cut [25] (fun s25 wx => s25 = .bool false ∧ wx = wr.drew)
      case first =>
        go_region
        all_goals
          go_wp2_with fail
          go_meet
          case rel => exact ⟨rfl, rfl⟩
      case rest =>
      obtain ⟨rfl, rfl⟩ := hcut
      go_wp2_with fail
      exact ⟨⟨i + 1, rfl, hin, HB.out.drew⟩, by simp [intOf]; omega⟩
    · have hin' : ¬ (i : Int) < (n : Int) := by omega
      go_wp2_with fail
      go_ret
      exact ⟨rfl, HB.out⟩
theorem told_same (e : Int) (w : World) (hT : ErrTy w) : Calls Tryz.prog 8 #[errV e, .int .i64 e] w fun r w' => r = .returned (.bool true) ∧ Below w.heap.size w w' := by
  by_cases h : e = 0
  · subst h
    exact same_nil 0 w
  · rw [errV_some h]
    refine (same_errno e e w hT).mono ?_
    rintro r w' ⟨rfl, hb⟩
    exact ⟨by simp, hb⟩
set_option maxHeartbeats 1600000 in
theorem made_any (p q : Option Addr) (c d m : Nat) (zs : List Fl) (e : Int) (w : World) (hm : zs.length = m) (hx : FM w p zs) (hy : FM w q zs) (hl : m ≤ 1000) (hT : ErrTy w) :
    Calls Tryz.prog 22 #[.slice p m c, errV e, .slice q m d, .int .i64 e] w fun r w' => r = .returned (.bool true) ∧ Below w.heap.size w w' := by
  subst hm
  have H1 : Hid (Calls Tryz.prog 8 #[errV e, .int .i64 e] w fun r w' => r = .returned (.bool true) ∧ Below w.heap.size w w') := told_same e w hT
  have H2 : Hid (∀ wx, Below w.heap.size w wx → Calls Tryz.prog 16 #[.slice p zs.length c, .slice q zs.length d] wx fun r w' => r = .returned (.bool true) ∧ Below wx.heap.size wx w') := fun wx hb => sheets_eq p q c d zs wx (hx.below hb) (hy.below hb) hl
  generalize errV e = ev at *
  clear hx hy hl hT
  go_enter Tryz.func22, Tryz.ntmps22
  go_wp2_with fail
  refine H1.out.mono ?_
  rintro r w1 ⟨rfl, hb1⟩
  have HB1 : Hid (Below w.heap.size w w1) := hb1
  clear hb1
  go_wp2_with fail
  refine (H2.out _ HB1.out).mono ?_
  rintro r w2 ⟨rfl, hb2⟩
  have HB2 : Hid (Below w.heap.size w w2) := bnext HB1.out hb2 HB1.out.size
  clear hb2
  go_wp2_with fail
  go_ret
  exact ⟨rfl, HB2.out⟩
theorem SwO.pair {xs : List Fl} {row : Bool} {a b t q q' : Int} {v v' : Value} {w1 w2 : World} (h : SwO xs row a b t v q w1) (h' : SwO xs row a b t v' q' w2) (hb : Below w1.heap.size w1 w2) (hT : Told xs t) :
    q = q' ∧ ∃ p c p' c' zs m, v = .slice p m c ∧ v' = .slice p' m c' ∧ zs.length = m ∧ FM w2 p zs ∧ FM w2 p' zs ∧ m ≤ 1000 := by
  rcases h with ⟨h1, rfl, rfl⟩ | ⟨rfl, h2, rfl, rfl⟩ | ⟨rfl, h2, rfl, p, c, rfl, hM⟩
  · rcases h' with ⟨-, rfl, rfl⟩ | ⟨g1, -⟩ | ⟨g1, -⟩
    · exact ⟨rfl, none, 0, none, 0, [], 0, rfl, rfl, rfl, .inl rfl, .inl rfl, by omega⟩
    · exact absurd g1 h1
    · exact absurd g1 h1
  · rcases h' with ⟨g1, -⟩ | ⟨-, -, rfl, rfl⟩ | ⟨-, g2, -⟩
    · exact absurd rfl g1
    · exact ⟨rfl, none, 0, none, 0, [], 0, rfl, rfl, rfl, .inl rfl, .inl rfl, by omega⟩
    · rw [h2] at g2; cases g2
  · rcases h' with ⟨g1, -⟩ | ⟨-, g2, -⟩ | ⟨-, -, rfl, p', c', rfl, hM'⟩
    · exact absurd rfl g1
    · rw [h2] at g2; cases g2
    · exact ⟨rfl, p, c, p', c', _, _, rfl, rfl, by rw [sortR_len, List.length_map], hM.below hb, hM', by have := hT.fine.len; omega⟩
set_option maxRecDepth 100000 in
set_option maxHeartbeats 1600000 in
theorem rowsSwap_law (p : Option Addr) (c : Nat) (xs : List Fl) (row : Bool) (a b : Int) (w : World) (hx : FM w p xs) (hE : EnvP w) (hT : ErrTy w) :
    Calls Tryz.prog 5 #[.slice p xs.length c, .bool row, .int .i64 a, .int .i64 b] w fun e w' => e = .returned (.bool true) ∧ Below w.heap.size w w' := by
  have H1 : Hid (Calls Tryz.prog 20 #[.slice p xs.length c, .bool row, .int .i64 a, .int .i64 b] w fun e w' => (∃ t v q, e = .returned (.tuple #[v, .int .i64 q]) ∧ Told xs t ∧ SwO xs row a b t v q w') ∧ Below w.heap.size w w') := rswap_any p c xs row a b w hx
  have H2 : Hid (∀ wx, Below w.heap.size w wx → Calls Tryz.prog 21 #[.slice p xs.length c, .bool row, .int .i64 a, .int .i64 b] wx fun e w' => (∃ t v q, e = .returned (.tuple #[v, errV q]) ∧ Told xs t ∧ SwO xs row a b t v q w') ∧ Below wx.heap.size wx w') := fun wx hb => swap_any p c xs row a b wx (hx.below hb) (hE.below hb hE.size)
  have HT : Hid (ErrTy w) := hT
  obtain ⟨n, hn⟩ : ∃ n, xs.length = n := ⟨_, rfl⟩
  rw [hn] at H1 H2 ⊢
  clear hx hE hT hn
  go_enter Tryz.func5, Tryz.ntmps5
  go_wp2_with fail
  refine H1.out.mono ?_
  rintro e w1 ⟨⟨t, v, q, rfl, hT1, hS1⟩, hb1⟩
  have HS1 : Hid (Told xs t ∧ SwO xs row a b t v q w1 ∧ Below w.heap.size w w1) := ⟨hT1, hS1, hb1⟩
  clear hT1 hS1 hb1 H1
  go_wp2_with fail
  refine (H2.out _ HS1.out.2.2).mono ?_
  rintro e w2 ⟨⟨t', v', q', rfl, hT2, hS2⟩, hb2⟩
  have et : t' = t := hT2.one HS1.out.1
  subst et
  obtain ⟨rfl, pz, cz, pz', cz', zs, m, rfl, rfl, hm, hM, hM', hl⟩ := HS1.out.2.1.pair hS2 hb2 hT2
  have HB2 : Hid (Below w.heap.size w w2) := bnext HS1.out.2.2 hb2 HS1.out.2.2.size
  have HM : Hid (Calls Tryz.prog 22 #[.slice pz' m cz', errV q, .slice pz m cz, .int .i64 q] w2 fun r w' => r = .returned (.bool true) ∧ Below w2.heap.size w2 w') := made_any pz' pz cz' cz m zs q w2 hm hM' hM hl (HT.out.below HB2.out HT.out.1)
  generalize errV q = ev at *
  clear HS1 hT2 hS2 hb2 hm hM hM' hl
  go_wp2_with fail
  refine HM.out.mono ?_
  rintro e w3 ⟨rfl, hb3⟩
  have HB3 : Hid (Below w.heap.size w w3) := bnext HB2.out hb3 HB2.out.size
  clear hb3
  go_wp2_with fail
  go_ret
  exact ⟨rfl, HB3.out⟩
end Go.Proofs.YtcekgefkimbfaaaGreatDoor.ps

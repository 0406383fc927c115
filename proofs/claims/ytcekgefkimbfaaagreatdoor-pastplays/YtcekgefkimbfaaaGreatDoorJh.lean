/- Package sheet: With, any texts. Conditions: as each theorem says. -/
import Derived.Test.YtcekgefkimbfaaaGreatDoorJg
namespace Go.Proofs.YtcekgefkimbfaaaGreatDoor.ps
open Go.RowKit
open adr (C)
def zr3 (n : Nat) : Array Value := madeCells #[.int .i64 0, .int .i64 0, .string nul] (n * 3)
theorem zr3_size (n : Nat) : (zr3 n).size = n * 3 := by
  unfold zr3
  simp [madeCells]
theorem make33 (n : Nat) (hn : n ≤ 100000) (w : World) : (Instr.makeSlice 22 (.int .i64 0) (.int .i64 (n : Int))).run Tryz.prog w = .ok (.slice (some ⟨w.heap.size, 0, none⟩) 0 n) (w.alloc (.cells (zr3 n) 36)) := by
  obtain ⟨i0, hi, hz0, hz1, hz2⟩ := info_parts info33
  have := run_make (P := Tryz.prog) w 22 36 i0 _ Tryz.underlying22 hi hz0 .i64 .i64 0 (n : Int) (by omega) (by omega) (by rw [hz2]; omega) (by omega)
  rw [this, hz1]
  simp [zr3, Value.cells]
/-- Some more behind it. -/
theorem WS.more {w : World} {bf : Nat} {f : Fl} {v : Value} {ys : List Fl} {wx : World} (h : WS w bf f v ys wx) (hy : ys.length ≤ 100000) {p : Option Addr} {zs : List Fl} (hz : FM wx p zs) (hl : zs.length ≤ 100000) (c : Nat) :
    ∃ v' w', (Builtin.append_ #[22, 22] 22 #[v, .slice p zs.length c]).run Tryz.prog wx = .ok v' w' ∧ WS w bf f v' (ys ++ zs) w' := by
  obtain ⟨v', w', h1, h2, h3, h4, h5, h6⟩ := app_any wx w.heap.size h.below.size v ys.length (flF ys) h.own p zs c hz (by omega)
  refine ⟨v', w', h1, ⟨by rw [flF_app, List.length_append]; exact h2, fun e => ?_, (h4 bf (fm.lt_blk h.box) h.ne).trans h.box, h.le, h.below.trans h3⟩⟩
  rcases h5 _ e with h' | h'
  · exact h.ne h'
  · have := fm.lt_blk h.box; omega
theorem LV.more {w : World} {v : Value} {ys : List Fl} {wx : World} (h : LV w v ys wx) (hy : ys.length ≤ 100000) {p : Option Addr} {zs : List Fl} (hz : FM wx p zs) (hl : zs.length ≤ 100000) (c : Nat) :
    ∃ v' w', (Builtin.append_ #[22, 22] 22 #[v, .slice p zs.length c]).run Tryz.prog wx = .ok v' w' ∧ LV w v' (ys ++ zs) w' := by
  obtain ⟨v', w', h1, h2, h3, h4, h5, h6⟩ := app_any wx w.heap.size h.below.size v ys.length (flF ys) h.own p zs c hz (by omega)
  exact ⟨v', w', h1, by rw [flF_app, List.length_append]; exact h2, h.below.trans h3⟩
theorem WS.lv {w : World} {bf : Nat} {f : Fl} {v : Value} {ys : List Fl} {wx : World} (h : WS w bf f v ys wx) : LV w v ys wx := ⟨h.own, h.below⟩
/-- The first of what is left, and the text's cell. -/
abbrev WO (w : World) (bf : Nat) (f : Fl) (v : Value) (ys : List Fl) (gx ox : Nat) (x : Fl) (wx : World) : Prop := wx.cell? ⟨gx, ox, none⟩ = some (.int .i64 x.c) ∧ wx.cell? ⟨gx, ox + 1, none⟩ = some (.int .i64 x.r) ∧ wx.cell? ⟨gx, ox + 2, none⟩ = some (.string x.s) ∧ wx.cell? ⟨bf, 0, none⟩ = some (.int .i64 f.c) ∧ wx.cell? ⟨bf, 1, none⟩ = some (.int .i64 f.r) ∧ wx.cell? ⟨bf, 2, none⟩ = some (.string f.s) ∧ WS w bf f v ys wx
theorem wo_ws {w : World} {bf : Nat} {f : Fl} {v : Value} {ys : List Fl} {gx ox : Nat} {x : Fl} {wx : World} (h : WO w bf f v ys gx ox x wx) : WS w bf f v ys wx := h.2.2.2.2.2.2
theorem WS.opened {w : World} {bf : Nat} {f : Fl} {v : Value} {ys : List Fl} {wx : World} (h : WS w bf f v ys wx) {gx ox : Nat} {x : Fl} {l : List Fl} (hx : FM w (some ⟨gx, ox, none⟩) (x :: l)) : WO w bf f v ys gx ox x wx := by
  obtain ⟨q0, q1, q2⟩ := FM.cells (hx.below h.below) (i := 0) rfl
  rw [Nat.zero_mul, Nat.add_zero] at q0 q1 q2
  obtain ⟨b0, b1, b2⟩ := cells3 h.box
  exact ⟨q0, q1, q2, b0, b1, b2, h⟩
/-- Without its first, if that is of the cell. -/
def cutH (f : Fl) : List Fl → List Fl
  | [] => []
  | x :: l => if at' x f.c f.r = true then l else x :: l
/-- A sheet with other texts of some cells. -/
def wl : List Fl → List Fl → List Fl
  | [], xs => xs
  | f :: fs, xs => xs.takeWhile (fun x => lt x f.c f.r) ++ put f ++ wl fs (cutH f (xs.dropWhile (fun x => lt x f.c f.r)))
theorem wl_head {zs fs : List Fl} {f x : Fl} {k : Nat} {l : List Fl} (h : ∀ i y, i < k → zs[i]? = some y → lt y f.c f.r = true) (hd : zs.drop k = x :: l) (h1 : lt x f.c f.r = false) : wl (f :: fs) zs = zs.take k ++ put f ++ wl fs (if at' x f.c f.r = true then l else x :: l) := by
  have ha : ∀ a ∈ zs.take k, (fun x : Fl => lt x f.c f.r) a = true := fun a ha => by
    obtain ⟨i, hi⟩ := List.mem_iff_getElem?.1 ha
    rw [List.getElem?_take] at hi
    split at hi
    · exact h i a (by assumption) hi
    · cases hi
  have e : zs = zs.take k ++ x :: l := by rw [← hd, List.take_append_drop]
  show zs.takeWhile _ ++ put f ++ wl fs (cutH f (zs.dropWhile _)) = _
  have e1 : zs.takeWhile (fun x => lt x f.c f.r) = zs.take k := by
    have t := List.takeWhile_append_of_pos (l₂ := x :: l) ha
    rw [← e] at t
    rw [t, List.takeWhile_cons_of_neg (by simp [h1]), List.append_nil]
  have e2 : zs.dropWhile (fun x => lt x f.c f.r) = x :: l := by
    have t := List.dropWhile_append_of_pos (l₂ := x :: l) ha
    rw [← e] at t
    rw [t, List.dropWhile_cons_of_neg (by simp [h1])]
  rw [e1, e2]
  rfl
theorem wl_end {zs fs : List Fl} {f : Fl} (h : ∀ i y, i < zs.length → zs[i]? = some y → lt y f.c f.r = true) : wl (f :: fs) zs = zs ++ put f ++ wl fs [] := by
  have ha : ∀ a ∈ zs, (fun x : Fl => lt x f.c f.r) a = true := fun a ha => by
    obtain ⟨i, hi⟩ := List.mem_iff_getElem?.1 ha
    exact h i a (List.getElem?_eq_some_iff.1 hi).1 hi
  show zs.takeWhile _ ++ put f ++ wl fs (cutH f (zs.dropWhile _)) = _
  have e1 : zs.takeWhile (fun x => lt x f.c f.r) = zs := by have := List.takeWhile_append_of_pos (l₂ := []) ha; simpa using this
  have e2 : zs.dropWhile (fun x => lt x f.c f.r) = [] := by have := List.dropWhile_append_of_pos (l₂ := []) ha; simpa using this
  rw [e1, e2]
  rfl
theorem put_len (f : Fl) : (put f).length ≤ 1 := by unfold put; split <;> simp
set_option maxRecDepth 100000 in
set_option maxHeartbeats 8000000 in
theorem with_any (p pv : Option Addr) (c cv : Nat) (xs over : List Fl) (w : World) (hx : FM w p xs) (hl : xs.length ≤ 300) (hcap : xs.length ≤ c) (hv : FM w pv over) (hvl : over.length ≤ 50000) :
    Calls Tryz.prog 27 #[.slice p xs.length c, .slice pv over.length cv] w fun e w' => (∃ v, e = .returned v ∧ w'.ownsRow w.heap.size 36 3 v (wl over xs).length (flF (wl over xs))) ∧ Below w.heap.size w w' := by
  obtain ⟨n, hn⟩ : ∃ n, xs.length = n := ⟨_, rfl⟩
  obtain ⟨N, hN⟩ : ∃ N, over.length = N := ⟨_, rfl⟩
  have hmk : ∀ W : World, (Instr.makeSlice 22 (.int .i64 0) (.int .i64 ((n : Int) + (N : Int)))).run Tryz.prog W = .ok (.slice (some ⟨W.heap.size, 0, none⟩) 0 (n + N)) (W.alloc (.cells (zr3 (n + N)) 36)) := fun W => make33 (n + N) (by omega) W
  have HL : Hid (∀ a b c d wx, Calls Tryz.prog 43 #[C a b, C c d] wx fun e w' => e = .returned (.bool (decide (cmpC a b c d < 0))) ∧ Below wx.heap.size wx w') := less_any
  have hn3 : (n : Int) ≤ 300 := by omega
  have hN3 : (N : Int) ≤ 50000 := by omega
  have hnc : n ≤ c := by omega
  rw [hn, hN]
  have HX : Hid (FM w p xs) := hx
  have HV : Hid (FM w pv over ∧ over.length = N) := ⟨hv, hN⟩
  go_enter Tryz.func27, Tryz.ntmps27
  have hb0 : Below w.heap.size w (w.alloc (.cells (zr3 (n + N)) 36)) := (Below.refl _ _).alloc (Nat.le_refl _) _
  have ho0 : (w.alloc (.cells (zr3 (n + N)) 36)).ownsRow w.heap.size 36 3 (.slice (some ⟨w.heap.size, 0, none⟩) 0 (n + N)) 0 [] := World.ownsRow_made (base := w.heap.size) (e := 36) (size := 3) w (zr3 (n + N)) (n + N) (Nat.le_refl _) (by unfold maxLen; omega) (zr3_size _)
  go_wp2_with fail
  generalize w.alloc (.cells (zr3 (n + N)) 36) = W0 at *
  have HLV : Hid (LV w (.slice (some ⟨w.heap.size, 0, none⟩) 0 (n + N)) [] W0) := ⟨ho0, hb0⟩
  have HN : Hid (xs.length = n) := hn
  clear hb0 ho0 hmk hx hv hn hN hvl hl hcap
  go_loopw [0, 5, 16] (fun s0 s5 s16 wr => ∃ (q : Nat) (pr : Option Addr) (M cr : Nat) (ys zs : List Fl), s16 = .int .i64 q ∧ q ≤ N ∧ s0 = .slice pr M cr ∧ M ≤ cr ∧ M ≤ n ∧ Hid (zs.length = M ∧ FM w pr zs ∧ LV w s5 ys wr ∧ ys ++ wl (over.drop q) zs = wl over xs ∧ ys.length + M ≤ n + q)) (fun _ _ i _ => N - (intOf i).toNat)
  case atStart => exact ⟨0, p, n, c, [], xs, rfl, Nat.zero_le _, rfl, hnc, Nat.le_refl _, ⟨HN.out, HX.out, HLV.out, rfl, by simp⟩⟩
  case round =>
    generalize wr = wo at *
    obtain ⟨q, pr, M, cr, ys, zs, rfl, hq, rfl, hMc, hMn, HK⟩ := hrel
    by_cases hqN : q < N
    · obtain ⟨f, hfq⟩ : ∃ f, over[q]? = some f := ⟨_, List.getElem?_eq_getElem (by rw [HV.out.2]; exact hqN)⟩
      have HFS : Hid (over.drop q = f :: over.drop (q + 1)) := by
        obtain ⟨h1, h2⟩ := List.getElem?_eq_some_iff.1 hfq
        exact (List.drop_eq_getElem_cons h1).trans (by rw [h2])
      obtain ⟨gv, ov, rfl⟩ : ∃ gv ov, pv = some ⟨gv, ov, none⟩ := by
        rcases HV.out.1 with h | ⟨g, o, h, -⟩
        · have := HV.out.2; rw [h] at this; simp at this; omega
        · exact ⟨g, o, h⟩
      obtain ⟨q0, q1, q2⟩ := FM.cells (HV.out.1.below HK.out.2.2.1.below) hfq
      have hqi : (q : Int) < (N : Int) := by omega
      have hqi0 : (0 : Int) ≤ (q : Int) := by omega
      have hW1 := HK.out.2.2.1.box f
      have HK1 : Hid (zs.length = M ∧ FM w pr zs ∧ ys ++ wl (over.drop q) zs = wl over xs ∧ ys.length + M ≤ n + q) := ⟨HK.out.1, HK.out.2.1, HK.out.2.2.2.1, HK.out.2.2.2.2⟩
      obtain ⟨bf, hbf⟩ : ∃ bf, wo.heap.size = bf := ⟨_, rfl⟩
      have HW1 : Hid (WS w bf f u5 ys (wo.alloc (.cells #[.int .i64 f.c, .int .i64 f.r, .string f.s] 36))) := by rw [← hbf]; exact hW1
      clear hW1 hfq HK HLV HX HN
      go_wp2_with fail
      try rw [hbf]
      generalize wo.alloc (.cells #[.int .i64 f.c, .int .i64 f.r, .string f.s] 36) = W1 at *
      clear q0 q1 q2 hbf
      go_loopw [0, 5] (fun s0 s5 wx => ∃ k pk ck, k ≤ M ∧ s0 = .slice pk (M - k) ck ∧ M - k ≤ ck ∧ FM w pk (zs.drop k) ∧ WS w bf f s5 (ys ++ zs.take k) wx ∧ ∀ i x, i < k → zs[i]? = some x → lt x f.c f.r = true) (fun s0 _ _ => match s0 with | .slice _ m _ => m | _ => 0)
      case atStart => exact ⟨0, pr, cr, Nat.zero_le _, rfl, hMc, HK1.out.2.1, by rw [List.take_zero, List.append_nil]; exact HW1.out, fun i x hi => absurd hi (Nat.not_lt_zero _)⟩
      case round =>
        obtain ⟨k, pk, ck, hk, rfl, hck, hpk, hW, hlt⟩ := hrel
        clear HW1
        by_cases hkn : k < M
        · obtain ⟨x, l, hd⟩ : ∃ x l, zs.drop k = x :: l := by
            cases hxd : zs.drop k with
            | nil => have := congrArg List.length hxd; rw [List.length_drop, HK1.out.1] at this; simp at this; omega
            | cons x l => exact ⟨x, l, rfl⟩
          rw [hd] at hpk
          obtain ⟨gx, ox, rfl, hgx⟩ := hpk.some
          have h0d := (hW.next (Below.refl _ _).drew).opened hpk
          have HPK : Hid (FM w (some ⟨gx, ox, none⟩) (x :: l)) := hpk
          obtain ⟨m, hm⟩ : ∃ m, M - k = m := ⟨_, rfl⟩
          have hm0 : (0 : Int) < (m : Int) := by omega
          have hmc : (m : Int) ≤ (ck : Int) := by omega
          have hmN : 0 < m := by omega
          have HM : Hid (M - k = m) := hm
          rw [hm]
          obtain ⟨y0, y1, y2, y3, y4, y5, -⟩ := hW.opened hpk
          obtain ⟨Y, hY⟩ : ∃ Y, ys ++ zs.take k = Y := ⟨_, rfl⟩
          have HY : Hid (ys ++ zs.take k = Y ∧ Y.length ≤ 90000) := ⟨hY, by rw [← hY, List.length_append, List.length_take]; have h1 := HK1.out.1; have h2 := HK1.out.2.2.2; omega⟩
          rw [hY] at h0d hW
          have HWk : Hid (WS w bf f u5 Y wr) := hW
          have HLT : Hid (∀ i x, i < k → zs[i]? = some x → lt x f.c f.r = true) := hlt
          have HD : Hid (zs.drop k = x :: l) := hd
          clear hW hlt hpk hd hm hY
          cases hl : lt x f.c f.r with
          | true =>
            have HLj : Hid (∀ wx, Calls Tryz.prog 43 #[C x.c x.r, C f.c f.r] wx fun e w' => e = .returned (.bool true) ∧ Below wx.heap.size wx w') := fun wx => by have := HL.out x.c x.r f.c f.r wx; rw [show decide (cmpC x.c x.r f.c f.r < 0) = true from hl] at this; exact this
            have HLL : Hid (lt x f.c f.r = true) := hl
            clear hl
            go_wp2_with fail
            go_region_held3 (fun wx => WO w bf f u5 Y gx ox x wx) (first | exact h0d | exact WS.opened ((wo_ws (by assumption)).next (by assumption)) HPK.out) (first | (go_at_call 43; refine (HLj.out _).mono ?_; rintro e w1 ⟨rfl, hb1⟩; have hw1 := (wo_ws (by assumption)).next hb1))
            all_goals
              obtain ⟨z0, z1, z2, -⟩ := hw1.opened HPK.out
              obtain ⟨v', w2, hr, hW2⟩ := (hw1.next ((Below.refl _ _).alloc (Nat.le_refl _) (.cells #[.int .i64 x.c, .int .i64 x.r, .string x.s] 36))).more (by have := HY.out.2; omega) (fm_new w1 x) (by simp) 1
              have HR : Hid ((Builtin.append_ #[22, 22] 22 #[u5, .slice (some ⟨w1.heap.size, 0, none⟩) 1 1]).run Tryz.prog (w1.alloc (.cells #[.int .i64 x.c, .int .i64 x.r, .string x.s] 36)) = .ok v' w2) := hr
              have HW2 : Hid (WS w bf f v' (Y ++ [x]) w2) := hW2
              clear hr hW2 y0 y1 y2 y3 y4 y5 h0d hw1 hb1
              go_wp2_with (first | (at_builtin; refine fm.wpList_append_eq rfl _ _ 22 rfl _ _ _ _ rfl rfl HR.out ?_))
              have hk1 : zs[k]? = some x := by have := congrArg (fun l => l[0]?) HD.out; simpa using this
              have hl1 : zs.drop (k + 1) = l := by have := congrArg (List.drop 1) HD.out; simpa [List.drop_drop] using this
              have hll : l.length = M - (k + 1) := by rw [← hl1, List.length_drop, HK1.out.1]
              have hM := HM.out
              refine ⟨⟨k + 1, _, ck - 1, by omega, by rw [show M - (k + 1) = m - 1 by omega], by omega, ?_, ?_, ?_⟩, by simp; omega⟩
              · rw [hl1]
                by_cases h1 : ck = 1
                · exact .inl (List.length_eq_zero_iff.1 (by omega))
                · rw [if_neg h1]; exact HPK.out.drop
              · rw [List.take_add_one, hk1, ← List.append_assoc, HY.out.1]; exact HW2.out
              · intro i y hi hy
                by_cases e : i = k
                · subst e; rw [hk1] at hy; injection hy with hy; subst hy; exact HLL.out
                · exact HLT.out i y (by omega) hy
          | false =>
            have HLj : Hid (∀ wx, Calls Tryz.prog 43 #[C x.c x.r, C f.c f.r] wx fun e w' => e = .returned (.bool false) ∧ Below wx.heap.size wx w') := fun wx => by have := HL.out x.c x.r f.c f.r wx; rw [show decide (cmpC x.c x.r f.c f.r < 0) = false from hl] at this; exact this
            have HLL : Hid (lt x f.c f.r = false) := hl
            clear hl
            go_wp2_with fail
            go_cut [31] (fun s31 wx => s31 = .bool false ∧ WS w bf f u5 Y wx)
            case first =>
              go_region_held3 (fun wx => WO w bf f u5 Y gx ox x wx) (first | exact h0d | exact WS.opened ((wo_ws (by assumption)).next (by assumption)) HPK.out) (first | (go_at_call 43; refine (HLj.out _).mono ?_; rintro e w1 ⟨rfl, hb1⟩; have hw1 := (wo_ws (by assumption)).next hb1))
              all_goals
                go_wp2_with fail
                go_meet
                case rel => exact ⟨rfl, hw1⟩
            case rest =>
            obtain ⟨rfl, hw1⟩ := hcut
            have HW1' : Hid (WS w bf f u5 Y wc) := hw1
            clear hw1 y0 y1 y2 y3 y4 y5 h0d HWk HLj HL
            obtain ⟨y0, y1, y2, y3, y4, y5, -⟩ := HW1'.out.opened HPK.out
            have e30 := fun W => eql30 x.c x.r f.c f.r W
            go_wp2_with fail
            go_cut [51] (fun s51 wx => s51 = .bool (decide (x.c = f.c) && decide (x.r = f.r)) ∧ WS w bf f u5 Y wx)
            case first =>
              go_region
              all_goals
                go_wp2_with fail
                go_meet
                case rel => exact ⟨rfl, HW1'.out.next (Below.refl _ _).drew⟩
            case rest =>
            obtain ⟨rfl, hw1⟩ := hcut
            clear y0 y1 y2 y3 y4 y5 e30 HW1'
            have HW8 : Hid (WS w bf f u5 Y wc) := hw1
            clear hw1
            go_upto_if 51 with fail
            go_cut [0] (fun s0 wx => ∃ pr m' cr zs', s0 = .slice pr m' cr ∧ m' ≤ cr ∧ m' ≤ M ∧ Hid (zs'.length = m' ∧ FM w pr zs' ∧ Y ++ put f ++ wl (over.drop (q + 1)) zs' = wl over xs ∧ k + m' ≤ M) ∧ WS w bf f u5 Y wx)
            case first =>
              have HWH : Hid (Y ++ put f ++ wl (over.drop (q + 1)) (if at' x f.c f.r = true then l else x :: l) = wl over xs) := by
                have h1 := HK1.out.2.2.1
                rw [HFS.out, wl_head HLT.out HD.out HLL.out, ← List.append_assoc, ← List.append_assoc, HY.out.1] at h1
                exact h1
              have hll : l.length + 1 = m := by have := congrArg List.length HD.out; rw [List.length_drop, HK1.out.1, List.length_cons, HM.out] at this; exact this.symm
              cases hc : (decide (x.c = f.c) && decide (x.r = f.r)) with
              | true =>
                have HA : Hid (at' x f.c f.r = true) := by simp at hc; exact at_iff.2 hc
                clear hc
                by_cases h1 : ck = 1
                · go_wp2_with fail
                  go_meet
                  case rel => exact ⟨some ⟨gx, ox, none⟩, l.length, ck - 1, l, by rw [show l.length = m - 1 by omega]; simp [h1], by omega, by have := HM.out; omega, ⟨rfl, .inl (List.length_eq_zero_iff.1 (by omega)), by rw [← HWH.out, if_pos HA.out], by have := HM.out; omega⟩, HW8.out⟩
                · go_wp2_with fail
                  go_meet
                  case rel => exact ⟨_, l.length, ck - 1, l, by rw [show l.length = m - 1 by omega], by omega, by have := HM.out; omega, ⟨rfl, HPK.out.drop, by rw [← HWH.out, if_pos HA.out], by have := HM.out; omega⟩, HW8.out⟩
              | false =>
                have HA : Hid (at' x f.c f.r = false) := by unfold Hid; rw [at_no]; intro h; simp [h.1, h.2] at hc
                go_wp2_with fail
                go_meet
                case rel => exact ⟨_, m, ck, x :: l, rfl, by omega, by have := HM.out; omega, ⟨by simpa using hll, HPK.out, by rw [← HWH.out, if_neg (by simp [HA.out])], by have := HM.out; omega⟩, HW8.out⟩
            case rest =>
            obtain ⟨pr, m', cr, zs', rfl, hz1, hz2, HZ, hw1⟩ := hcut
            obtain ⟨b0, b1, b2⟩ := cells3 hw1.box
            have HYl : Hid (Y.length ≤ ys.length + k) := by unfold Hid; rw [← HY.out.1, List.length_append, List.length_take]; omega
            clear HW8
            cases hfs : f.s.toList.isEmpty with
            | true =>
              have HP : Hid (put f = []) := put_nul (emp_yes hfs)
              go_wp2_with fail
              refine ⟨⟨q + 1, pr, m', cr, Y, zs', rfl, by omega, rfl, hz1, by omega, HZ.out.1, HZ.out.2.1, hw1.lv, ?_, ?_⟩, by simp [intOf]; omega⟩
              · have := HZ.out.2.2.1; rwa [HP.out, List.append_nil] at this
              · have h1 := HYl.out; have h2 := HZ.out.2.2.2; have h3 := HK1.out.2.2.2; omega
            | false =>
              have HP : Hid (put f = [f]) := put_one (emp_no hfs)
              obtain ⟨v', w2, hr, hW2⟩ := (hw1.next ((Below.refl _ _).alloc (Nat.le_refl _) (.cells #[.int .i64 f.c, .int .i64 f.r, .string f.s] 36))).more (by have := HY.out.2; omega) (fm_new _ f) (by simp) 1
              have HR : Hid ((Builtin.append_ #[22, 22] 22 #[u5, .slice (some ⟨wc.heap.size, 0, none⟩) 1 1]).run Tryz.prog (wc.alloc (.cells #[.int .i64 f.c, .int .i64 f.r, .string f.s] 36)) = .ok v' w2) := hr
              have HW2 : Hid (WS w bf f v' (Y ++ [f]) w2) := hW2
              clear hr hW2
              go_wp2_with (first | (at_builtin; refine fm.wpList_append_eq rfl _ _ 22 rfl _ _ _ _ rfl rfl HR.out ?_))
              refine ⟨⟨q + 1, pr, m', cr, Y ++ [f], zs', rfl, by omega, rfl, hz1, by omega, HZ.out.1, HZ.out.2.1, HW2.out.lv, ?_, ?_⟩, by simp [intOf]; omega⟩
              · have := HZ.out.2.2.1; rwa [HP.out] at this
              · have h1 := HYl.out; have h2 := HZ.out.2.2.2; have h3 := HK1.out.2.2.2; rw [List.length_append, List.length_singleton]; omega
        · obtain rfl : k = M := by omega
          have hz : zs.take k = zs := by rw [← HK1.out.1]; exact List.take_length
          rw [hz] at hW
          obtain ⟨Y, hY⟩ : ∃ Y, ys ++ zs = Y := ⟨_, rfl⟩
          rw [hY] at hW
          have HWE : Hid (Y ++ put f ++ wl (over.drop (q + 1)) [] = wl over xs ∧ Y.length ≤ 90000 ∧ Y.length ≤ n + q) := by
            obtain ⟨a1, a2, a3, a4⟩ := HK1.out
            rw [HFS.out, wl_end (fun i y hi hy => hlt i y (by omega) hy), ← List.append_assoc, ← List.append_assoc, hY] at a3
            have hYl : Y.length = ys.length + k := by rw [← hY, List.length_append, a1]
            exact ⟨a3, by omega, by omega⟩
          have HW1' : Hid (WS w bf f u5 Y wr) := hW
          rw [Nat.sub_self]
          clear hW hlt hpk hz hY
          obtain ⟨b0, b1, b2⟩ := cells3 HW1'.out.box
          go_wp2_with fail
          go_cut [31] (fun s31 wx => s31 = .bool false ∧ WS w bf f u5 Y wx)
          case first =>
            go_quiet (fail)
            go_wp2_with fail
            go_meet
            case rel => exact ⟨rfl, HW1'.out.next (drewN_below _ _)⟩
          case rest =>
          obtain ⟨rfl, hw1⟩ := hcut
          have HW8 : Hid (WS w bf f u5 Y wc) := hw1
          clear hw1 b0 b1 b2 HW1'
          go_wp2_with fail
          go_cut [51] (fun s51 wx => s51 = .bool false ∧ WS w bf f u5 Y wx)
          case first =>
            go_quiet (fail)
            go_wp2_with fail
            go_meet
            case rel => exact ⟨rfl, HW8.out.next (drewN_below _ _)⟩
          case rest =>
          obtain ⟨rfl, hw1⟩ := hcut
          clear HW8
          obtain ⟨b0, b1, b2⟩ := cells3 hw1.box
          cases hfs : f.s.toList.isEmpty with
          | true =>
            have HP : Hid (put f = []) := put_nul (emp_yes hfs)
            go_wp2_with fail
            refine ⟨⟨q + 1, pk, 0, ck, Y, [], rfl, by omega, rfl, by omega, by omega, rfl, .inl rfl, hw1.lv, ?_, ?_⟩, by simp [intOf]; omega⟩
            · have := HWE.out.1; rwa [HP.out, List.append_nil] at this
            · have := HWE.out.2.2; omega
          | false =>
            have HP : Hid (put f = [f]) := put_one (emp_no hfs)
            obtain ⟨v', w2, hr, hW2⟩ := (hw1.next ((Below.refl _ _).alloc (Nat.le_refl _) (.cells #[.int .i64 f.c, .int .i64 f.r, .string f.s] 36))).more (by have := HWE.out.2.1; omega) (fm_new _ f) (by simp) 1
            have HR : Hid ((Builtin.append_ #[22, 22] 22 #[u5, .slice (some ⟨wc.heap.size, 0, none⟩) 1 1]).run Tryz.prog (wc.alloc (.cells #[.int .i64 f.c, .int .i64 f.r, .string f.s] 36)) = .ok v' w2) := hr
            have HW2 : Hid (WS w bf f v' (Y ++ [f]) w2) := hW2
            clear hr hW2
            go_wp2_with (first | (at_builtin; refine fm.wpList_append_eq rfl _ _ 22 rfl _ _ _ _ rfl rfl HR.out ?_))
            refine ⟨⟨q + 1, pk, 0, ck, Y ++ [f], [], rfl, by omega, rfl, by omega, by omega, rfl, .inl rfl, HW2.out.lv, ?_, ?_⟩, by simp [intOf]; omega⟩
            · have := HWE.out.1; rwa [HP.out] at this
            · have := HWE.out.2.2; rw [List.length_append, List.length_singleton]; omega
    · have e : q = N := by omega
      subst e
      have hq' : ¬ (q : Int) < (q : Int) := by omega
      obtain ⟨a1, a2, a3, a4, a5⟩ := HK.out
      obtain ⟨v', w2, hr, hW2⟩ := a3.more (by omega) (a2.below a3.below) (by omega) cr
      rw [a1] at hr
      have HR : Hid ((Builtin.append_ #[22, 22] 22 #[u5, .slice pr M cr]).run Tryz.prog wo = .ok v' w2) := hr
      have e : ys ++ zs = wl over xs := by rw [← a4, ← HV.out.2, List.drop_length]; rfl
      rw [e] at hW2
      have HW2 : Hid (LV w v' (wl over xs) w2) := hW2
      clear hr hW2 e a1 a2 a3 a4 a5 HK
      go_wp2_with (first | (at_builtin; refine fm.wpList_append_eq rfl _ _ 22 rfl _ _ _ _ rfl rfl HR.out ?_))
      go_ret
      exact ⟨⟨_, rfl, HW2.out.own⟩, HW2.out.below⟩
end Go.Proofs.YtcekgefkimbfaaaGreatDoor.ps
/- Where a cell stands in a list, and its text. Conditions: as each theorem says. -/
namespace Go.Proofs.YtcekgefkimbfaaaGreatDoor.ps
open Go.RowKit
open adr (C)
/-- A place of the list and the cell that is sought, opened. -/
structure BS (w : World) (c0 r0 : Int) (wx : World) : Prop where
  below : Below w.heap.size w wx
  box : wx.heap[w.heap.size]? = some (.cells #[.int .i64 c0, .int .i64 r0] 34 (0, 0))
theorem BS.next {w : World} {c0 r0 : Int} {wx wy : World} (h : BS w c0 r0 wx) (hb : Below wx.heap.size wx wy) : BS w c0 r0 wy := ⟨bnext h.below hb h.below.size, (hb.block _ (fm.lt_blk h.box)).trans h.box⟩
abbrev BO (w : World) (c0 r0 : Int) (g o h : Nat) (x : Fl) (wx : World) : Prop := wx.cell? ⟨g, o + h * 3, none⟩ = some (.int .i64 x.c) ∧ wx.cell? ⟨g, o + h * 3 + 1, none⟩ = some (.int .i64 x.r) ∧ wx.cell? ⟨g, o + h * 3 + 2, none⟩ = some (.string x.s) ∧ wx.cell? ⟨w.heap.size, 0, none⟩ = some (.int .i64 c0) ∧ wx.cell? ⟨w.heap.size, 1, none⟩ = some (.int .i64 r0) ∧ BS w c0 r0 wx
theorem bo_bs {w : World} {c0 r0 : Int} {g o h : Nat} {x : Fl} {wx : World} (q : BO w c0 r0 g o h x wx) : BS w c0 r0 wx := q.2.2.2.2.2
theorem BS.opened {w : World} {c0 r0 : Int} {wx : World} (q : BS w c0 r0 wx) {g o h : Nat} {x : Fl} {xs : List Fl} (hx : FM w (some ⟨g, o, none⟩) xs) (hh : xs[h]? = some x) : BO w c0 r0 g o h x wx := by
  obtain ⟨q0, q1, q2⟩ := FM.cells (hx.below q.below) hh
  obtain ⟨b0, b1⟩ := cells2 q.box
  exact ⟨q0, q1, q2, b0, b1, q⟩
theorem srt_lo {xs : List Fl} (hs : Srt xs) {h : Nat} {x : Fl} {c r : Int} (hx : xs[h]? = some x) (hl : lt x c r = true) : ∀ a y, a < h + 1 → xs[a]? = some y → lt y c r = true := by
  intro a y ha hy
  by_cases e : a = h
  · subst e; rw [hx] at hy; injection hy with hy; subst hy; exact hl
  · have := srt_get hs hy hx (by omega)
    rw [lt_iff] at this hl ⊢
    omega
theorem srt_hi {xs : List Fl} (hs : Srt xs) {h : Nat} {x : Fl} {c r : Int} (hx : xs[h]? = some x) (hl : lt x c r = false) : ∀ a y, h ≤ a → xs[a]? = some y → lt y c r = false := by
  intro a y ha hy
  by_cases e : a = h
  · subst e; rw [hx] at hy; injection hy with hy; subst hy; exact hl
  · have := srt_get hs hx hy (by omega)
    rw [lt_iff] at this
    rw [lt_no] at hl ⊢
    omega
/-- None is the one that is sought. -/
theorem srt_none {xs : List Fl} (hs : Srt xs) {i : Nat} {c r : Int} (hlo : ∀ a x, a < i → xs[a]? = some x → lt x c r = true) (hhi : ∀ a x, i ≤ a → xs[a]? = some x → lt x c r = false) (h : ∀ x, xs[i]? = some x → at' x c r = false) : ∀ x ∈ xs, at' x c r = false := by
  intro y hy
  obtain ⟨a, ha, rfl⟩ := List.getElem_of_mem hy
  have hya : xs[a]? = some xs[a] := List.getElem?_eq_getElem ha
  by_cases h1 : a < i
  · have := hlo a _ h1 hya
    rw [lt_iff] at this
    rw [at_no]
    omega
  · by_cases e : a = i
    · subst e; exact h _ hya
    · have hi : i < xs.length := by omega
      have hxi : xs[i]? = some xs[i] := List.getElem?_eq_getElem hi
      have g1 := hhi i _ (Nat.le_refl _) hxi
      have g2 := srt_get hs hxi hya (by omega)
      rw [lt_no] at g1
      rw [lt_iff] at g2
      rw [at_no]
      omega
set_option maxRecDepth 100000 in
set_option maxHeartbeats 8000000 in
theorem bs_any (p : Option Addr) (c : Nat) (xs : List Fl) (c0 r0 : Int) (w : World) (hx : FM w p xs) (hl : xs.length ≤ 300) (hs : Srt xs) :
    Calls Tryz.prog 69 #[.slice p xs.length c, C c0 r0, .func (.func 70) #[] #[]] w fun e w' => ∃ (i : Nat) (b : Bool), e = .returned (.tuple #[.int .i64 i, .bool b]) ∧ i ≤ xs.length ∧ (b = true → ∃ x, xs[i]? = some x ∧ at' x c0 r0 = true) ∧ (b = false → ∀ x ∈ xs, at' x c0 r0 = false) ∧ Below w.heap.size w w' := by
  obtain ⟨n, hn⟩ : ∃ n, xs.length = n := ⟨_, rfl⟩
  have HN : Hid (xs.length = n) := hn
  have HC : Hid (∀ (x : Fl) c r wx, Calls Tryz.prog 70 #[FV x, C c r] wx fun e w' => e = .returned (.int .i64 (cmpC x.c x.r c r)) ∧ Below wx.heap.size wx w') := cmpF_any
  have hn3 : (n : Int) ≤ 300 := by omega
  have HX : Hid (FM w p xs) := hx
  have HSr : Hid (Srt xs) := hs
  have hb0 : Below w.heap.size w (w.alloc (.cells #[.int .i64 c0, .int .i64 r0] 34)) := (Below.refl _ _).alloc (Nat.le_refl _) _
  have hq0 := heap_alloc_new w (.cells #[.int .i64 c0, .int .i64 r0] 34)
  rw [hn]
  clear hx hs hn hl
  go_enter Tryz.func69, Tryz.ntmps69
  go_wp2_with fail
  generalize w.alloc (.cells #[.int .i64 c0, .int .i64 r0] 34) = W0 at *
  have H0 : Hid (Below w.heap.size w W0 ∧ W0.heap[w.heap.size]? = some (.cells #[.int .i64 c0, .int .i64 r0] 34 (0, 0))) := ⟨hb0, hq0⟩
  clear hb0 hq0
  go_loopw [9, 10] (fun si sj wr => ∃ i j : Nat, si = .int .i64 i ∧ sj = .int .i64 j ∧ i ≤ j ∧ j ≤ n ∧ (∀ a x, a < i → xs[a]? = some x → lt x c0 r0 = true) ∧ (∀ a x, j ≤ a → xs[a]? = some x → lt x c0 r0 = false) ∧ Below w.heap.size w wr ∧ wr.heap[w.heap.size]? = some (.cells #[.int .i64 c0, .int .i64 r0] 34 (0, 0))) (fun si sj _ => (intOf sj).toNat - (intOf si).toNat)
  case atStart => exact ⟨0, n, rfl, rfl, Nat.zero_le _, Nat.le_refl _, fun a x h => absurd h (Nat.not_lt_zero _), fun a x h hx => by have := (List.getElem?_eq_some_iff.1 hx).1; have := HN.out; omega, H0.out.1, H0.out.2⟩
  case round =>
    obtain ⟨i, j, rfl, rfl, hij, hjn, hlo, hhi, hb, hq⟩ := hrel
    by_cases hlt : i < j
    · have hlt' : (i : Int) < (j : Int) := by omega
      have hi0 : (0 : Int) ≤ (i : Int) := by omega
      have hj3 : (j : Int) ≤ 300 := by omega
      obtain ⟨h, hh⟩ : ∃ h : Nat, (i + j) / 2 = h := ⟨_, rfl⟩
      have hh' : ((i : Int) + (j : Int)) / 2 = (h : Int) := by omega
      have hhn : h < n := by omega
      have hhn' : (h : Int) < (n : Int) := by omega
      have hh0 : (0 : Int) ≤ (h : Int) := by omega
      obtain ⟨x, hxh⟩ : ∃ x, xs[h]? = some x := ⟨xs[h]'(by rw [HN.out]; exact hhn), List.getElem?_eq_getElem _⟩
      obtain ⟨g, o, rfl, hg⟩ := HX.out.at hxh
      have hB : BS w c0 r0 wr := ⟨hb, hq⟩
      have h0d := (hB.next (Below.refl _ _).drew).opened HX.out hxh
      obtain ⟨y0, y1, y2, y3, y4, -⟩ := hB.opened HX.out hxh
      have HK : Hid ((∀ a x, a < i → xs[a]? = some x → lt x c0 r0 = true) ∧ (∀ a x, j ≤ a → xs[a]? = some x → lt x c0 r0 = false) ∧ xs[h]? = some x) := ⟨hlo, hhi, hxh⟩
      clear hlo hhi hb hq hB hxh
      go_wp2_with fail
      try simp only [hh']
      go_cut [31] (fun s31 wx => s31 = .bool (lt x c0 r0) ∧ BS w c0 r0 wx)
      case first =>
        go_region_held3 (fun wx => BO w c0 r0 g o h x wx) (first | exact h0d | exact BS.opened ((bo_bs (by assumption)).next (by assumption)) HX.out HK.out.2.2) (first | (go_at_call 70; refine (HC.out x _ _ _).mono ?_; rintro e w1 ⟨rfl, hb1⟩; have hw1 := (bo_bs (by assumption)).next hb1))
        all_goals
          go_wp2_with fail
          go_meet
          case rel => exact ⟨rfl, hw1⟩
      case rest =>
      obtain ⟨rfl, hw1⟩ := hcut
      clear y0 y1 y2 y3 y4 h0d
      cases hl : lt x c0 r0 with
      | true =>
        have HL : Hid (lt x c0 r0 = true) := hl
        clear hl
        go_wp2_with fail
        exact ⟨⟨h + 1, j, by simp, rfl, by omega, hjn, srt_lo HSr.out HK.out.2.2 HL.out, HK.out.2.1, hw1.below, hw1.box⟩, by simp [intOf]; omega⟩
      | false =>
        have HL : Hid (lt x c0 r0 = false) := hl
        clear hl
        go_wp2_with fail
        exact ⟨⟨i, h, rfl, rfl, by omega, by omega, HK.out.1, srt_hi HSr.out HK.out.2.2 HL.out, hw1.below, hw1.box⟩, by simp [intOf]; omega⟩
    · obtain rfl : i = j := by omega
      by_cases hin : i < n
      · have hin' : (i : Int) < (n : Int) := by omega
        have hi0 : (0 : Int) ≤ (i : Int) := by omega
        obtain ⟨x, hxh⟩ : ∃ x, xs[i]? = some x := ⟨xs[i]'(by rw [HN.out]; exact hin), List.getElem?_eq_getElem _⟩
        obtain ⟨g, o, rfl, hg⟩ := HX.out.at hxh
        have hB : BS w c0 r0 wr := ⟨hb, hq⟩
        have h0d := (hB.next (Below.refl _ _).drew).opened HX.out hxh
        obtain ⟨y0, y1, y2, y3, y4, -⟩ := hB.opened HX.out hxh
        have HK : Hid ((∀ a x, a < i → xs[a]? = some x → lt x c0 r0 = true) ∧ (∀ a x, i ≤ a → xs[a]? = some x → lt x c0 r0 = false) ∧ xs[i]? = some x) := ⟨hlo, hhi, hxh⟩
        have HA : Hid (at' x c0 r0 = decide (cmpC x.c x.r c0 r0 = 0)) := rfl
        clear hlo hhi hb hq hB hxh
        go_wp2_with fail
        go_cut [6, 7] (fun s6 s7 wx => s6 = .int .i64 i ∧ s7 = .bool (cmpC x.c x.r c0 r0 == 0) ∧ BS w c0 r0 wx)
        case first =>
          go_region_held3 (fun wx => BO w c0 r0 g o i x wx) (first | exact h0d | exact BS.opened ((bo_bs (by assumption)).next (by assumption)) HX.out HK.out.2.2) (first | (go_at_call 70; refine (HC.out x _ _ _).mono ?_; rintro e w1 ⟨rfl, hb1⟩; have hw1 := (bo_bs (by assumption)).next hb1))
          all_goals
            go_wp2_with fail
            go_meet
            case rel => exact ⟨rfl, rfl, hw1⟩
        case rest =>
        obtain ⟨rfl, rfl, hw1⟩ := hcut
        go_wp2_with fail
        refine bodyPost_ret (v := .tuple #[.int .i64 i, .bool (cmpC x.c x.r c0 r0 == 0)]) (by simp [results, Tryz.results69, go_sem]) rfl ⟨i, cmpC x.c x.r c0 r0 == 0, rfl, by omega, fun h => ⟨x, HK.out.2.2, ?_⟩, fun h => srt_none HSr.out HK.out.1 HK.out.2.1 (fun y hy => ?_), hw1.below⟩
        · rw [HA.out]; simpa using h
        · rw [HK.out.2.2] at hy
          injection hy with hy
          subst hy
          rw [HA.out]; simpa using h
      · obtain rfl : i = n := by omega
        have hB : BS w c0 r0 wr := ⟨hb, hq⟩
        have HK : Hid ((∀ a x, a < i → xs[a]? = some x → lt x c0 r0 = true) ∧ (∀ a x, i ≤ a → xs[a]? = some x → lt x c0 r0 = false)) := ⟨hlo, hhi⟩
        clear hlo hhi hb hq
        go_wp2_with fail
        go_cut [6, 7] (fun s6 s7 wx => s6 = .int .i64 i ∧ s7 = .bool false ∧ BS w c0 r0 wx)
        case first =>
          go_quiet (fail)
          go_wp2_with fail
          go_meet
          case rel => exact ⟨rfl, rfl, hB.next (drewN_below _ _)⟩
        case rest =>
        obtain ⟨rfl, rfl, hw1⟩ := hcut
        go_wp2_with fail
        refine bodyPost_ret (v := .tuple #[.int .i64 i, .bool false]) (by simp [results, Tryz.results69, go_sem]) rfl ⟨i, false, rfl, by omega, fun h => absurd h (by simp), fun h => srt_none HSr.out HK.out.1 HK.out.2 (fun y hy => ?_), hw1.below⟩
        have := (List.getElem?_eq_some_iff.1 hy).1
        have := HN.out
        omega
set_option maxRecDepth 100000 in
set_option maxHeartbeats 4000000 in
theorem text_any (p : Option Addr) (c : Nat) (xs : List Fl) (c0 r0 : Int) (w : World) (hx : FM w p xs) (hl : xs.length ≤ 300) (hs : Srt xs) :
    Calls Tryz.prog 48 #[.slice p xs.length c, C c0 r0] w fun e w' => e = .returned (.string (txt xs c0 r0)) ∧ Below w.heap.size w w' := by
  have hb0 : Below w.heap.size w (w.alloc (.cells #[.int .i64 c0, .int .i64 r0] 34)) := (Below.refl _ _).alloc (Nat.le_refl _) _
  have HB0 : Hid (Below w.heap.size w (w.alloc (.cells #[.int .i64 c0, .int .i64 r0] 34))) := hb0
  have HX : Hid (FM w p xs) := hx
  have HSr : Hid (Srt xs) := hs
  have HBS : Hid (∀ wx, Below w.heap.size w wx → Calls Tryz.prog 69 #[.slice p xs.length c, C c0 r0, .func (.func 70) #[] #[]] wx fun e w' => ∃ (i : Nat) (b : Bool), e = .returned (.tuple #[.int .i64 i, .bool b]) ∧ i ≤ xs.length ∧ (b = true → ∃ x, xs[i]? = some x ∧ at' x c0 r0 = true) ∧ (b = false → ∀ x ∈ xs, at' x c0 r0 = false) ∧ Below wx.heap.size wx w') := fun wx hb => bs_any p c xs c0 r0 wx (HX.out.below hb) hl HSr.out
  have hn3 : (xs.length : Int) ≤ 300 := by omega
  obtain ⟨n, hn⟩ : ∃ n, xs.length = n := ⟨_, rfl⟩
  have HN : Hid (xs.length = n) := hn
  rw [hn] at HBS hn3 ⊢
  clear hx hs hl hb0 hn
  go_enter Tryz.func48, Tryz.ntmps48
  go_wp2_with fail
  refine (HBS.out _ HB0.out).mono ?_
  rintro e w1 ⟨i, b, rfl, hi, hy, hno, hb1⟩
  have HB1 : Hid (Below w.heap.size w w1) := bnext HB0.out hb1 HB0.out.size
  cases b with
  | false =>
    have HT : Hid (txt xs c0 r0 = nul) := txt_none (hno rfl)
    clear hno hy hb1
    go_wp2_with fail
    go_ret
    exact ⟨by rw [HT.out]; rfl, HB1.out⟩
  | true =>
    obtain ⟨x, hx, ha⟩ := hy rfl
    obtain ⟨g, o, rfl, hg⟩ := HX.out.at hx
    obtain ⟨y0, y1, y2⟩ := FM.cells (HX.out.below HB1.out) hx
    have hlt : (i : Int) < (n : Int) := by have := (List.getElem?_eq_some_iff.1 hx).1; have := HN.out; omega
    have hi0 : (0 : Int) ≤ (i : Int) := by omega
    have HT : Hid (txt xs c0 r0 = x.s) := by
      have := txt_at HSr.out hx
      rw [(at_iff.1 ha).1, (at_iff.1 ha).2] at this
      exact this
    clear hno hy hb1 ha
    go_wp2_with fail
    go_ret
    exact ⟨by rw [HT.out]; rfl, HB1.out⟩
end Go.Proofs.YtcekgefkimbfaaaGreatDoor.ps
/- Package past: the step that some texts make. Conditions: as each theorem says. -/
namespace Go.Proofs.YtcekgefkimbfaaaGreatDoor.ps
open Go.RowKit
open adr (C)
theorem bytes_eq {a b : ByteArray} (h : (a.toList == b.toList) = true) : a = b := by
  have h1 : a.toList = b.toList := by simpa using h
  rw [ByteArray.toList_eq, ByteArray.toList_eq] at h1
  exact ByteArray.ext (Array.toList_inj.mp h1)
theorem own_slice {w : World} {v : Value} {n B : Nat} {xs : List Value} (h : w.ownsRow B 36 3 v n xs) : ∃ p c, v = .slice p n c := by
  rcases h.2 with ⟨rfl, h0⟩ | ⟨g, cap, cur, h1, h2⟩
  · exact ⟨none, 0, by rw [h0]⟩
  · exact ⟨_, _, h1⟩
theorem own_ne {w : World} {v : Value} {n B r : Nat} {xs : List Value} {cs : Array Value} {t : TypeId} {fr : Nat × Nat} (h : w.ownsRow B 36 3 v n xs) (hr : w.heap[r]? = some (.cells cs t fr)) (ht : t ≠ 36) : v.ownBlock ≠ some r := by
  rcases h.2 with ⟨rfl, h0⟩ | ⟨g, cap, cur, rfl, -, hg, -⟩
  · simp [Value.ownBlock]
  · intro e
    have e' : g = r := by simpa [Value.ownBlock] using e
    subst e'
    rw [hr] at hg
    injection hg with hg
    injection hg with _ h2
    exact ht h2
theorem own_nil (w : World) (b : Nat) : w.ownsRow b 36 3 (.slice none 0 0) 0 [] := ⟨rfl, .inl ⟨rfl, rfl⟩⟩
theorem own_keep {w w' : World} {v : Value} {n B : Nat} {xs : List Value} (h : w.ownsRow B 36 3 v n xs) (hk : ∀ g, v.ownBlock = some g → w'.heap[g]? = w.heap[g]?) : w'.ownsRow B 36 3 v n xs := by
  refine ⟨h.1, ?_⟩
  rcases h.2 with h0 | ⟨g, cap, cur, h1, h2, hg, h4⟩
  · exact .inl h0
  · exact .inr ⟨g, cap, cur, h1, h2, (hk g (by rw [h1]; rfl)).trans hg, h4⟩
/-- Has it another text than the sheet? -/
def chg (xs : List Fl) (f : Fl) : Bool := !((txt xs f.c f.r).toList == f.s.toList)
def was (xs : List Fl) (f : Fl) : Fl := ⟨f.c, f.r, txt xs f.c f.r⟩
/-- What a step has: the new texts, the old ones. -/
def stB (xs o : List Fl) : List Fl := o.filter (chg xs)
def stA (xs o : List Fl) : List Fl := (stB xs o).map (was xs)
theorem stB_len (xs o : List Fl) : (stB xs o).length ≤ o.length := List.length_filter_le _ _
theorem stA_len (xs o : List Fl) : (stA xs o).length = (stB xs o).length := List.length_map _
theorem stB_yes {xs o : List Fl} {q : Nat} {f : Fl} (h : o[q]? = some f) (hc : chg xs f = true) : stB xs (o.take (q + 1)) = stB xs (o.take q) ++ [f] := by
  unfold stB
  rw [List.take_add_one, h, List.filter_append]
  simp [hc]
theorem stB_no {xs o : List Fl} {q : Nat} {f : Fl} (h : o[q]? = some f) (hc : chg xs f = false) : stB xs (o.take (q + 1)) = stB xs (o.take q) := by
  unfold stB
  rw [List.take_add_one, h, List.filter_append]
  simp [hc]
/-- The step's box with its two lists, and the box of a text. -/
structure SS (w : World) (va vb : Value) (A B : List Fl) (wx : World) : Prop where
  own1 : wx.ownsRow w.heap.size 36 3 va A.length (flF A)
  own2 : wx.ownsRow w.heap.size 36 3 vb B.length (flF B)
  ne : ∀ b, va.ownBlock = some b → vb.ownBlock ≠ some b
  box : wx.heap[w.heap.size]? = some (.cells #[va, vb] 63 (0, 0))
  below : Below w.heap.size w wx
structure SF (w : World) (bf : Nat) (f : Fl) (va vb : Value) (A B : List Fl) (wx : World) : Prop extends SS w va vb A B wx where
  fbox : wx.heap[bf]? = some (.cells #[.int .i64 f.c, .int .i64 f.r, .string f.s] 36 (0, 0))
  n1 : va.ownBlock ≠ some bf
  n2 : vb.ownBlock ≠ some bf
theorem SS.next {w : World} {va vb : Value} {A B : List Fl} {wx wy : World} (h : SS w va vb A B wx) (hb : Below wx.heap.size wx wy) : SS w va vb A B wy :=
  ⟨own_next h.own1 hb, own_next h.own2 hb, h.ne, (hb.block _ (fm.lt_blk h.box)).trans h.box, bnext h.below hb h.below.size⟩
theorem SF.next {w : World} {bf : Nat} {f : Fl} {va vb : Value} {A B : List Fl} {wx wy : World} (h : SF w bf f va vb A B wx) (hb : Below wx.heap.size wx wy) : SF w bf f va vb A B wy :=
  ⟨h.toSS.next hb, (hb.block _ (fm.lt_blk h.fbox)).trans h.fbox, h.n1, h.n2⟩
theorem SS.boxed {w : World} {va vb : Value} {A B : List Fl} {wx : World} (h : SS w va vb A B wx) (f : Fl) : SF w wx.heap.size f va vb A B (wx.alloc (.cells #[.int .i64 f.c, .int .i64 f.r, .string f.s] 36)) :=
  ⟨h.next ((Below.refl _ _).alloc (Nat.le_refl _) _), heap_alloc_new _ _, fun e => Nat.lt_irrefl _ (h.own1.lt _ e).2, fun e => Nat.lt_irrefl _ (h.own2.lt _ e).2⟩
theorem SF.nb {w : World} {bf : Nat} {f : Fl} {va vb : Value} {A B : List Fl} {wx : World} (h : SF w bf f va vb A B wx) : bf ≠ w.heap.size := fun e => by
  have := h.fbox
  rw [e, h.box] at this
  simp at this
theorem SF.appA {w : World} {bf : Nat} {f : Fl} {va vb : Value} {A B : List Fl} {wx : World} (h : SF w bf f va vb A B wx) (hA : A.length ≤ 50000) (y : Fl) :
    ∃ p n c w', (Builtin.append_ #[22, 22] 22 #[va, .slice (some ⟨wx.heap.size, 0, none⟩) 1 1]).run Tryz.prog (wx.alloc (.cells #[.int .i64 y.c, .int .i64 y.r, .string y.s] 36)) = .ok (.slice p n c) w' ∧ w'.heap[w.heap.size]? = some (.cells #[va, vb] 63 (0, 0)) ∧ SF w bf f (.slice p n c) vb (A ++ [y]) B (w'.setCell ⟨w.heap.size, 0, none⟩ (.slice p n c)) := by
  have h1 := h.next ((Below.refl _ _).alloc (Nat.le_refl _) (.cells #[.int .i64 y.c, .int .i64 y.r, .string y.s] 36))
  obtain ⟨v', w', r1, r2, r3, r4, r5, r6⟩ := app_any (wx.alloc (.cells #[.int .i64 y.c, .int .i64 y.r, .string y.s] 36)) w.heap.size h1.below.size va A.length (flF A) h1.own1 (some ⟨wx.heap.size, 0, none⟩) [y] 1 (fm_new wx y) (by simp; omega)
  generalize wx.alloc (.cells #[.int .i64 y.c, .int .i64 y.r, .string y.s] 36) = W at *
  have ho : w'.ownsRow w.heap.size 36 3 v' (A ++ [y]).length (flF (A ++ [y])) := by rw [flF_app, List.length_append]; exact r2
  obtain ⟨p, c, rfl⟩ := own_slice ho
  have hbx : w'.heap[w.heap.size]? = some (.cells #[va, vb] 63 (0, 0)) := (r4 _ (fm.lt_blk h1.box) (own_ne h1.own1 h1.box (by decide))).trans h1.box
  have hfb := (r4 _ (fm.lt_blk h1.fbox) h1.n1).trans h1.fbox
  have ho2 : w'.ownsRow w.heap.size 36 3 vb B.length (flF B) := own_keep h1.own2 (fun g hg => r4 g (h1.own2.lt _ hg).2 (fun e => h1.ne g e hg))
  refine ⟨p, _, c, w', r1, hbx, ⟨ownsRow_setCell_other ho (own_ne ho hbx (by decide)) _, ownsRow_setCell_other ho2 (own_ne ho2 hbx (by decide)) _, fun b hb e => ?_, by rw [fm.blk_set hbx]; rfl, (h1.below.trans r3).setCell (Nat.le_refl _) _⟩, (Below.heap_setCell _ _ _ _ h.nb).trans hfb, fun e => ?_, h1.n2⟩
  · rcases r5 b hb with h' | h'
    · exact h1.ne b h' e
    · have := (h1.own2.lt _ e).2; omega
  · rcases r5 bf e with h' | h'
    · exact h1.n1 h'
    · have := fm.lt_blk h1.fbox; omega
theorem SF.appB {w : World} {bf : Nat} {f : Fl} {va vb : Value} {A B : List Fl} {wx : World} (h : SF w bf f va vb A B wx) (hB : B.length ≤ 50000) (y : Fl) :
    ∃ p n c w', (Builtin.append_ #[22, 22] 22 #[vb, .slice (some ⟨wx.heap.size, 0, none⟩) 1 1]).run Tryz.prog (wx.alloc (.cells #[.int .i64 y.c, .int .i64 y.r, .string y.s] 36)) = .ok (.slice p n c) w' ∧ w'.heap[w.heap.size]? = some (.cells #[va, vb] 63 (0, 0)) ∧ SF w bf f va (.slice p n c) A (B ++ [y]) (w'.setCell ⟨w.heap.size, 1, none⟩ (.slice p n c)) := by
  have h1 := h.next ((Below.refl _ _).alloc (Nat.le_refl _) (.cells #[.int .i64 y.c, .int .i64 y.r, .string y.s] 36))
  obtain ⟨v', w', r1, r2, r3, r4, r5, r6⟩ := app_any (wx.alloc (.cells #[.int .i64 y.c, .int .i64 y.r, .string y.s] 36)) w.heap.size h1.below.size vb B.length (flF B) h1.own2 (some ⟨wx.heap.size, 0, none⟩) [y] 1 (fm_new wx y) (by simp; omega)
  generalize wx.alloc (.cells #[.int .i64 y.c, .int .i64 y.r, .string y.s] 36) = W at *
  have ho : w'.ownsRow w.heap.size 36 3 v' (B ++ [y]).length (flF (B ++ [y])) := by rw [flF_app, List.length_append]; exact r2
  obtain ⟨p, c, rfl⟩ := own_slice ho
  have hbx : w'.heap[w.heap.size]? = some (.cells #[va, vb] 63 (0, 0)) := (r4 _ (fm.lt_blk h1.box) (own_ne h1.own2 h1.box (by decide))).trans h1.box
  have hfb := (r4 _ (fm.lt_blk h1.fbox) h1.n2).trans h1.fbox
  have ho1 : w'.ownsRow w.heap.size 36 3 va A.length (flF A) := own_keep h1.own1 (fun g hg => r4 g (h1.own1.lt _ hg).2 (fun e => h1.ne g hg e))
  refine ⟨p, _, c, w', r1, hbx, ⟨ownsRow_setCell_other ho1 (own_ne ho1 hbx (by decide)) _, ownsRow_setCell_other ho (own_ne ho hbx (by decide)) _, fun b hb e => ?_, by rw [fm.blk_set hbx]; rfl, (h1.below.trans r3).setCell (Nat.le_refl _) _⟩, (Below.heap_setCell _ _ _ _ h.nb).trans hfb, h1.n1, fun e => ?_⟩
  · rcases r5 b e with h' | h'
    · exact h1.ne b hb h'
    · have := (h1.own1.lt _ hb).2; omega
  · rcases r5 bf e with h' | h'
    · exact h1.n2 h'
    · have := fm.lt_blk h1.fbox; omega
set_option maxRecDepth 100000 in
set_option maxHeartbeats 8000000 in
theorem stepTo_any (p pv : Option Addr) (c cv : Nat) (xs over : List Fl) (w : World) (hx : FM w p xs) (hl : xs.length ≤ 300) (hs : Srt xs) (hv : FM w pv over) (hvl : over.length ≤ 50000) :
    Calls Tryz.prog 30 #[.slice p xs.length c, .slice pv over.length cv] w fun e w' => ∃ va vb, e = .returned (.agg #[va, vb]) ∧ w'.ownsRow w.heap.size 36 3 va (stA xs over).length (flF (stA xs over)) ∧ w'.ownsRow w.heap.size 36 3 vb (stB xs over).length (flF (stB xs over)) ∧ Below w.heap.size w w' := by
  have HT : Hid (∀ a b wx, Below w.heap.size w wx → Calls Tryz.prog 48 #[.slice p xs.length c, C a b] wx fun e w' => e = .returned (.string (txt xs a b)) ∧ Below wx.heap.size wx w') := fun a b wx hb => text_any p c xs a b wx (hx.below hb) hl hs
  have H0 : Hid (SS w (.slice none 0 0) (.slice none 0 0) [] [] (w.alloc (.cells #[.slice none 0 0, .slice none 0 0] 63))) := ⟨own_nil _ _, own_nil _ _, fun b e => by simp [Value.ownBlock] at e, heap_alloc_new _ _, (Below.refl _ _).alloc (Nat.le_refl _) _⟩
  obtain ⟨N, hN⟩ : ∃ N, over.length = N := ⟨_, rfl⟩
  have HV : Hid (FM w pv over ∧ over.length = N ∧ N ≤ 50000) := ⟨hv, hN, by omega⟩
  rw [hN]
  have hN3 : (N : Int) ≤ 50000 := by omega
  generalize xs.length = n at *
  clear hx hl hs hv hvl hN
  go_enter Tryz.func30, Tryz.ntmps30
  go_wp2_with fail
  generalize w.alloc (.cells #[.slice none 0 0, .slice none 0 0] 63) = W0 at *
  go_loopw [10] (fun i wr => ∃ q : Nat, i = .int .i64 q ∧ q ≤ N ∧ ∃ pa na ca pb nb cb, SS w (.slice pa na ca) (.slice pb nb cb) (stA xs (over.take q)) (stB xs (over.take q)) wr) (fun i _ => N - (intOf i).toNat)
  case atStart => exact ⟨0, rfl, Nat.zero_le _, none, 0, 0, none, 0, 0, H0.out⟩
  case round =>
    clear H0
    generalize wr = wo at *
    obtain ⟨q, rfl, hq, pa, na, ca, pb, nb, cb, hS⟩ := hrel
    have HS : Hid (SS w (.slice pa na ca) (.slice pb nb cb) (stA xs (over.take q)) (stB xs (over.take q)) wo) := hS
    clear hS
    by_cases hqN : q < N
    · obtain ⟨f, hfq⟩ : ∃ f, over[q]? = some f := ⟨_, List.getElem?_eq_getElem (by rw [HV.out.2.1]; exact hqN)⟩
      obtain ⟨gv, ov, rfl⟩ : ∃ gv ov, pv = some ⟨gv, ov, none⟩ := by
        obtain ⟨g, o, h, -⟩ := HV.out.1.at hfq
        exact ⟨g, o, h⟩
      obtain ⟨q0, q1, q2⟩ := FM.cells (HV.out.1.below HS.out.below) hfq
      have HFQ : Hid (over[q]? = some f) := hfq
      have hqi : (q : Int) < (N : Int) := by omega
      have hqi0 : (0 : Int) ≤ (q : Int) := by omega
      have hS1 := HS.out.boxed f
      obtain ⟨b0, b1, b2⟩ := cells3 hS1.fbox
      have HS1 : Hid (SF w wo.heap.size f (.slice pa na ca) (.slice pb nb cb) (stA xs (over.take q)) (stB xs (over.take q)) (wo.alloc (.cells #[.int .i64 f.c, .int .i64 f.r, .string f.s] 36))) := hS1
      clear hS1 hfq HS
      go_wp2_with fail
      refine (HT.out _ _ _ HS1.out.below).mono ?_
      rintro e w1 ⟨rfl, hb2⟩
      obtain ⟨t, ht⟩ : ∃ t, txt xs f.c f.r = t := ⟨_, rfl⟩
      rw [ht]
      have HS2 := HS1.out.next hb2
      generalize wo.heap.size = bf at *
      have HS2 : Hid (SF w bf f (.slice pa na ca) (.slice pb nb cb) (stA xs (over.take q)) (stB xs (over.take q)) w1) := HS2
      clear b0 b1 b2 q0 q1 q2 HS1 hb2
      obtain ⟨b0, b1, b2⟩ := cells3 HS2.out.fbox
      obtain ⟨d0, d1⟩ := cells2 HS2.out.box
      cases hE : (t.toList == f.s.toList) with
      | true =>
        have HC : Hid (chg xs f = false) := by unfold Hid chg; rw [ht, hE]; rfl
        go_wp2_with fail
        refine ⟨⟨q + 1, rfl, by omega, pa, na, ca, pb, nb, cb, ?_⟩, by simp [intOf]; omega⟩
        unfold stA
        rw [stB_no HFQ.out HC.out]
        exact HS2.out.toSS
      | false =>
        have HC : Hid (chg xs f = true ∧ was xs f = ⟨f.c, f.r, t⟩) := ⟨by unfold chg; rw [ht, hE]; rfl, by unfold was; rw [ht]⟩
        have HLn : Hid ((stA xs (over.take q)).length ≤ 50000 ∧ (stB xs (over.take q)).length ≤ 50000) := by
          have h1 := stB_len xs (over.take q)
          rw [List.length_take] at h1
          have h2 := HV.out.2
          rw [Hid, stA_len]
          omega
        obtain ⟨pa', na', ca', w2, hra, hbx, hS3⟩ := HS2.out.appA HLn.out.1 ⟨f.c, f.r, t⟩
        have HRA : Hid ((Builtin.append_ #[22, 22] 22 #[.slice pa na ca, .slice (some ⟨w1.heap.size, 0, none⟩) 1 1]).run Tryz.prog (w1.alloc (.cells #[.int .i64 f.c, .int .i64 f.r, .string t] 36)) = .ok (.slice pa' na' ca') w2) := hra
        obtain ⟨c0, c1⟩ := cells2 hbx
        have z0 := froz hbx 0
        have HS3 : Hid (SF w bf f (.slice pa' na' ca') (.slice pb nb cb) (stA xs (over.take q) ++ [⟨f.c, f.r, t⟩]) (stB xs (over.take q)) (w2.setCell ⟨w.heap.size, 0, none⟩ (.slice pa' na' ca'))) := hS3
        clear hra hbx hS3 ht
        go_upto_region 7 with (first | (at_builtin; refine fm.wpList_append_eq rfl _ _ 22 rfl _ _ _ _ rfl rfl HRA.out ?_))
        generalize w2.setCell ⟨w.heap.size, 0, none⟩ (.slice pa' na' ca') = w3 at *
        clear c0 c1 z0 d0 d1 b0 b1 b2 HRA HS2 HT
        obtain ⟨c0, c1⟩ := cells2 HS3.out.box
        obtain ⟨b0, b1, b2⟩ := cells3 HS3.out.fbox
        obtain ⟨pb', nb', cb', w4, hrb, hbx, hS4⟩ := HS3.out.appB HLn.out.2 f
        have HRB : Hid ((Builtin.append_ #[22, 22] 22 #[.slice pb nb cb, .slice (some ⟨w3.heap.size, 0, none⟩) 1 1]).run Tryz.prog (w3.alloc (.cells #[.int .i64 f.c, .int .i64 f.r, .string f.s] 36)) = .ok (.slice pb' nb' cb') w4) := hrb
        obtain ⟨e0, e1⟩ := cells2 hbx
        have z1 := froz hbx 1
        have HS4 : Hid (SF w bf f (.slice pa' na' ca') (.slice pb' nb' cb') (stA xs (over.take q) ++ [⟨f.c, f.r, t⟩]) (stB xs (over.take q) ++ [f]) (w4.setCell ⟨w.heap.size, 1, none⟩ (.slice pb' nb' cb'))) := hS4
        clear hrb hbx hS4 HS3
        go_wp2_with (first | (at_builtin; refine fm.wpList_append_eq rfl _ _ 22 rfl _ _ _ _ rfl rfl HRB.out ?_))
        refine ⟨⟨q + 1, rfl, by omega, pa', na', ca', pb', nb', cb', ?_⟩, by simp [intOf]; omega⟩
        have e : stA xs (over.take (q + 1)) = stA xs (over.take q) ++ [⟨f.c, f.r, t⟩] := by
          unfold stA
          rw [stB_yes HFQ.out HC.out.1, List.map_append, ← HC.out.2]
          rfl
        rw [e, stB_yes HFQ.out HC.out.1]
        exact HS4.out.toSS
    · have e : q = N := by omega
      subst e
      have hq' : ¬ (q : Int) < (q : Int) := by omega
      have HS' : Hid (SS w (.slice pa na ca) (.slice pb nb cb) (stA xs over) (stB xs over) wo) := by
        have := HS.out
        rw [← HV.out.2.1, List.take_length] at this
        exact this
      obtain ⟨c0, c1⟩ := cells2 HS'.out.box
      have z0 := froz HS'.out.box 0
      have z1 := froz HS'.out.box 1
      clear HS
      go_wp2_with fail
      obtain ⟨a2, a3, -, hr, hb⟩ := HS'.out
      have h1 : (wo.setCell ⟨w.heap.size, 0, none⟩ (.slice pa na ca)).heap[w.heap.size]? = some (.cells #[.slice pa na ca, .slice pb nb cb] 63 (0, 0)) := by rw [fm.blk_set hr]; rfl
      have h2 : ((wo.setCell ⟨w.heap.size, 0, none⟩ (.slice pa na ca)).setCell ⟨w.heap.size, 1, none⟩ (.slice pb nb cb)).heap[w.heap.size]? = some (.cells #[.slice pa na ca, .slice pb nb cb] 63 (0, 0)) := by rw [fm.blk_set h1]; rfl
      obtain ⟨e0, e1⟩ := cells2 h2
      refine bodyPost_ret (v := .agg #[.slice pa na ca, .slice pb nb cb]) (by simp [results, Tryz.results30, go_sem, e0, e1]) rfl ⟨_, _, rfl, ?_, ?_, (hb.setCell (Nat.le_refl _) _).setCell (Nat.le_refl _) _⟩
      · have := ownsRow_setCell_other a2 (a := ⟨w.heap.size, 0, none⟩) (own_ne a2 hr (by decide)) (.slice pa na ca)
        exact ownsRow_setCell_other this (a := ⟨w.heap.size, 1, none⟩) (own_ne this h1 (by decide)) _
      · have := ownsRow_setCell_other a3 (a := ⟨w.heap.size, 0, none⟩) (own_ne a3 hr (by decide)) (.slice pa na ca)
        exact ownsRow_setCell_other this (a := ⟨w.heap.size, 1, none⟩) (own_ne this h1 (by decide)) _
end Go.Proofs.YtcekgefkimbfaaaGreatDoor.ps

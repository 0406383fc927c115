
/- Package sheet: With, any texts. Conditions: as each theorem says. -/
import Derived.Test.YtomgjjngkffbbaaGreatDoorYg0
namespace Go.Proofs.YtomgjjngkffbbaaGreatDoor.ps
open Go.RowKit
open adr (C)
def zr3 (n : Nat) : Array Value := madeCells #[.int .i64 0, .int .i64 0, .string nul] (n * 3)
theorem zr3_size (n : Nat) : (zr3 n).size = n * 3 := by
  unfold zr3
  simp [madeCells]
theorem make33 (n : Nat) (hn : n ≤ 100000) (w : World) : (Instr.makeSlice 22 (.int .i64 0) (.int .i64 (n : Int))).run Tryz.prog w = .ok (.slice (some ⟨w.heap.size, 0, none⟩) 0 n) (w.alloc (.cells (zr3 n) 45)) := by
  obtain ⟨i0, hi, hz0, hz1, hz2⟩ := info_parts info33
  have := run_make (P := Tryz.prog) w 22 45 i0 _ Tryz.underlying22 hi hz0 .i64 .i64 0 (n : Int) (by omega) (by omega) (by rw [hz2]; omega) (by omega)
  rw [this, hz1]
  simp [zr3, Value.cells]
/-- Some more behind it. -/
theorem WS.more {w : World} {bf : Nat} {f : Fl} {v : Value} {ys : List Fl} {wx : World} (h : WS w bf f v ys wx) (hy : ys.length ≤ 100000) {p : Option Addr} {zs : List Fl} (hz : FM wx p zs) (hl : zs.length ≤ 100000) (c : Nat) :
    ∃ v' w', (Builtin.append_ #[22, 22] 22 #[v, .slice p zs.length c]).run Tryz.prog wx = .ok v' w' ∧ WS w bf f v' (ys ++ zs) w' := by
  obtain ⟨v', w', h1, h2, h3, h4, h5, h6⟩ := app_any wx w.heap.size h.below.size v ys.length (flF ys) h.own p zs c hz (by omega)
  refine ⟨v', w', h1, ⟨by rw [flF_app, List.length_append]; exact h2, fun e => ?_, (h4 bf (fm.lt_blk h.box) h.ne).trans h.box, h.le, h.below.trans h3⟩⟩
  rcases h5 _ e with h' | h'
  · exact h.ne h'
  · have := fm.lt_blk h.box; omega
theorem LV.more {w : World} {v : Value} {ys : List Fl} {wx : World} (h : LV w v ys wx) (hy : ys.length ≤ 100000) {p : Option Addr} {zs : List Fl} (hz : FM wx p zs) (hl : zs.length ≤ 100000) (c : Nat) :
    ∃ v' w', (Builtin.append_ #[22, 22] 22 #[v, .slice p zs.length c]).run Tryz.prog wx = .ok v' w' ∧ LV w v' (ys ++ zs) w' := by
  obtain ⟨v', w', h1, h2, h3, h4, h5, h6⟩ := app_any wx w.heap.size h.below.size v ys.length (flF ys) h.own p zs c hz (by omega)
  exact ⟨v', w', h1, by rw [flF_app, List.length_append]; exact h2, h.below.trans h3⟩
theorem WS.lv {w : World} {bf : Nat} {f : Fl} {v : Value} {ys : List Fl} {wx : World} (h : WS w bf f v ys wx) : LV w v ys wx := ⟨h.own, h.below⟩
/-- The first of what is left, and the text's cell. -/
abbrev WO (w : World) (bf : Nat) (f : Fl) (v : Value) (ys : List Fl) (gx ox : Nat) (x : Fl) (wx : World) : Prop := wx.cell? ⟨gx, ox, none⟩ = some (.int .i64 x.c) ∧ wx.cell? ⟨gx, ox + 1, none⟩ = some (.int .i64 x.r) ∧ wx.cell? ⟨gx, ox + 2, none⟩ = some (.string x.s) ∧ wx.cell? ⟨bf, 0, none⟩ = some (.int .i64 f.c) ∧ wx.cell? ⟨bf, 1, none⟩ = some (.int .i64 f.r) ∧ wx.cell? ⟨bf, 2, none⟩ = some (.string f.s) ∧ WS w bf f v ys wx
theorem wo_ws {w : World} {bf : Nat} {f : Fl} {v : Value} {ys : List Fl} {gx ox : Nat} {x : Fl} {wx : World} (h : WO w bf f v ys gx ox x wx) : WS w bf f v ys wx := h.2.2.2.2.2.2
theorem WS.opened {w : World} {bf : Nat} {f : Fl} {v : Value} {ys : List Fl} {wx : World} (h : WS w bf f v ys wx) {gx ox : Nat} {x : Fl} {l : List Fl} (hx : FM w (some ⟨gx, ox, none⟩) (x :: l)) : WO w bf f v ys gx ox x wx := by
  obtain ⟨q0, q1, q2⟩ := FM.cells (hx.below h.below) (i := 0) rfl
  rw [Nat.zero_mul, Nat.add_zero] at q0 q1 q2
  obtain ⟨b0, b1, b2⟩ := cells3 h.box
  exact ⟨q0, q1, q2, b0, b1, b2, h⟩
/-- Without its first, if that is of the cell. -/
def cutH (f : Fl) : List Fl → List Fl
  | [] => []
  | x :: l => if at' x f.c f.r = true then l else x :: l
/-- A sheet with other texts of some cells. -/
def wl : List Fl → List Fl → List Fl
  | [], xs => xs
  | f :: fs, xs => xs.takeWhile (fun x => lt x f.c f.r) ++ put f ++ wl fs (cutH f (xs.dropWhile (fun x => lt x f.c f.r)))
theorem wl_head {zs fs : List Fl} {f x : Fl} {k : Nat} {l : List Fl} (h : ∀ i y, i < k → zs[i]? = some y → lt y f.c f.r = true) (hd : zs.drop k = x :: l) (h1 : lt x f.c f.r = false) : wl (f :: fs) zs = zs.take k ++ put f ++ wl fs (if at' x f.c f.r = true then l else x :: l) := by
  have ha : ∀ a ∈ zs.take k, (fun x : Fl => lt x f.c f.r) a = true := fun a ha => by
    obtain ⟨i, hi⟩ := List.mem_iff_getElem?.1 ha
    rw [List.getElem?_take] at hi
    split at hi
    · exact h i a (by assumption) hi
    · cases hi
  have e : zs = zs.take k ++ x :: l := by rw [← hd, List.take_append_drop]
  show zs.takeWhile _ ++ put f ++ wl fs (cutH f (zs.dropWhile _)) = _
  have e1 : zs.takeWhile (fun x => lt x f.c f.r) = zs.take k := by
    have t := List.takeWhile_append_of_pos (l₂ := x :: l) ha
    rw [← e] at t
    rw [t, List.takeWhile_cons_of_neg (by simp [h1]), List.append_nil]
  have e2 : zs.dropWhile (fun x => lt x f.c f.r) = x :: l := by
    have t := List.dropWhile_append_of_pos (l₂ := x :: l) ha
    rw [← e] at t
    rw [t, List.dropWhile_cons_of_neg (by simp [h1])]
  rw [e1, e2]
  rfl
theorem wl_end {zs fs : List Fl} {f : Fl} (h : ∀ i y, i < zs.length → zs[i]? = some y → lt y f.c f.r = true) : wl (f :: fs) zs = zs ++ put f ++ wl fs [] := by
  have ha : ∀ a ∈ zs, (fun x : Fl => lt x f.c f.r) a = true := fun a ha => by
    obtain ⟨i, hi⟩ := List.mem_iff_getElem?.1 ha
    exact h i a (List.getElem?_eq_some_iff.1 hi).1 hi
  show zs.takeWhile _ ++ put f ++ wl fs (cutH f (zs.dropWhile _)) = _
  have e1 : zs.takeWhile (fun x => lt x f.c f.r) = zs := by have := List.takeWhile_append_of_pos (l₂ := []) ha; simpa using this
  have e2 : zs.dropWhile (fun x => lt x f.c f.r) = [] := by have := List.dropWhile_append_of_pos (l₂ := []) ha; simpa using this
  rw [e1, e2]
  rfl
theorem put_len (f : Fl) : (put f).length ≤ 1 := by unfold put; split <;> simp
set_option maxRecDepth 100000 in
set_option maxHeartbeats 8000000 in
theorem with_any (p pv : Option Addr) (c cv : Nat) (xs over : List Fl) (w : World) (hx : FM w p xs) (hl : xs.length ≤ 300) (hcap : xs.length ≤ c) (hv : FM w pv over) (hvl : over.length ≤ 50000) :
    Calls Tryz.prog 33 #[.slice p xs.length c, .slice pv over.length cv] w fun e w' => (∃ v, e = .returned v ∧ w'.ownsRow w.heap.size 45 3 v (wl over xs).length (flF (wl over xs))) ∧ Below w.heap.size w w' := by
  obtain ⟨n, hn⟩ : ∃ n, xs.length = n := ⟨_, rfl⟩
  obtain ⟨N, hN⟩ : ∃ N, over.length = N := ⟨_, rfl⟩
  have hmk : ∀ W : World, (Instr.makeSlice 22 (.int .i64 0) (.int .i64 ((n : Int) + (N : Int)))).run Tryz.prog W = .ok (.slice (some ⟨W.heap.size, 0, none⟩) 0 (n + N)) (W.alloc (.cells (zr3 (n + N)) 45)) := fun W => make33 (n + N) (by omega) W
  have HL : Hid (∀ a b c d wx, Calls Tryz.prog 46 #[C a b, C c d] wx fun e w' => e = .returned (.bool (decide (cmpC a b c d < 0))) ∧ Below wx.heap.size wx w') := less_any
  have hn3 : (n : Int) ≤ 300 := by omega
  have hN3 : (N : Int) ≤ 50000 := by omega
  have hnc : n ≤ c := by omega
  rw [hn, hN]
  have HX : Hid (FM w p xs) := hx
  have HV : Hid (FM w pv over ∧ over.length = N) := ⟨hv, hN⟩
  go_enter Tryz.func33, Tryz.ntmps33
  have hb0 : Below w.heap.size w (w.alloc (.cells (zr3 (n + N)) 45)) := (Below.refl _ _).alloc (Nat.le_refl _) _
  have ho0 : (w.alloc (.cells (zr3 (n + N)) 45)).ownsRow w.heap.size 45 3 (.slice (some ⟨w.heap.size, 0, none⟩) 0 (n + N)) 0 [] := World.ownsRow_made (base := w.heap.size) (e := 45) (size := 3) w (zr3 (n + N)) (n + N) (Nat.le_refl _) (by unfold maxLen; omega) (zr3_size _)
  go_wp2_with fail
  generalize w.alloc (.cells (zr3 (n + N)) 45) = W0 at *
  have HLV : Hid (LV w (.slice (some ⟨w.heap.size, 0, none⟩) 0 (n + N)) [] W0) := ⟨ho0, hb0⟩
  have HN : Hid (xs.length = n) := hn
  clear hb0 ho0 hmk hx hv hn hN hvl hl hcap
  go_loopw [0, 5, 16] (fun s0 s5 s16 wr => ∃ (q : Nat) (pr : Option Addr) (M cr : Nat) (ys zs : List Fl), s16 = .int .i64 q ∧ q ≤ N ∧ s0 = .slice pr M cr ∧ M ≤ cr ∧ M ≤ n ∧ Hid (zs.length = M ∧ FM w pr zs ∧ LV w s5 ys wr ∧ ys ++ wl (over.drop q) zs = wl over xs ∧ ys.length + M ≤ n + q)) (fun _ _ i _ => N - (intOf i).toNat)
  case atStart => exact ⟨0, p, n, c, [], xs, rfl, Nat.zero_le _, rfl, hnc, Nat.le_refl _, ⟨HN.out, HX.out, HLV.out, rfl, by simp⟩⟩
  case round =>
    generalize wr = wo at *
    obtain ⟨q, pr, M, cr, ys, zs, rfl, hq, rfl, hMc, hMn, HK⟩ := hrel
    by_cases hqN : q < N
    · obtain ⟨f, hfq⟩ : ∃ f, over[q]? = some f := ⟨_, List.getElem?_eq_getElem (by rw [HV.out.2]; exact hqN)⟩
      have HFS : Hid (over.drop q = f :: over.drop (q + 1)) := by
        obtain ⟨h1, h2⟩ := List.getElem?_eq_some_iff.1 hfq
        exact (List.drop_eq_getElem_cons h1).trans (by rw [h2])
      obtain ⟨gv, ov, rfl⟩ : ∃ gv ov, pv = some ⟨gv, ov, none⟩ := by
        rcases HV.out.1 with h | ⟨g, o, h, -⟩
        · have := HV.out.2; rw [h] at this; simp at this; omega
        · exact ⟨g, o, h⟩
      obtain ⟨q0, q1, q2⟩ := FM.cells (HV.out.1.below HK.out.2.2.1.below) hfq
      have hqi : (q : Int) < (N : Int) := by omega
      have hqi0 : (0 : Int) ≤ (q : Int) := by omega
      have hW1 := HK.out.2.2.1.box f
      have HK1 : Hid (zs.length = M ∧ FM w pr zs ∧ ys ++ wl (over.drop q) zs = wl over xs ∧ ys.length + M ≤ n + q) := ⟨HK.out.1, HK.out.2.1, HK.out.2.2.2.1, HK.out.2.2.2.2⟩
      obtain ⟨bf, hbf⟩ : ∃ bf, wo.heap.size = bf := ⟨_, rfl⟩
      have HW1 : Hid (WS w bf f u5 ys (wo.alloc (.cells #[.int .i64 f.c, .int .i64 f.r, .string f.s] 45))) := by rw [← hbf]; exact hW1
      clear hW1 hfq HK HLV HX HN
      go_wp2_with fail
      try rw [hbf]
      generalize wo.alloc (.cells #[.int .i64 f.c, .int .i64 f.r, .string f.s] 45) = W1 at *
      clear q0 q1 q2 hbf
      go_loopw [0, 5] (fun s0 s5 wx => ∃ k pk ck, k ≤ M ∧ s0 = .slice pk (M - k) ck ∧ M - k ≤ ck ∧ FM w pk (zs.drop k) ∧ WS w bf f s5 (ys ++ zs.take k) wx ∧ ∀ i x, i < k → zs[i]? = some x → lt x f.c f.r = true) (fun s0 _ _ => match s0 with | .slice _ m _ => m | _ => 0)
      case atStart => exact ⟨0, pr, cr, Nat.zero_le _, rfl, hMc, HK1.out.2.1, by rw [List.take_zero, List.append_nil]; exact HW1.out, fun i x hi => absurd hi (Nat.not_lt_zero _)⟩
      case round =>
        obtain ⟨k, pk, ck, hk, rfl, hck, hpk, hW, hlt⟩ := hrel
        clear HW1
        by_cases hkn : k < M
        · obtain ⟨x, l, hd⟩ : ∃ x l, zs.drop k = x :: l := by
            cases hxd : zs.drop k with
            | nil => have := congrArg List.length hxd; rw [List.length_drop, HK1.out.1] at this; simp at this; omega
            | cons x l => exact ⟨x, l, rfl⟩
          rw [hd] at hpk
          obtain ⟨gx, ox, rfl, hgx⟩ := hpk.some
          have h0d := (hW.next (Below.refl _ _).drew).opened hpk
          have HPK : Hid (FM w (some ⟨gx, ox, none⟩) (x :: l)) := hpk
          obtain ⟨m, hm⟩ : ∃ m, M - k = m := ⟨_, rfl⟩
          have hm0 : (0 : Int) < (m : Int) := by omega
          have hmc : (m : Int) ≤ (ck : Int) := by omega
          have hmN : 0 < m := by omega
          have HM : Hid (M - k = m) := hm
          rw [hm]
          obtain ⟨y0, y1, y2, y3, y4, y5, -⟩ := hW.opened hpk
          obtain ⟨Y, hY⟩ : ∃ Y, ys ++ zs.take k = Y := ⟨_, rfl⟩
          have HY : Hid (ys ++ zs.take k = Y ∧ Y.length ≤ 90000) := ⟨hY, by rw [← hY, List.length_append, List.length_take]; have h1 := HK1.out.1; have h2 := HK1.out.2.2.2; omega⟩
          rw [hY] at h0d hW
          have HWk : Hid (WS w bf f u5 Y wr) := hW
          have HLT : Hid (∀ i x, i < k → zs[i]? = some x → lt x f.c f.r = true) := hlt
          have HD : Hid (zs.drop k = x :: l) := hd
          clear hW hlt hpk hd hm hY
          cases hl : lt x f.c f.r with
          | true =>
            have HLj : Hid (∀ wx, Calls Tryz.prog 46 #[C x.c x.r, C f.c f.r] wx fun e w' => e = .returned (.bool true) ∧ Below wx.heap.size wx w') := fun wx => by have := HL.out x.c x.r f.c f.r wx; rw [show decide (cmpC x.c x.r f.c f.r < 0) = true from hl] at this; exact this
            have HLL : Hid (lt x f.c f.r = true) := hl
            clear hl
            go_wp2_with fail
            go_region_held3 (fun wx => WO w bf f u5 Y gx ox x wx) (first | exact h0d | exact WS.opened ((wo_ws (by assumption)).next (by assumption)) HPK.out) (first | (go_at_call 46; refine (HLj.out _).mono ?_; rintro e w1 ⟨rfl, hb1⟩; have hw1 := (wo_ws (by assumption)).next hb1))
            all_goals
              obtain ⟨z0, z1, z2, -⟩ := hw1.opened HPK.out
              obtain ⟨v', w2, hr, hW2⟩ := (hw1.next ((Below.refl _ _).alloc (Nat.le_refl _) (.cells #[.int .i64 x.c, .int .i64 x.r, .string x.s] 45))).more (by have := HY.out.2; omega) (fm_new w1 x) (by simp) 1
              have HR : Hid ((Builtin.append_ #[22, 22] 22 #[u5, .slice (some ⟨w1.heap.size, 0, none⟩) 1 1]).run Tryz.prog (w1.alloc (.cells #[.int .i64 x.c, .int .i64 x.r, .string x.s] 45)) = .ok v' w2) := hr
              have HW2 : Hid (WS w bf f v' (Y ++ [x]) w2) := hW2
              clear hr hW2 y0 y1 y2 y3 y4 y5 h0d hw1 hb1
              go_wp2_with (first | (at_builtin; refine fm.wpList_append_eq rfl _ _ 22 rfl _ _ _ _ rfl rfl HR.out ?_))
              have hk1 : zs[k]? = some x := by have := congrArg (fun l => l[0]?) HD.out; simpa using this
              have hl1 : zs.drop (k + 1) = l := by have := congrArg (List.drop 1) HD.out; simpa [List.drop_drop] using this
              have hll : l.length = M - (k + 1) := by rw [← hl1, List.length_drop, HK1.out.1]
              have hM := HM.out
              refine ⟨⟨k + 1, _, ck - 1, by omega, by rw [show M - (k + 1) = m - 1 by omega], by omega, ?_, ?_, ?_⟩, by simp; omega⟩
              · rw [hl1]
                by_cases h1 : ck = 1
                · exact .inl (List.length_eq_zero_iff.1 (by omega))
                · rw [if_neg h1]; exact HPK.out.drop
              · rw [List.take_add_one, hk1, ← List.append_assoc, HY.out.1]; exact HW2.out
              · intro i y hi hy
                by_cases e : i = k
                · subst e; rw [hk1] at hy; injection hy with hy; subst hy; exact HLL.out
                · exact HLT.out i y (by omega) hy
          | false =>
            have HLj : Hid (∀ wx, Calls Tryz.prog 46 #[C x.c x.r, C f.c f.r] wx fun e w' => e = .returned (.bool false) ∧ Below wx.heap.size wx w') := fun wx => by have := HL.out x.c x.r f.c f.r wx; rw [show decide (cmpC x.c x.r f.c f.r < 0) = false from hl] at this; exact this
            have HLL : Hid (lt x f.c f.r = false) := hl
            clear hl
            go_wp2_with fail
            go_cut [31] (fun s31 wx => s31 = .bool false ∧ WS w bf f u5 Y wx)
            case first =>
              go_region_held3 (fun wx => WO w bf f u5 Y gx ox x wx) (first | exact h0d | exact WS.opened ((wo_ws (by assumption)).next (by assumption)) HPK.out) (first | (go_at_call 46; refine (HLj.out _).mono ?_; rintro e w1 ⟨rfl, hb1⟩; have hw1 := (wo_ws (by assumption)).next hb1))
              all_goals
                go_wp2_with fail
                go_meet
                case rel => exact ⟨rfl, hw1⟩
            case rest =>
            obtain ⟨rfl, hw1⟩ := hcut
            have HW1' : Hid (WS w bf f u5 Y wc) := hw1
            clear hw1 y0 y1 y2 y3 y4 y5 h0d HWk HLj HL
            obtain ⟨y0, y1, y2, y3, y4, y5, -⟩ := HW1'.out.opened HPK.out
            have e30 := fun W => eql30 x.c x.r f.c f.r W
            go_wp2_with fail
            go_cut [51] (fun s51 wx => s51 = .bool (decide (x.c = f.c) && decide (x.r = f.r)) ∧ WS w bf f u5 Y wx)
            case first =>
              go_region
              all_goals
                go_wp2_with fail
                go_meet
                case rel => exact ⟨rfl, HW1'.out.next (Below.refl _ _).drew⟩
            case rest =>
            obtain ⟨rfl, hw1⟩ := hcut
            clear y0 y1 y2 y3 y4 y5 e30 HW1'
            have HW8 : Hid (WS w bf f u5 Y wc) := hw1
            clear hw1
            go_upto_if 51 with fail
            go_cut [0] (fun s0 wx => ∃ pr m' cr zs', s0 = .slice pr m' cr ∧ m' ≤ cr ∧ m' ≤ M ∧ Hid (zs'.length = m' ∧ FM w pr zs' ∧ Y ++ put f ++ wl (over.drop (q + 1)) zs' = wl over xs ∧ k + m' ≤ M) ∧ WS w bf f u5 Y wx)
            case first =>
              have HWH : Hid (Y ++ put f ++ wl (over.drop (q + 1)) (if at' x f.c f.r = true then l else x :: l) = wl over xs) := by
                have h1 := HK1.out.2.2.1
                rw [HFS.out, wl_head HLT.out HD.out HLL.out, ← List.append_assoc, ← List.append_assoc, HY.out.1] at h1
                exact h1
              have hll : l.length + 1 = m := by have := congrArg List.length HD.out; rw [List.length_drop, HK1.out.1, List.length_cons, HM.out] at this; exact this.symm
              cases hc : (decide (x.c = f.c) && decide (x.r = f.r)) with
              | true =>
                have HA : Hid (at' x f.c f.r = true) := by simp at hc; exact at_iff.2 hc
                clear hc
                by_cases h1 : ck = 1
                · go_wp2_with fail
                  go_meet
                  case rel => exact ⟨some ⟨gx, ox, none⟩, l.length, ck - 1, l, by rw [show l.length = m - 1 by omega]; simp [h1], by omega, by have := HM.out; omega, ⟨rfl, .inl (List.length_eq_zero_iff.1 (by omega)), by rw [← HWH.out, if_pos HA.out], by have := HM.out; omega⟩, HW8.out⟩
                · go_wp2_with fail
                  go_meet
                  case rel => exact ⟨_, l.length, ck - 1, l, by rw [show l.length = m - 1 by omega], by omega, by have := HM.out; omega, ⟨rfl, HPK.out.drop, by rw [← HWH.out, if_pos HA.out], by have := HM.out; omega⟩, HW8.out⟩
              | false =>
                have HA : Hid (at' x f.c f.r = false) := by unfold Hid; rw [at_no]; intro h; simp [h.1, h.2] at hc
                go_wp2_with fail
                go_meet
                case rel => exact ⟨_, m, ck, x :: l, rfl, by omega, by have := HM.out; omega, ⟨by simpa using hll, HPK.out, by rw [← HWH.out, if_neg (by simp [HA.out])], by have := HM.out; omega⟩, HW8.out⟩
            case rest =>
            obtain ⟨pr, m', cr, zs', rfl, hz1, hz2, HZ, hw1⟩ := hcut
            obtain ⟨b0, b1, b2⟩ := cells3 hw1.box
            have HYl : Hid (Y.length ≤ ys.length + k) := by unfold Hid; rw [← HY.out.1, List.length_append, List.length_take]; omega
            clear HW8
            cases hfs : f.s.toList.isEmpty with
            | true =>
              have HP : Hid (put f = []) := put_nul (emp_yes hfs)
              go_wp2_with fail
              refine ⟨⟨q + 1, pr, m', cr, Y, zs', rfl, by omega, rfl, hz1, by omega, HZ.out.1, HZ.out.2.1, hw1.lv, ?_, ?_⟩, by simp [intOf]; omega⟩
              · have := HZ.out.2.2.1; rwa [HP.out, List.append_nil] at this
              · have h1 := HYl.out; have h2 := HZ.out.2.2.2; have h3 := HK1.out.2.2.2; omega
            | false =>
              have HP : Hid (put f = [f]) := put_one (emp_no hfs)
              obtain ⟨v', w2, hr, hW2⟩ := (hw1.next ((Below.refl _ _).alloc (Nat.le_refl _) (.cells #[.int .i64 f.c, .int .i64 f.r, .string f.s] 45))).more (by have := HY.out.2; omega) (fm_new _ f) (by simp) 1
              have HR : Hid ((Builtin.append_ #[22, 22] 22 #[u5, .slice (some ⟨wc.heap.size, 0, none⟩) 1 1]).run Tryz.prog (wc.alloc (.cells #[.int .i64 f.c, .int .i64 f.r, .string f.s] 45)) = .ok v' w2) := hr
              have HW2 : Hid (WS w bf f v' (Y ++ [f]) w2) := hW2
              clear hr hW2
              go_wp2_with (first | (at_builtin; refine fm.wpList_append_eq rfl _ _ 22 rfl _ _ _ _ rfl rfl HR.out ?_))
              refine ⟨⟨q + 1, pr, m', cr, Y ++ [f], zs', rfl, by omega, rfl, hz1, by omega, HZ.out.1, HZ.out.2.1, HW2.out.lv, ?_, ?_⟩, by simp [intOf]; omega⟩
              · have := HZ.out.2.2.1; rwa [HP.out] at this
              · have h1 := HYl.out; have h2 := HZ.out.2.2.2; have h3 := HK1.out.2.2.2; rw [List.length_append, List.length_singleton]; omega
        · obtain rfl : k = M := by omega
          have hz : zs.take k = zs := by rw [← HK1.out.1]; exact List.take_length
          rw [hz] at hW
          obtain ⟨Y, hY⟩ : ∃ Y, ys ++ zs = Y := ⟨_, rfl⟩
          rw [hY] at hW
          have HWE : Hid (Y ++ put f ++ wl (over.drop (q + 1)) [] = wl over xs ∧ Y.length ≤ 90000 ∧ Y.length ≤ n + q) := by
            obtain ⟨a1, a2, a3, a4⟩ := HK1.out
            rw [HFS.out, wl_end (fun i y hi hy => hlt i y (by omega) hy), ← List.append_assoc, ← List.append_assoc, hY] at a3
            have hYl : Y.length = ys.length + k := by rw [← hY, List.length_append, a1]
            exact ⟨a3, by omega, by omega⟩
          have HW1' : Hid (WS w bf f u5 Y wr) := hW
          rw [Nat.sub_self]
          clear hW hlt hpk hz hY
          obtain ⟨b0, b1, b2⟩ := cells3 HW1'.out.box
          go_wp2_with fail
          go_cut [31] (fun s31 wx => s31 = .bool false ∧ WS w bf f u5 Y wx)
          case first =>
            go_quiet (fail)
            go_wp2_with fail
            go_meet
            case rel => exact ⟨rfl, HW1'.out.next (drewN_below _ _)⟩
          case rest =>
          obtain ⟨rfl, hw1⟩ := hcut
          have HW8 : Hid (WS w bf f u5 Y wc) := hw1
          clear hw1 b0 b1 b2 HW1'
          go_wp2_with fail
          go_cut [51] (fun s51 wx => s51 = .bool false ∧ WS w bf f u5 Y wx)
          case first =>
            go_quiet (fail)
            go_wp2_with fail
            go_meet
            case rel => exact ⟨rfl, HW8.out.next (drewN_below _ _)⟩
          case rest =>
          obtain ⟨rfl, hw1⟩ := hcut
          clear HW8
          obtain ⟨b0, b1, b2⟩ := cells3 hw1.box
          cases hfs : f.s.toList.isEmpty with
          | true =>
            have HP : Hid (put f = []) := put_nul (emp_yes hfs)
            go_wp2_with fail
            refine ⟨⟨q + 1, pk, 0, ck, Y, [], rfl, by omega, rfl, by omega, by omega, rfl, .inl rfl, hw1.lv, ?_, ?_⟩, by simp [intOf]; omega⟩
            · have := HWE.out.1; rwa [HP.out, List.append_nil] at this
            · have := HWE.out.2.2; omega
          | false =>
            have HP : Hid (put f = [f]) := put_one (emp_no hfs)
            obtain ⟨v', w2, hr, hW2⟩ := (hw1.next ((Below.refl _ _).alloc (Nat.le_refl _) (.cells #[.int .i64 f.c, .int .i64 f.r, .string f.s] 45))).more (by have := HWE.out.2.1; omega) (fm_new _ f) (by simp) 1
            have HR : Hid ((Builtin.append_ #[22, 22] 22 #[u5, .slice (some ⟨wc.heap.size, 0, none⟩) 1 1]).run Tryz.prog (wc.alloc (.cells #[.int .i64 f.c, .int .i64 f.r, .string f.s] 45)) = .ok v' w2) := hr
            have HW2 : Hid (WS w bf f v' (Y ++ [f]) w2) := hW2
            clear hr hW2
            go_wp2_with (first | (at_builtin; refine fm.wpList_append_eq rfl _ _ 22 rfl _ _ _ _ rfl rfl HR.out ?_))
            refine ⟨⟨q + 1, pk, 0, ck, Y ++ [f], [], rfl, by omega, rfl, by omega, by omega, rfl, .inl rfl, HW2.out.lv, ?_, ?_⟩, by simp [intOf]; omega⟩
            · have := HWE.out.1; rwa [HP.out] at this
            · have := HWE.out.2.2; rw [List.length_append, List.length_singleton]; omega
    · have e : q = N := by omega
      subst e
      have hq' : ¬ (q : Int) < (q : Int) := by omega
      obtain ⟨a1, a2, a3, a4, a5⟩ := HK.out
      obtain ⟨v', w2, hr, hW2⟩ := a3.more (by omega) (a2.below a3.below) (by omega) cr
      rw [a1] at hr
      have HR : Hid ((Builtin.append_ #[22, 22] 22 #[u5, .slice pr M cr]).run Tryz.prog wo = .ok v' w2) := hr
      have e : ys ++ zs = wl over xs := by rw [← a4, ← HV.out.2, List.drop_length]; rfl
      rw [e] at hW2
      have HW2 : Hid (LV w v' (wl over xs) w2) := hW2
      clear hr hW2 e a1 a2 a3 a4 a5 HK
      go_wp2_with (first | (at_builtin; refine fm.wpList_append_eq rfl _ _ 22 rfl _ _ _ _ rfl rfl HR.out ?_))
      go_ret
      exact ⟨⟨_, rfl, HW2.out.own⟩, HW2.out.below⟩
end Go.Proofs.YtomgjjngkffbbaaGreatDoor.ps

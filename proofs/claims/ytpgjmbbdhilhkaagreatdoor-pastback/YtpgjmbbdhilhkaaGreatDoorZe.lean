/- Package sheet: With, one text more. Conditions: as each theorem says. -/
import Derived.Test.YtpgjmbbdhilhkaaGreatDoorZd
import Derived.BigQuiet
namespace Go.Proofs.YtpgjmbbdhilhkaaGreatDoor.ps
open Go.RowKit
open adr (C)
def zr3 (n : Nat) : Array Value := madeCells #[.int .i64 0, .int .i64 0, .string nul] (n * 3)
theorem zr3_size (n : Nat) : (zr3 n).size = n * 3 := by
  unfold zr3
  simp [madeCells]
theorem make33 (n : Nat) (hn : n ≤ 100000) (w : World) : (Instr.makeSlice 22 (.int .i64 0) (.int .i64 (n : Int))).run Tryz.prog w = .ok (.slice (some ⟨w.heap.size, 0, none⟩) 0 n) (w.alloc (.cells (zr3 n) 33)) := by
  obtain ⟨i0, hi, hz0, hz1, hz2⟩ := info_parts info33
  have := run_make (P := Tryz.prog) w 22 33 i0 _ Tryz.underlying22 hi hz0 .i64 .i64 0 (n : Int) (by omega) (by omega) (by rw [hz2]; omega) (by omega)
  rw [this, hz1]
  simp [zr3, Value.cells]
theorem eqIn30 (a b c d : Int) (m : Nat) (W : World) : (Op.equalIn (m + 2) 30 (.agg #[.int .i64 a, .int .i64 b]) (.agg #[.int .i64 c, .int .i64 d])).run Tryz.prog W = .ok (decide (a = c) && decide (b = d)) W := by
  have hS : Tryz.prog.underlying 30 = some (.struct (Tryz.prog.fieldsOf 30)) := by kernel_rfl
  have hp : Tryz.prog.stoodInHeld 30 = false := by kernel_rfl
  rw [run_equalIn_struct W (m + 1) 30 _ _ hS hp]
  simp only [Program.fieldsOf, Tryz.underlying30]
  by_cases h1 : a = c
  · by_cases h2 : b = d
    · subst h1 h2; simp [Op.eqFields, go_sem]
    · subst h1; simp [Op.eqFields, go_sem, h2]
  · simp [Op.eqFields, go_sem, h1]
theorem eql30 (a b c d : Int) (W : World) : (binOp BinOp.eql 30 (.agg #[.int .i64 a, .int .i64 b]) (.agg #[.int .i64 c, .int .i64 d])).run Tryz.prog W = .ok (.bool (decide (a = c) && decide (b = d))) W := by
  rw [run_eql_struct, show (10000 : Nat) = 9998 + 2 from rfl, eqIn30]; rfl
/-- What is at hand in the loop: the new list, the box of the text. -/
structure WS (w : World) (bf : Nat) (f : Fl) (v : Value) (ys : List Fl) (wx : World) : Prop where
  own : wx.ownsRow w.heap.size 33 3 v ys.length (flF ys)
  ne : v.ownBlock ≠ some bf
  box : wx.heap[bf]? = some (.cells #[.int .i64 f.c, .int .i64 f.r, .string f.s] 33 (0, 0))
  le : w.heap.size ≤ bf
  below : Below w.heap.size w wx
theorem WS.next {w : World} {bf : Nat} {f : Fl} {v : Value} {ys : List Fl} {wx wy : World} (h : WS w bf f v ys wx) (hb : Below wx.heap.size wx wy) : WS w bf f v ys wy := by
  refine ⟨⟨h.own.1, ?_⟩, h.ne, (hb.block _ (fm.lt_blk h.box)).trans h.box, h.le, bnext h.below hb h.below.size⟩
  rcases h.own.2 with h0 | ⟨g, cap, cur, h1, h2, hg, h4⟩
  · exact .inl h0
  · exact .inr ⟨g, cap, cur, h1, h2, (hb.block g (fm.lt_blk hg)).trans hg, h4⟩
/-- Some more behind it. -/
theorem WS.more {w : World} {bf : Nat} {f : Fl} {v : Value} {ys : List Fl} {wx : World} (h : WS w bf f v ys wx) (hy : ys.length ≤ 1000) {p : Option Addr} {zs : List Fl} (hz : FM wx p zs) (hl : zs.length ≤ 1000) (c : Nat) :
    ∃ v' w', (Builtin.append_ #[22, 22] 22 #[v, .slice p zs.length c]).run Tryz.prog wx = .ok v' w' ∧ WS w bf f v' (ys ++ zs) w' := by
  obtain ⟨v', w', h1, h2, h3, h4, h5, h6⟩ := app_many wx w.heap.size h.below.size v ys.length (flF ys) h.own hy p zs c hz hl
  refine ⟨v', w', h1, ⟨by rw [flF_app, List.length_append]; exact h2, fun e => ?_, (h4 bf (fm.lt_blk h.box) h.ne).trans h.box, h.le, h.below.trans h3⟩⟩
  rcases h5 _ e with h' | h'
  · exact h.ne h'
  · have := fm.lt_blk h.box; omega
/-- The first of what is left, and the text's cell. -/
abbrev WO (w : World) (bf : Nat) (f : Fl) (v : Value) (ys : List Fl) (gx ox : Nat) (x : Fl) (wx : World) : Prop := wx.cell? ⟨gx, ox, none⟩ = some (.int .i64 x.c) ∧ wx.cell? ⟨gx, ox + 1, none⟩ = some (.int .i64 x.r) ∧ wx.cell? ⟨gx, ox + 2, none⟩ = some (.string x.s) ∧ wx.cell? ⟨bf, 0, none⟩ = some (.int .i64 f.c) ∧ wx.cell? ⟨bf, 1, none⟩ = some (.int .i64 f.r) ∧ wx.cell? ⟨bf, 2, none⟩ = some (.string f.s) ∧ WS w bf f v ys wx
theorem wo_ws {w : World} {bf : Nat} {f : Fl} {v : Value} {ys : List Fl} {gx ox : Nat} {x : Fl} {wx : World} (h : WO w bf f v ys gx ox x wx) : WS w bf f v ys wx := h.2.2.2.2.2.2
theorem WS.opened {w : World} {bf : Nat} {f : Fl} {v : Value} {ys : List Fl} {wx : World} (h : WS w bf f v ys wx) {gx ox : Nat} {x : Fl} {l : List Fl} (hx : FM w (some ⟨gx, ox, none⟩) (x :: l)) : WO w bf f v ys gx ox x wx := by
  obtain ⟨q0, q1, q2⟩ := FM.cells (hx.below h.below) (i := 0) rfl
  rw [Nat.zero_mul, Nat.add_zero] at q0 q1 q2
  obtain ⟨b0, b1, b2⟩ := cells3 h.box
  exact ⟨q0, q1, q2, b0, b1, b2, h⟩
theorem FM.some {w : World} {p : Option Addr} {x : Fl} {l : List Fl} (h : FM w p (x :: l)) : ∃ gx ox, p = .some ⟨gx, ox, none⟩ ∧ gx < w.heap.size := by
  rcases h with h | ⟨g, o, h1, h2, -⟩
  · cases h
  · exact ⟨g, o, h1, h2⟩
theorem fm_new (W : World) (x : Fl) : FM (W.alloc (.cells #[.int .i64 x.c, .int .i64 x.r, .string x.s] 33)) (.some ⟨W.heap.size, 0, none⟩) [x] := by
  have h := heap_alloc_new W (.cells #[.int .i64 x.c, .int .i64 x.r, .string x.s] 33)
  refine .inr ⟨W.heap.size, 0, rfl, fm.lt_blk h, fun t u hu => ?_⟩
  obtain ⟨b0, b1, b2⟩ := cells3 h
  have hu' : (fl3 x)[t]? = .some u := by simpa [flF] using hu
  match t, hu' with
  | 0, e => simp at e; subst e; exact b0
  | 1, e => simp at e; subst e; exact b1
  | 2, e => simp at e; subst e; exact b2
  | t + 3, e => simp at e
theorem wt_head {xs : List Fl} {f x : Fl} {k : Nat} {l : List Fl} (hk : k ≤ xs.length) (h : ∀ i y, i < k → xs[i]? = some y → lt y f.c f.r = true) (hd : xs.drop k = x :: l) (h1 : lt x f.c f.r = false) : wt xs f = xs.take k ++ put f ++ (if at' x f.c f.r = true then l else x :: l) := by
  rw [wt_at hk h, hd]
  show xs.take k ++ (if _ then _ else _) = _
  rw [if_neg (by simp [h1])]
  split <;> simp
theorem wt_end {xs : List Fl} {f : Fl} (h : ∀ i y, i < xs.length → xs[i]? = some y → lt y f.c f.r = true) : wt xs f = xs ++ put f := by
  rw [wt_at (Nat.le_refl _) h, List.drop_length, List.take_length]
  rfl
theorem emp_yes {s : ByteArray} (h : s.toList.isEmpty = true) : s.size = 0 := by
  rw [toList_nil h]; rfl
theorem emp_no {s : ByteArray} (h : s.toList.isEmpty = false) : s.size ≠ 0 := fun e => by
  rw [size_nul e] at h
  have : (nul.toList.isEmpty) = true := by decide +kernel
  rw [this] at h
  cases h
theorem drewN_below (W : World) (k : Nat) : Below W.heap.size W (W.drewN k) := ⟨rfl, rfl, rfl, Nat.le_refl _, fun _ _ => rfl⟩
set_option maxRecDepth 100000 in
set_option maxHeartbeats 8000000 in
theorem with1 (p : Option Addr) (c : Nat) (xs : List Fl) (f : Fl) (g o cf : Nat) (w : World) (hx : FM w p xs) (hl : xs.length ≤ 300) (hf : FM w (some ⟨g, o, none⟩) [f]) (hcap : xs.length ≤ c) :
    Calls Tryz.prog 16 #[.slice p xs.length c, .slice (some ⟨g, o, none⟩) 1 cf] w fun e w' => (∃ v, e = .returned v ∧ w'.ownsRow w.heap.size 33 3 v (wt xs f).length (flF (wt xs f))) ∧ Below w.heap.size w w' := by
  obtain ⟨n, hn⟩ : ∃ n, xs.length = n := ⟨_, rfl⟩
  have hmk : ∀ W : World, (Instr.makeSlice 22 (.int .i64 0) (.int .i64 ((n : Int) + 1))).run Tryz.prog W = .ok (.slice (some ⟨W.heap.size, 0, none⟩) 0 (n + 1)) (W.alloc (.cells (zr3 (n + 1)) 33)) := fun W => make33 (n + 1) (by omega) W
  have HL : Hid (∀ a b c d wx, Calls Tryz.prog 22 #[C a b, C c d] wx fun e w' => e = .returned (.bool (decide (cmpC a b c d < 0))) ∧ Below wx.heap.size wx w') := less_any
  have hn3 : (n : Int) ≤ 300 := by omega
  rw [hn]
  obtain ⟨q0, q1, q2⟩ := FM.cells hf (i := 0) rfl
  rw [Nat.zero_mul, Nat.add_zero] at q0 q1 q2
  have hg : g < w.heap.size := by
    rcases hf with h | ⟨g', o', e, h, -⟩
    · cases h
    · injection e with e; injection e with e1; rw [e1]; exact h
  have HX : Hid (FM w p xs) := hx
  go_enter Tryz.func16, Tryz.ntmps16
  have hb0 : Below w.heap.size w (w.alloc (.cells (zr3 (n + 1)) 33)) := (Below.refl _ _).alloc (Nat.le_refl _) _
  have ho0 : (w.alloc (.cells (zr3 (n + 1)) 33)).ownsRow w.heap.size 33 3 (.slice (some ⟨w.heap.size, 0, none⟩) 0 (n + 1)) 0 [] := World.ownsRow_made (base := w.heap.size) (e := 33) (size := 3) w (zr3 (n + 1)) (n + 1) (Nat.le_refl _) (by unfold maxLen; omega) (zr3_size _)
  go_wp2_with fail
  have hs0 : (w.alloc (.cells (zr3 (n + 1)) 33)).heap.size = w.heap.size + 1 := by simp
  generalize w.alloc (.cells (zr3 (n + 1)) 33) = W0 at *
  have HB0 : Hid (Below w.heap.size w W0) := hb0
  have HO0 : Hid (W0.ownsRow w.heap.size 33 3 (.slice (some ⟨w.heap.size, 0, none⟩) 0 (n + 1)) 0 []) := ho0
  have HF : Hid (FM w (some ⟨g, o, none⟩) [f]) := hf
  have HN : Hid (xs.length = n) := hn
  clear hb0 ho0 hmk hx hf q0 q1 q2 hn
  go_loopw [0, 5, 16] (fun s0 s5 s16 wr => (s16 = .int .i64 0 ∧ s0 = .slice p n c ∧ s5 = .slice (some ⟨w.heap.size, 0, none⟩) 0 (n + 1) ∧ wr = W0) ∨ (s16 = .int .i64 1 ∧ ∃ pr m cr ys zs bf, s0 = .slice pr m cr ∧ zs.length = m ∧ WS w bf f s5 ys wr ∧ FM w pr zs ∧ ys ++ zs = wt xs f ∧ ys.length ≤ 1000 ∧ m ≤ 1000)) (fun _ _ i _ => 1 - (intOf i).toNat)
  case atStart => exact .inl ⟨rfl, rfl, rfl, rfl⟩
  case round =>
    rcases hrel with ⟨rfl, rfl, rfl, rfl⟩ | ⟨rfl, pr, m, cr, ys, zs, bf, rfl, hm, hW, hZ, he, h1, h2⟩
    · obtain ⟨q0, q1, q2⟩ := FM.cells (HF.out.below HB0.out) (i := 0) rfl
      rw [Nat.zero_mul, Nat.add_zero] at q0 q1 q2
      go_wp2_with fail
      have hW1 : WS w (w.heap.size + 1) f (.slice (some ⟨w.heap.size, 0, none⟩) 0 (n + 1)) [] (wr.alloc (.cells #[.int .i64 f.c, .int .i64 f.r, .string f.s] 33)) := ⟨HO0.out.alloc _, by simp [Value.ownBlock], by rw [← hs0]; exact heap_alloc_new _ _, by omega, HB0.out.alloc HB0.out.size _⟩
      generalize wr.alloc (.cells #[.int .i64 f.c, .int .i64 f.r, .string f.s] 33) = W1 at *
      obtain ⟨bf, hbf⟩ : ∃ bf, w.heap.size + 1 = bf := ⟨_, rfl⟩
      rw [hbf] at hW1 ⊢
      have HW1 : Hid (WS w bf f (.slice (some ⟨w.heap.size, 0, none⟩) 0 (n + 1)) [] W1) := hW1
      clear hW1 hbf hs0 q0 q1 q2
      go_loopw [0, 5] (fun s0 s5 wx => ∃ k pk ck, k ≤ n ∧ s0 = .slice pk (n - k) ck ∧ n - k ≤ ck ∧ FM w pk (xs.drop k) ∧ WS w bf f s5 (xs.take k) wx ∧ ∀ i x, i < k → xs[i]? = some x → lt x f.c f.r = true) (fun s0 _ _ => match s0 with | .slice _ m _ => m | _ => 0)
      case atStart => exact ⟨0, p, c, Nat.zero_le _, rfl, by have h := HN.out; omega, HX.out, HW1.out, fun i x hi => absurd hi (Nat.not_lt_zero _)⟩
      case round =>
        obtain ⟨k, pk, ck, hk, rfl, hck, hpk, hW, hlt⟩ := hrel
        by_cases hkn : k < n
        · obtain ⟨x, l, hd⟩ : ∃ x l, xs.drop k = x :: l := by
            cases hxd : xs.drop k with
            | nil => have := congrArg List.length hxd; rw [List.length_drop, HN.out] at this; simp at this; omega
            | cons x l => exact ⟨x, l, rfl⟩
          rw [hd] at hpk
          obtain ⟨gx, ox, rfl, hgx⟩ := hpk.some
          have h0d := (hW.next (Below.refl _ _).drew).opened hpk
          have HPK : Hid (FM w (some ⟨gx, ox, none⟩) (x :: l)) := hpk
          obtain ⟨m, hm⟩ : ∃ m, n - k = m := ⟨_, rfl⟩
          have hm0 : (0 : Int) < (m : Int) := by omega
          have hmc : (m : Int) ≤ (ck : Int) := by omega
          have hmN : 0 < m := by omega
          have HM : Hid (n - k = m) := hm
          rw [hm]
          obtain ⟨y0, y1, y2, y3, y4, y5, -⟩ := hW.opened hpk
          have HWk : Hid (WS w bf f u5 (xs.take k) wr) := hW
          have HLT : Hid (∀ i x, i < k → xs[i]? = some x → lt x f.c f.r = true) := hlt
          have HD : Hid (xs.drop k = x :: l) := hd
          clear hW hlt hpk hd hm
          cases hl : lt x f.c f.r with
          | true =>
            have HLj : Hid (∀ wx, Calls Tryz.prog 22 #[C x.c x.r, C f.c f.r] wx fun e w' => e = .returned (.bool true) ∧ Below wx.heap.size wx w') := fun wx => by have := HL.out x.c x.r f.c f.r wx; rw [show decide (cmpC x.c x.r f.c f.r < 0) = true from hl] at this; exact this
            have HLL : Hid (lt x f.c f.r = true) := hl
            clear hl
            go_wp2_with fail
            go_region_held3 (fun wx => WO w bf f u5 (xs.take k) gx ox x wx) (first | exact h0d | exact WS.opened ((wo_ws (by assumption)).next (by assumption)) HPK.out) (first | (go_at_call 22; refine (HLj.out _).mono ?_; rintro e w1 ⟨rfl, hb1⟩; have hw1 := (wo_ws (by assumption)).next hb1))
            all_goals
              obtain ⟨z0, z1, z2, -⟩ := hw1.opened HPK.out
              obtain ⟨v', w2, hr, hW2⟩ := (hw1.next ((Below.refl _ _).alloc (Nat.le_refl _) (.cells #[.int .i64 x.c, .int .i64 x.r, .string x.s] 33))).more (by rw [List.length_take]; omega) (fm_new w1 x) (by simp) 1
              have HR : Hid ((Builtin.append_ #[22, 22] 22 #[u5, .slice (some ⟨w1.heap.size, 0, none⟩) 1 1]).run Tryz.prog (w1.alloc (.cells #[.int .i64 x.c, .int .i64 x.r, .string x.s] 33)) = .ok v' w2) := hr
              have HW2 : Hid (WS w bf f v' (xs.take k ++ [x]) w2) := hW2
              clear hr hW2 y0 y1 y2 y3 y4 y5 h0d hw1 hb1
              go_wp2_with (first | (at_builtin; refine fm.wpList_append_eq rfl _ _ 22 rfl _ _ _ _ rfl rfl HR.out ?_))
              have hk1 : xs[k]? = some x := by have := congrArg (fun l => l[0]?) HD.out; simpa using this
              have hl1 : xs.drop (k + 1) = l := by have := congrArg (List.drop 1) HD.out; simpa [List.drop_drop] using this
              have hll : l.length = n - (k + 1) := by rw [← hl1, List.length_drop, HN.out]
              have hM := HM.out
              refine ⟨⟨k + 1, _, ck - 1, by omega, by rw [show n - (k + 1) = m - 1 by omega], by omega, ?_, ?_, ?_⟩, by simp; omega⟩
              · rw [hl1]
                by_cases h1 : ck = 1
                · exact .inl (List.length_eq_zero_iff.1 (by omega))
                · rw [if_neg h1]; exact HPK.out.drop
              · rw [List.take_add_one, hk1]; exact HW2.out
              · intro i y hi hy
                by_cases e : i = k
                · subst e; rw [hk1] at hy; injection hy with hy; subst hy; exact HLL.out
                · exact HLT.out i y (by omega) hy
          | false =>
            have HLj : Hid (∀ wx, Calls Tryz.prog 22 #[C x.c x.r, C f.c f.r] wx fun e w' => e = .returned (.bool false) ∧ Below wx.heap.size wx w') := fun wx => by have := HL.out x.c x.r f.c f.r wx; rw [show decide (cmpC x.c x.r f.c f.r < 0) = false from hl] at this; exact this
            have HLL : Hid (lt x f.c f.r = false) := hl
            clear hl
            go_wp2_with fail
            go_cut [31] (fun s31 wx => s31 = .bool false ∧ WS w bf f u5 (xs.take k) wx)
            case first =>
              go_region_held3 (fun wx => WO w bf f u5 (xs.take k) gx ox x wx) (first | exact h0d | exact WS.opened ((wo_ws (by assumption)).next (by assumption)) HPK.out) (first | (go_at_call 22; refine (HLj.out _).mono ?_; rintro e w1 ⟨rfl, hb1⟩; have hw1 := (wo_ws (by assumption)).next hb1))
              all_goals
                go_wp2_with fail
                go_meet
                case rel => exact ⟨rfl, hw1⟩
            case rest =>
            obtain ⟨rfl, hw1⟩ := hcut
            have HW1' : Hid (WS w bf f u5 (xs.take k) wc) := hw1
            clear hw1 y0 y1 y2 y3 y4 y5 h0d HWk HLj HL
            obtain ⟨y0, y1, y2, y3, y4, y5, -⟩ := HW1'.out.opened HPK.out
            have e30 := fun W => eql30 x.c x.r f.c f.r W
            go_wp2_with fail
            go_cut [51] (fun s51 wx => s51 = .bool (decide (x.c = f.c) && decide (x.r = f.r)) ∧ WS w bf f u5 (xs.take k) wx)
            case first =>
              go_region
              all_goals
                go_wp2_with fail
                go_meet
                case rel => exact ⟨rfl, HW1'.out.next (Below.refl _ _).drew⟩
            case rest =>
            obtain ⟨rfl, hw1⟩ := hcut
            clear y0 y1 y2 y3 y4 y5 e30 HW1'
            have HW8 : Hid (WS w bf f u5 (xs.take k) wc) := hw1
            clear hw1
            go_upto_if 51 with fail
            go_cut [0] (fun s0 wx => ∃ pr m' cr zs, s0 = .slice pr m' cr ∧ zs.length = m' ∧ FM w pr zs ∧ xs.take k ++ put f ++ zs = wt xs f ∧ m' ≤ 1000 ∧ WS w bf f u5 (xs.take k) wx)
            case first =>
              have hwh := wt_head (by rw [HN.out]; exact hk) HLT.out HD.out HLL.out
              have HWH : Hid (wt xs f = xs.take k ++ put f ++ (if at' x f.c f.r = true then l else x :: l)) := hwh
              clear hwh
              have hll : l.length + 1 = m := by have := congrArg List.length HD.out; rw [List.length_drop, HN.out, List.length_cons, HM.out] at this; exact this.symm
              cases hc : (decide (x.c = f.c) && decide (x.r = f.r)) with
              | true =>
                have HA : Hid (at' x f.c f.r = true) := by simp at hc; exact at_iff.2 hc
                clear hc
                by_cases h1 : ck = 1
                · go_wp2_with fail
                  go_meet
                  case rel => exact ⟨some ⟨gx, ox, none⟩, l.length, ck - 1, l, by rw [show l.length = m - 1 by omega]; simp [h1], rfl, .inl (List.length_eq_zero_iff.1 (by omega)), by rw [HWH.out, if_pos HA.out], by have := HM.out; omega, HW8.out⟩
                · go_wp2_with fail
                  go_meet
                  case rel => exact ⟨_, l.length, ck - 1, l, by rw [show l.length = m - 1 by omega], rfl, HPK.out.drop, by rw [HWH.out, if_pos HA.out], by have := HM.out; omega, HW8.out⟩
              | false =>
                have HA : Hid (at' x f.c f.r = false) := by unfold Hid; rw [at_no]; intro h; simp [h.1, h.2] at hc
                go_wp2_with fail
                go_meet
                case rel => exact ⟨_, m, ck, x :: l, rfl, by simpa using hll, HPK.out, by rw [HWH.out, if_neg (by simp [HA.out])], by have := HM.out; omega, HW8.out⟩
            case rest =>
            obtain ⟨pr, m', cr, zs, rfl, hz1, hz2, hz3, hz4, hw1⟩ := hcut
            have HZ : Hid (zs.length = m' ∧ FM w pr zs ∧ xs.take k ++ put f ++ zs = wt xs f ∧ m' ≤ 1000) := ⟨hz1, hz2, hz3, hz4⟩
            have htk : (xs.take k).length ≤ 900 := by rw [List.length_take]; omega
            obtain ⟨b0, b1, b2⟩ := cells3 hw1.box
            clear hz1 hz2 hz3 hz4 HW8
            cases hfs : f.s.toList.isEmpty with
            | true =>
              have HP : Hid (put f = []) := put_nul (emp_yes hfs)
              go_wp2_with fail
              exact ⟨.inr ⟨by simp, pr, m', cr, xs.take k, zs, bf, rfl, HZ.out.1, hw1, HZ.out.2.1, by rw [← HZ.out.2.2.1, HP.out]; simp, by omega, HZ.out.2.2.2⟩, by simp [intOf]⟩
            | false =>
              have HP : Hid (put f = [f]) := put_one (emp_no hfs)
              obtain ⟨v', w2, hr, hW2⟩ := (hw1.next ((Below.refl _ _).alloc (Nat.le_refl _) (.cells #[.int .i64 f.c, .int .i64 f.r, .string f.s] 33))).more (by omega) (fm_new _ f) (by simp) 1
              have HR : Hid ((Builtin.append_ #[22, 22] 22 #[u5, .slice (some ⟨wc.heap.size, 0, none⟩) 1 1]).run Tryz.prog (wc.alloc (.cells #[.int .i64 f.c, .int .i64 f.r, .string f.s] 33)) = .ok v' w2) := hr
              have HW2 : Hid (WS w bf f v' (xs.take k ++ [f]) w2) := hW2
              clear hr hW2
              go_wp2_with (first | (at_builtin; refine fm.wpList_append_eq rfl _ _ 22 rfl _ _ _ _ rfl rfl HR.out ?_))
              exact ⟨.inr ⟨by simp, pr, m', cr, xs.take k ++ [f], zs, bf, rfl, HZ.out.1, HW2.out, HZ.out.2.1, by rw [← HZ.out.2.2.1, HP.out], by simp; omega, HZ.out.2.2.2⟩, by simp [intOf]⟩
        · obtain rfl : k = n := by omega
          have hz : xs.take k = xs := by rw [← HN.out]; exact List.take_length
          have hwe : wt xs f = xs ++ put f := wt_end (fun i y hi hy => hlt i y (by have := HN.out; omega) hy)
          have HWE : Hid (wt xs f = xs ++ put f) := hwe
          rw [hz] at hW
          have HW1' : Hid (WS w bf f u5 xs wr) := hW
          have htk : xs.length ≤ 900 := by omega
          rw [Nat.sub_self]
          clear hW hlt hpk hwe hz
          obtain ⟨b0, b1, b2⟩ := cells3 HW1'.out.box
          go_wp2_with fail
          go_cut [31] (fun s31 wx => s31 = .bool false ∧ WS w bf f u5 xs wx)
          case first =>
            go_quiet (fail)
            go_wp2_with fail
            go_meet
            case rel => exact ⟨rfl, HW1'.out.next (drewN_below _ _)⟩
          case rest =>
          obtain ⟨rfl, hw1⟩ := hcut
          have HW8 : Hid (WS w bf f u5 xs wc) := hw1
          clear hw1 b0 b1 b2 HW1' HW1
          go_wp2_with fail
          go_cut [51] (fun s51 wx => s51 = .bool false ∧ WS w bf f u5 xs wx)
          case first =>
            go_quiet (fail)
            go_wp2_with fail
            go_meet
            case rel => exact ⟨rfl, HW8.out.next (drewN_below _ _)⟩
          case rest =>
          obtain ⟨rfl, hw1⟩ := hcut
          clear HW8
          obtain ⟨b0, b1, b2⟩ := cells3 hw1.box
          cases hfs : f.s.toList.isEmpty with
          | true =>
            have HP : Hid (put f = []) := put_nul (emp_yes hfs)
            go_wp2_with fail
            exact ⟨.inr ⟨by simp, pk, 0, ck, xs, [], bf, rfl, rfl, hw1, .inl rfl, by rw [HWE.out, HP.out], by omega, by omega⟩, by simp [intOf]⟩
          | false =>
            have HP : Hid (put f = [f]) := put_one (emp_no hfs)
            obtain ⟨v', w2, hr, hW2⟩ := (hw1.next ((Below.refl _ _).alloc (Nat.le_refl _) (.cells #[.int .i64 f.c, .int .i64 f.r, .string f.s] 33))).more (by omega) (fm_new _ f) (by simp) 1
            have HR : Hid ((Builtin.append_ #[22, 22] 22 #[u5, .slice (some ⟨wc.heap.size, 0, none⟩) 1 1]).run Tryz.prog (wc.alloc (.cells #[.int .i64 f.c, .int .i64 f.r, .string f.s] 33)) = .ok v' w2) := hr
            have HW2 : Hid (WS w bf f v' (xs ++ [f]) w2) := hW2
            clear hr hW2
            go_wp2_with (first | (at_builtin; refine fm.wpList_append_eq rfl _ _ 22 rfl _ _ _ _ rfl rfl HR.out ?_))
            exact ⟨.inr ⟨by simp, pk, 0, ck, xs ++ [f], [], bf, rfl, rfl, HW2.out, .inl rfl, by rw [HWE.out, HP.out]; simp, by simp; omega, by omega⟩, by simp [intOf]⟩
    · obtain ⟨v', w2, hr, hW2⟩ := hW.more h1 (hZ.below hW.below) (by omega) cr
      rw [hm] at hr
      have HR : Hid ((Builtin.append_ #[22, 22] 22 #[u5, .slice pr m cr]).run Tryz.prog wr = .ok v' w2) := hr
      rw [he] at hW2
      have HW2 : Hid (WS w bf f v' (wt xs f) w2) := hW2
      clear hr hW2 hW hZ he hm
      go_wp2_with (first | (at_builtin; refine fm.wpList_append_eq rfl _ _ 22 rfl _ _ _ _ rfl rfl HR.out ?_))
      go_ret
      exact ⟨⟨_, rfl, HW2.out.own⟩, HW2.out.below⟩
end Go.Proofs.YtpgjmbbdhilhkaaGreatDoor.ps

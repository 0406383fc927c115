
/- csv.Rows: a sheet as rows, walked. Conditions: as each theorem says. -/
import Derived.Test.YtdinmgepdeigjaaGreatDoorCkb
namespace Go.Proofs.YtdinmgepdeigjaaGreatDoor.fw
open Go.RowKit Go.Sort
/-- A place of two numbers in a block of its own. -/
def P2 (w : World) (b : Nat) (x y : Int) : Prop := w.heap[b]? = some (.cells #[.int .i64 x, .int .i64 y] 36 (0, 0))
theorem P2.lt {w : World} {b : Nat} {x y : Int} (h : P2 w b x y) : b < w.heap.size := (Array.getElem?_eq_some_iff.1 h).1
theorem P2.at {w : World} {b : Nat} {x y : Int} (h : P2 w b x y) : w.cell? ⟨b, 0, none⟩ = some (.int .i64 x) ∧ w.cell? ⟨b, 1, none⟩ = some (.int .i64 y) ∧ w.frozen? ⟨b, 0, none⟩ = false ∧ w.frozen? ⟨b, 1, none⟩ = false := by
  have h' : w.heap[b]? = some (.cells #[.int .i64 x, .int .i64 y] 36 (0, 0)) := h
  refine ⟨?_, ?_, ?_, ?_⟩
  · simp only [World.cell?, h']; rfl
  · simp only [World.cell?, h']; rfl
  · simp [World.frozen?, h']
  · simp [World.frozen?, h']
theorem P2.next {w w' : World} {b : Nat} {x y : Int} (h : P2 w b x y) (hb : Bw w w') : P2 w' b x y := by
  show _ = _
  rw [hb.block b h.lt]
  exact h
theorem P2.set0 {w : World} {b : Nat} {x y : Int} (h : P2 w b x y) (z : Int) : P2 (w.setCell ⟨b, 0, none⟩ (.int .i64 z)) b z y := by
  show _ = _
  rw [heap_setCell_same w b 0 _ _ _ h]
  rfl
theorem P2.set1 {w : World} {b : Nat} {x y : Int} (h : P2 w b x y) (z : Int) : P2 (w.setCell ⟨b, 1, none⟩ (.int .i64 z)) b x z := by
  show _ = _
  rw [heap_setCell_same w b 1 _ _ _ h]
  rfl
/-- The cells of a row of texts. -/
def gcs (W : Nat) (f : Nat → ByteArray) : Array Value := ((List.range W).map fun j => Value.string (f j)).toArray
theorem gcs_size (W : Nat) (f : Nat → ByteArray) : (gcs W f).size = W := by simp [gcs]
theorem gcs_at {W : Nat} {f : Nat → ByteArray} {j : Nat} (hj : j < W) : (gcs W f)[j]? = some (.string (f j)) := by
  unfold gcs
  simp [hj]
theorem gcs_nul (W : Nat) : gcs W (fun _ => nul) = Array.replicate W (.string nul) := by
  apply Array.ext_getElem?
  intro i
  by_cases h : i < W
  · rw [gcs_at h]; simp [h]
  · rw [Array.getElem?_eq_none (by rw [gcs_size]; omega)]; simp [h]
theorem gcs_set (W : Nat) (f : Nat → ByteArray) (k : Nat) (s : ByteArray) : (gcs W f).setIfInBounds k (.string s) = gcs W (fun j => if j = k then s else f j) := by
  apply Array.ext_getElem?
  intro i
  rw [Array.getElem?_setIfInBounds, gcs_size]
  by_cases h : i < W
  · rw [gcs_at h, gcs_at h]
    by_cases e : k = i
    · subst e; simp [h]
    · have e' : ¬ i = k := fun x => e x.symm
      simp [e, e']
  · rw [Array.getElem?_eq_none (by rw [gcs_size]; omega), Array.getElem?_eq_none (by rw [gcs_size]; omega)]
    by_cases e : k = i
    · subst e; simp [h]
    · simp [e]
theorem made_gcs (n : Nat) : madeCells #[.string nul] n = gcs n (fun _ => nul) := by
  apply Array.ext_getElem?
  intro i
  have e : ∀ x : Nat, ([Value.string nul] : List Value)[x % 1]?.getD default = Value.string nul := fun x => by rw [Nat.mod_one]; rfl
  by_cases h : i < n
  · rw [gcs_at h]
    simp [madeCells, h, e]
  · have h1 : (gcs n (fun _ => nul))[i]? = none := Array.getElem?_eq_none (by rw [gcs_size]; omega)
    rw [h1]
    simp [madeCells, h]
theorem make_texts (n : Nat) (hn : n ≤ 100000) (w : World) : (Instr.makeSlice 29 (.int .i64 (n : Int)) (.int .i64 (n : Int))).run Tryz.prog w = .ok (.slice (some ⟨w.heap.size, 0, none⟩) n n) (w.alloc (.cells (gcs n fun _ => nul) 9)) := by
  obtain ⟨i0, hi, hz0, hz1, hz2⟩ := info_parts infoS
  have := run_make (P := Tryz.prog) w 29 9 i0 _ Tryz.underlying29 hi hz0 .i64 .i64 (n : Int) (n : Int) (by omega) (by omega) (by rw [hz2]; omega) (by omega)
  rw [this, hz1, ← made_gcs]
  simp [Value.cells]
def rws (W H : Nat) (B : Nat → Nat) : List Value := (List.range H).map fun i => .slice (some ⟨B i, 0, none⟩) W W
/-- A grid of texts that is made: each row in a block of its own. -/
structure GR (wB : World) (v : Value) (W H : Nat) (B : Nat → Nat) (G : Nat → Nat → ByteArray) (wx : World) : Prop where
  below : Bw wB wx
  own : wx.ownsRow wB.heap.size 29 1 v H (rws W H B)
  row : ∀ i, i < H → wx.heap[B i]? = some (.cells (gcs W (G i)) 9 (0, 0))
  lo : ∀ i, i < H → wB.heap.size ≤ B i
  inj : ∀ i j, i < H → j < H → B i = B j → i = j
theorem GR.nil (w : World) (W : Nat) (G : Nat → Nat → ByteArray) : GR w nls W 0 (fun _ => 0) G w := ⟨Below.refl _ _, ⟨rfl, .inl ⟨rfl, rfl⟩⟩, fun _ h => absurd h (Nat.not_lt_zero _), fun _ h => absurd h (Nat.not_lt_zero _), fun _ _ h => absurd h (Nat.not_lt_zero _)⟩
theorem GR.push {wB : World} {v : Value} {W H : Nat} {B : Nat → Nat} {wx : World} (h : GR wB v W H B (fun _ _ => nul) wx) (hH : H < 1000) :
    ∃ g c w', (Builtin.append_ #[23, 23] 23 #[v, .slice (some ⟨(wx.alloc (.cells (gcs W fun _ => nul) 9)).heap.size, 0, none⟩) 1 1]).run Tryz.prog ((wx.alloc (.cells (gcs W fun _ => nul) 9)).alloc (.cells #[.slice (some ⟨wx.heap.size, 0, none⟩) W W] 29)) = .ok (.slice (some ⟨g, 0, none⟩) (H + 1) c) w' ∧ GR wB (.slice (some ⟨g, 0, none⟩) (H + 1) c) W (H + 1) (fun i => if i = H then wx.heap.size else B i) (fun _ _ => nul) w' := by
  have hb1 : Bw wx (wx.alloc (.cells (gcs W fun _ => nul) 9)) := Bw.al _ _
  have ho1 := own_next h.own hb1
  have hs1 : wx.heap.size < (wx.alloc (.cells (gcs W fun _ => nul) 9)).heap.size := by simp
  obtain ⟨g, c, w', r1, r2, r3, r4, -⟩ := own_app (S := 23) Tryz.underlying23 infoR rfl ho1 (Nat.le_trans h.below.size hb1.size) (by omega) (by omega) (.slice (some ⟨wx.heap.size, 0, none⟩) W W) rfl
  have keep : ∀ (b : Nat) (cs : Array Value), b < wx.heap.size + 1 → (wx.alloc (.cells (gcs W fun _ => nul) 9)).heap[b]? = some (Obj.cells cs 9 (0, 0)) → w'.heap[b]? = some (Obj.cells cs 9 (0, 0)) := fun b cs hb h2 => by
    rw [r3 b (by simp; omega) (fun e => by obtain ⟨c', g'⟩ := own_blk ho1 e; exact ty9o (blk_types h2 g'))]
    exact h2
  refine ⟨g, c, w', r1, (h.below.tr hb1).trans r4, ?_, fun i hi => ?_, fun i hi => ?_, fun i j hi hj he => ?_⟩
  · have e : rws W (H + 1) (fun i => if i = H then wx.heap.size else B i) = rws W H B ++ [.slice (some ⟨wx.heap.size, 0, none⟩) W W] := by
      unfold rws
      rw [List.range_succ, List.map_append, List.map_singleton]
      dsimp only
      rw [if_pos rfl]
      refine congrArg (· ++ [Value.slice (some ⟨wx.heap.size, 0, none⟩) W W]) (List.map_congr_left fun i hi => ?_)
      have := List.mem_range.1 hi
      rw [if_neg (by omega)]
    rw [e]
    exact r2
  · by_cases hc : i = H
    · subst hc
      rw [if_pos rfl]
      exact keep _ _ (by omega) (heap_alloc_new wx _)
    · rw [if_neg hc]
      have h1 := h.row i (by omega)
      have h2 := (Array.getElem?_eq_some_iff.1 h1).1
      exact keep _ _ (by omega) (by rw [hb1.block _ h2]; exact h1)
  · by_cases hc : i = H
    · rw [if_pos hc]; exact h.below.size
    · rw [if_neg hc]; exact h.lo i (by omega)
  · have hlt : ∀ i, i < H → B i < wx.heap.size := fun i hi => (Array.getElem?_eq_some_iff.1 (h.row i hi)).1
    by_cases hc : i = H
    · by_cases hd : j = H
      · omega
      · rw [if_pos hc, if_neg hd] at he
        have := hlt j (by omega)
        omega
    · by_cases hd : j = H
      · rw [if_neg hc, if_pos hd] at he
        have := hlt i (by omega)
        omega
      · rw [if_neg hc, if_neg hd] at he
        exact h.inj i j (by omega) (by omega) he
theorem GR.next {wB : World} {v : Value} {W H : Nat} {B : Nat → Nat} {G : Nat → Nat → ByteArray} {wx wy : World} (h : GR wB v W H B G wx) (hb : Bw wx wy) : GR wB v W H B G wy :=
  ⟨h.below.tr hb, own_next h.own hb, fun i hi => by rw [hb.block _ (Array.getElem?_eq_some_iff.1 (h.row i hi)).1]; exact h.row i hi, h.lo, h.inj⟩
theorem GR.set {wB : World} {v : Value} {W H : Nat} {B : Nat → Nat} {G : Nat → Nat → ByteArray} {wx : World} (h : GR wB v W H B G wx) {i : Nat} (hi : i < H) (j : Nat) (s : ByteArray) : GR wB v W H B (fun a b => if a = i ∧ b = j then s else G a b) (wx.setCell ⟨B i, j, none⟩ (.string s)) := by
  have hne : ∀ b, v.ownBlock = some b → b ≠ B i := fun b hb e => by
    obtain ⟨c', g'⟩ := own_blk h.own hb
    rw [e] at g'
    exact ty9o (blk_types (h.row i hi) g')
  refine ⟨h.below.setCell (h.lo i hi) _, own_kept h.own fun b hb => heap_setCell_other _ _ _ _ (hne b hb), fun a ha => ?_, h.lo, h.inj⟩
  by_cases e : a = i
  · subst e
    rw [heap_setCell_same _ _ _ _ _ _ (h.row a ha), gcs_set]
    congr 2
    congr 1
    funext b
    simp
  · rw [heap_setCell_other _ _ _ _ (fun x => e (h.inj a i ha hi x)), h.row a ha]
    congr 2
    congr 1
    funext b
    simp [e]
theorem GR.at {wB : World} {v : Value} {W H : Nat} {B : Nat → Nat} {G : Nat → Nat → ByteArray} {wx : World} (h : GR wB v W H B G wx) {i : Nat} (hi : i < H) : ∃ g c, v = .slice (some ⟨g, 0, none⟩) H c ∧ wx.cell? ⟨g, i, none⟩ = some (.slice (some ⟨B i, 0, none⟩) W W) ∧ g < wx.heap.size := by
  rcases h.own.2 with ⟨rfl, h0⟩ | ⟨g, cap, cur, e, -, h3, -, -, -, ht⟩
  · omega
  · refine ⟨g, cap, e, ?_, (Array.getElem?_eq_some_iff.1 h3).1⟩
    have e4 : (cur.toList.take (H * 1))[i]? = (rws W H B)[i]? := by rw [ht]
    rw [List.getElem?_take, if_pos (by omega), Array.getElem?_toList] at e4
    simp only [World.cell?, h3]
    rw [e4]
    unfold rws
    rw [List.getElem?_map, List.getElem?_range hi]
    rfl
theorem GR.froz {wB : World} {v : Value} {W H : Nat} {B : Nat → Nat} {G : Nat → Nat → ByteArray} {wx : World} (h : GR wB v W H B G wx) {i : Nat} (hi : i < H) (j : Nat) : wx.frozen? ⟨B i, j, none⟩ = false := by simp [World.frozen?, h.row i hi]
theorem GR.cell {wB : World} {v : Value} {W H : Nat} {B : Nat → Nat} {G : Nat → Nat → ByteArray} {wx : World} (h : GR wB v W H B G wx) {i j : Nat} (hi : i < H) (hj : j < W) : wx.cell? ⟨B i, j, none⟩ = some (.string (G i j)) := by
  simp only [World.cell?, h.row i hi]
  exact gcs_at hj
theorem GR.rm {wB : World} {v : Value} {W H : Nat} {B : Nat → Nat} {xs : List ps.Fl} {wx : World} (h : GR wB v W H B (gt xs) wx) : ∃ p c, v = .slice p H c ∧ RM wx p (grid xs H W) := by
  by_cases h0 : H = 0
  · obtain ⟨p, c, e⟩ := own_form h.own
    exact ⟨p, c, e, .inl (by rw [h0]; rfl)⟩
  · obtain ⟨g, c, e, -, hg⟩ := h.at (i := 0) (by omega)
    refine ⟨_, c, e, .inr ⟨g, 0, rfl, hg, fun i r hr => ?_⟩⟩
    have hi : i < H := by have := (List.getElem?_eq_some_iff.1 hr).1; rw [grid_len] at this; exact this
    rw [grid_at hi] at hr
    obtain rfl := Option.some.inj hr
    obtain ⟨g', c', e', h1, -⟩ := h.at hi
    have := e.symm.trans e'
    injection this with e1
    injection e1 with e1
    injection e1 with e1
    subst e1
    refine ⟨some ⟨B i, 0, none⟩, W, by rw [Nat.zero_add, List.length_map, List.length_range]; exact h1, ?_⟩
    by_cases hW : W = 0
    · exact .inl (by rw [hW]; rfl)
    · refine .inr ⟨B i, 0, rfl, (Array.getElem?_eq_some_iff.1 (h.row i hi)).1, fun j s hs => ?_⟩
      have hj : j < W := by have := (List.getElem?_eq_some_iff.1 hs).1; rw [List.length_map, List.length_range] at this; exact this
      rw [grid_cell hj] at hs
      obtain rfl := Option.some.inj hs
      rw [Nat.zero_add]
      exact h.cell hi hj
set_option maxRecDepth 1000000 in
set_option maxHeartbeats 8000000 in
theorem rows_no (xs : List ps.Fl) (p : Option Addr) (c : Nat) (w : World) (hx : ps.FM w p xs) (hE : ps.EnvP w) (t : Int) (hT : ps.Told xs t) (h0 : t ≠ 0) :
    Calls Tryz.prog 4 #[.slice p xs.length c] w fun e w' => e = .returned (.tuple #[nls, .iface 41 (.int .i64 t)]) ∧ Bw w w' := by
  have HCK : Hid (Calls Tryz.prog 8 #[.slice p xs.length c] w fun e w' => e = .returned (.iface 41 (.int .i64 t)) ∧ Bw w w') := (ps.gcheck_any p c xs w hx hE).mono fun e w' ⟨⟨t', h1, h2⟩, hb⟩ => by
    have e0 := h2.one hT
    subst e0
    rw [ps.errV_some h0] at h1
    exact ⟨h1, hb⟩
  clear hx hE hT h0
  go_enter Tryz.func4, Tryz.ntmps4
  go_wp2_with (go_at_call 8; with_reducible refine HCK.out.mono ?_; rintro e w' ⟨rfl, hw⟩)
  exact bodyPost_ret (v := .tuple #[nls, .iface 41 (.int .i64 t)]) (by simp [results, Tryz.results4, go_sem]) rfl ⟨rfl, by assumption⟩
set_option maxRecDepth 1000000 in
set_option maxHeartbeats 8000000 in
theorem rows_yes (xs : List ps.Fl) (p : Option Addr) (c : Nat) (w : World) (hx : ps.FM w p xs) (hE : ps.EnvP w) (hT : ps.Told xs 0) :
    Calls Tryz.prog 4 #[.slice p xs.length c] w fun e w' => ∃ p c, e = .returned (.tuple #[.slice p (mxR xs) c, .nilIface]) ∧ Hid (RM w' p (grid xs (mxR xs) (mxC xs)) ∧ Bw w w') := by
  have HCK : Hid (Calls Tryz.prog 8 #[.slice p xs.length c] w fun e w' => e = .returned .nilIface ∧ Bw w w') := (ps.gcheck_any p c xs w hx hE).mono fun e w' ⟨⟨t', h1, h2⟩, hb⟩ => by
    have e0 := h2.one hT
    subst e0
    exact ⟨h1, hb⟩
  have HF : Hid (ps.Fine xs) := hT.fine
  have HX : Hid (ps.FM w p xs) := hx
  have hn9 : (xs.length : Int) ≤ 200 := by have := HF.out.len; omega
  clear hx hE hT
  go_enter Tryz.func4, Tryz.ntmps4
  go_upto_block 0 with (go_at_call 8; with_reducible refine HCK.out.mono ?_; rintro e w1 ⟨rfl, hw1⟩)
  have HX1 : Hid (ps.FM w1 p xs ∧ Bw w w1) := ⟨fm_next HX.out hw1, hw1⟩
  clear hw1 HCK HX
  have HP0 : Hid (P2 (w1.alloc (.cells #[.int .i64 0, .int .i64 0] 36)) w1.heap.size 0 0 ∧ Bw w1 (w1.alloc (.cells #[.int .i64 0, .int .i64 0] 36))) := ⟨heap_alloc_new w1 _, Bw.al w1 _⟩
  generalize (w1.alloc (.cells #[.int .i64 0, .int .i64 0] 36)) = w2 at *
  have HBL : Hid (w1.heap.size = w1.heap.size) := rfl
  go_cut [] (fun wx => Hid (P2 wx w1.heap.size (mxC xs : Nat) (mxR xs : Nat) ∧ Bw w1 wx))
  case first =>
    go_wp2_with fail
    go_loopw [18] (fun s18 wr => ∃ i : Nat, s18 = .int .i64 (i : Int) ∧ i ≤ xs.length ∧ Hid (P2 wr w1.heap.size (mxC (xs.take i) : Nat) (mxR (xs.take i) : Nat) ∧ Bw w1 wr)) (fun s18 _ => xs.length - (intOf s18).toNat)
    case atStart => exact ⟨0, rfl, Nat.zero_le _, HP0⟩
    case round =>
      obtain ⟨i, rfl, hi, HP⟩ := hrel
      by_cases hlt : i < xs.length
      · have hlt' : (i : Int) < (xs.length : Int) := by omega
        have hi0 : (0 : Int) ≤ (i : Int) := by omega
        have hx : xs[i]? = some xs[i] := List.getElem?_eq_getElem hlt
        obtain ⟨x, ex⟩ : ∃ x, xs[i] = x := ⟨_, rfl⟩
        rw [ex] at hx
        have HXX : Hid (xs[i]? = some x) := hx
        obtain ⟨g, o, rfl, hg, q0, q1, q2⟩ := fm_at (fm_next HX1.out.1 HP.out.2) hx
        clear hx ex
        go_upto_region 8 with fail
        clear q0 q1 q2
        have HG3 : Hid ((wr.alloc (.cells #[.int .i64 x.c, .int .i64 x.r, .string x.s] 38)).heap[wr.heap.size]? = some (.cells #[.int .i64 x.c, .int .i64 x.r, .string x.s] 38 (0, 0)) ∧ P2 (wr.alloc (.cells #[.int .i64 x.c, .int .i64 x.r, .string x.s] 38)) w1.heap.size (mxC (xs.take i) : Nat) (mxR (xs.take i) : Nat) ∧ Bw w1 (wr.alloc (.cells #[.int .i64 x.c, .int .i64 x.r, .string x.s] 38)) ∧ w1.heap.size < wr.heap.size) :=
          ⟨heap_alloc_new wr _, HP.out.1.next (Bw.al wr _), HP.out.2.tr (Bw.al wr _), HP.out.1.lt⟩
        generalize (wr.alloc (.cells #[.int .i64 x.c, .int .i64 x.r, .string x.s] 38)) = W3 at *
        have a0 : W3.cell? ⟨wr.heap.size, 0, none⟩ = some (.int .i64 x.c) := by simp only [World.cell?, HG3.out.1]; rfl
        have a1 : W3.cell? ⟨wr.heap.size, 1, none⟩ = some (.int .i64 x.r) := by simp only [World.cell?, HG3.out.1]; rfl
        obtain ⟨b0, b1, b2, b3⟩ := HG3.out.2.1.at
        have hne : wr.heap.size ≠ w1.heap.size := by have := HG3.out.2.2.2; omega
        have hne2 : w1.heap.size ≠ wr.heap.size := by have := HG3.out.2.2.2; omega
        generalize wr.heap.size = fb at *
        go_upto_region 9 with fail
        have HG4 : Hid (P2 (W3.setCell ⟨w1.heap.size, 0, none⟩ (.int .i64 (max ((mxC (xs.take i) : Nat) : Int) x.c))) w1.heap.size (max ((mxC (xs.take i) : Nat) : Int) x.c) (mxR (xs.take i) : Nat) ∧ Bw w1 (W3.setCell ⟨w1.heap.size, 0, none⟩ (.int .i64 (max ((mxC (xs.take i) : Nat) : Int) x.c)))) :=
          ⟨HG3.out.2.1.set0 _, HG3.out.2.2.1.setCell (Nat.le_refl _) _⟩
        have a1' : (W3.setCell ⟨w1.heap.size, 0, none⟩ (.int .i64 (max ((mxC (xs.take i) : Nat) : Int) x.c))).cell? ⟨fb, 1, none⟩ = some (.int .i64 x.r) := by
          simp only [World.cell?]
          rw [heap_setCell_other _ _ _ _ hne]
          simp only [HG3.out.1]
          rfl
        clear a0 a1 b0 b1 b2 b3
        generalize (W3.setCell ⟨w1.heap.size, 0, none⟩ (.int .i64 (max ((mxC (xs.take i) : Nat) : Int) x.c))) = W4 at *
        obtain ⟨b0, b1, b2, b3⟩ := HG4.out.1.at
        have HN : Hid (∀ z, z = max ((mxR (xs.take i) : Nat) : Int) x.r → P2 (W4.setCell ⟨w1.heap.size, 1, none⟩ (.int .i64 z)) w1.heap.size (mxC (xs.take (i + 1)) : Nat) (mxR (xs.take (i + 1)) : Nat) ∧ Bw w1 (W4.setCell ⟨w1.heap.size, 1, none⟩ (.int .i64 z))) := fun z hz => by
          have hxc := adr.isC_iff.1 (HF.out.cell x (List.mem_of_getElem? HXX.out)).1
          have e : xs.take (i + 1) = xs.take i ++ [x] := by rw [List.take_add_one, HXX.out]; rfl
          have e1 : ((mxC (xs.take (i + 1)) : Nat) : Int) = max ((mxC (xs.take i) : Nat) : Int) x.c := by rw [e, mxC_snoc]; omega
          have e2 : ((mxR (xs.take (i + 1)) : Nat) : Int) = max ((mxR (xs.take i) : Nat) : Int) x.r := by rw [e, mxR_snoc]; omega
          rw [e1, e2, ← hz]
          exact ⟨HG4.out.1.set1 _, HG4.out.2.setCell (Nat.le_refl _) _⟩
        clear HG3 HG4 HP
        go_wp2_with fail
        exact ⟨⟨i + 1, rfl, hlt, HN.out _ rfl⟩, by simp [intOf]; omega⟩
      · have hlt' : ¬ (i : Int) < (xs.length : Int) := by omega
        have HR : Hid (P2 wr w1.heap.size (mxC xs : Nat) (mxR xs : Nat) ∧ Bw w1 wr) := by
          have e : xs.take i = xs := List.take_of_length_le (by omega)
          have := HP.out
          rw [e] at this
          exact this
        clear HP
        go_wp2_with fail
        go_meet
        case rel => exact HR
  case rest =>
  have HP := hcut
  clear hcut HP0
  apply_assumption
  obtain ⟨wb, hwb⟩ : ∃ x, x = wc := ⟨_, rfl⟩
  subst hwb
  have HMX : Hid ((∀ x ∈ xs, x.c ≤ (mxC xs : Int) ∧ x.r ≤ (mxR xs : Int)) ∧ mxC xs ≤ 26 ∧ mxR xs ≤ 99) := mx_all xs (fun x hx => (HF.out.cell x hx).1)
  have hC9 : ((mxC xs : Nat) : Int) ≤ 26 := by have := HMX.out.2.1; omega
  have hR9 : ((mxR xs : Nat) : Int) ≤ 99 := by have := HMX.out.2.2; omega
  have hC0 : (0 : Int) ≤ ((mxC xs : Nat) : Int) := by omega
  have hR0 : (0 : Int) ≤ ((mxR xs : Nat) : Int) := by omega
  obtain ⟨b0, b1, -, -⟩ := HP.out.1.at
  obtain ⟨MC, eMC⟩ : ∃ n, mxC xs = n := ⟨_, rfl⟩
  obtain ⟨MR, eMR⟩ : ∃ n, mxR xs = n := ⟨_, rfl⟩
  rw [eMC, eMR] at HP HMX
  rw [eMC] at hC9 hC0 b0
  rw [eMR] at hR9 hR0 b1
  have HEQ : Hid (mxC xs = MC ∧ mxR xs = MR) := ⟨eMC, eMR⟩
  clear eMC eMR
  go_upto_block 2 with fail
  clear b0 b1
  go_cut [8] (fun s8 wx => ∃ B, Hid (GR wb s8 MC MR B (fun _ _ => nul) wx))
  case first =>
    go_wp2_with fail
    go_loopw [8, 39] (fun s8 s39 wr => ∃ (i : Nat) (B : Nat → Nat), s39 = .int .i64 (i : Int) ∧ i ≤ MR ∧ Hid (GR wb s8 MC i B (fun _ _ => nul) wr)) (fun _ s39 _ => MR - (intOf s39).toNat)
    case atStart => exact ⟨0, fun _ => 0, rfl, Nat.zero_le _, GR.nil wb MC _⟩
    case round =>
      obtain ⟨i, B, rfl, hi, HG⟩ := hrel
      by_cases hlt : i < MR
      · have hlt' : (i : Int) < (MR : Int) := by omega
        have hi0 : (0 : Int) ≤ (i : Int) := by omega
        obtain ⟨b0, -, -, -⟩ := (HP.out.1.next HG.out.below).at
        obtain ⟨p8, c8, e8⟩ := own_form HG.out.own
        subst e8
        obtain ⟨g2, c2, w5, hr, hG⟩ := HG.out.push (by have := HMX.out.2.2; omega)
        have hs1 : (wr.alloc (.cells (gcs MC fun _ => nul) 9)).heap.size = wr.heap.size + 1 := by simp
        rw [hs1] at hr
        clear hs1
        have HRR : Hid ((Builtin.append_ #[23, 23] 23 #[.slice p8 i c8, .slice (some ⟨wr.heap.size + 1, 0, none⟩) 1 1]).run Tryz.prog ((wr.alloc (.cells (gcs MC fun _ => nul) 9)).alloc (.cells #[.slice (some ⟨wr.heap.size, 0, none⟩) MC MC] 29)) = .ok (.slice (some ⟨g2, 0, none⟩) (i + 1) c2) w5) := hr
        have HN : Hid (GR wb (.slice (some ⟨g2, 0, none⟩) (i + 1) c2) MC (i + 1) (fun k => if k = i then wr.heap.size else B k) (fun _ _ => nul) w5) := hG
        have hmk := make_texts MC (by have := HMX.out.2.1; omega) wr
        clear hr hG HG
        go_wp2_with (at_builtin; refine wpList_append_eq rfl _ _ 23 23 rfl _ _ _ _ rfl rfl HRR.out ?_)
        exact ⟨⟨i + 1, _, rfl, hlt, HN⟩, by simp [intOf]; omega⟩
      · have hlt' : ¬ (i : Int) < (MR : Int) := by omega
        obtain rfl : i = MR := by omega
        go_wp2_with fail
        go_meet
        case rel => exact ⟨B, HG⟩
  case rest =>
  obtain ⟨B, HG⟩ := hcut
  apply_assumption
  have e00 : gt (xs.take 0) = fun _ _ => nul := by rw [List.take_zero]; rfl
  have HG0 : Hid (GR wb u8 MC MR B (gt (xs.take 0)) wc) := by rw [e00]; exact HG
  clear e00
  clear HG
  go_upto_block 4 with fail
  go_cut [] (fun wx => Hid (GR wb u8 MC MR B (gt xs) wx))
  case first =>
    go_wp2_with fail
    go_loopw [50] (fun s50 wr => ∃ (i : Nat), s50 = .int .i64 (i : Int) ∧ i ≤ xs.length ∧ Hid (GR wb u8 MC MR B (gt (xs.take i)) wr)) (fun s50 _ => xs.length - (intOf s50).toNat)
    case atStart => exact ⟨0, rfl, Nat.zero_le _, HG0⟩
    case round =>
      obtain ⟨i, rfl, hi, HG⟩ := hrel
      by_cases hlt : i < xs.length
      · have hlt' : (i : Int) < (xs.length : Int) := by omega
        have hi0 : (0 : Int) ≤ (i : Int) := by omega
        have hx : xs[i]? = some xs[i] := List.getElem?_eq_getElem hlt
        obtain ⟨x, ex⟩ : ∃ x, xs[i] = x := ⟨_, rfl⟩
        rw [ex] at hx
        have hxc := adr.isC_iff.1 (HF.out.cell x (List.mem_of_getElem? hx)).1
        have hxm := HMX.out.1 x (List.mem_of_getElem? hx)
        obtain ⟨ci, hci⟩ : ∃ n : Nat, x.c = (n : Int) + 1 := ⟨(x.c - 1).toNat, by omega⟩
        obtain ⟨ri, hri⟩ : ∃ n : Nat, x.r = (n : Int) + 1 := ⟨(x.r - 1).toNat, by omega⟩
        have hcl : ci < MC := by omega
        have hrl : ri < MR := by omega
        have HNX : Hid (∀ wy, GR wb u8 MC MR B (fun a b => if a = ri ∧ b = ci then x.s else gt (xs.take i) a b) wy → GR wb u8 MC MR B (gt (xs.take (i + 1))) wy) := fun wy h => by
          have e : xs.take (i + 1) = xs.take i ++ [x] := by rw [List.take_add_one, hx]; rfl
          have e2 : gt (xs.take (i + 1)) = fun a b => if a = ri ∧ b = ci then x.s else gt (xs.take i) a b := by
            funext a b
            rw [e, gt_snoc (xs.take i) x a b (fun y hy hyx => by
              obtain ⟨m, hm⟩ := List.getElem?_of_mem hy
              rw [List.getElem?_take] at hm
              split at hm
              · rename_i hmi
                have := ps.lt_iff.1 (ps.srt_get HF.out.srt hm hx hmi)
                omega
              · cases hm), hci, hri]
            by_cases hab : a = ri ∧ b = ci
            · rw [if_pos hab, if_pos ⟨by omega, by omega⟩]
            · rw [if_neg hab, if_neg (fun h => hab ⟨by omega, by omega⟩)]
          rw [e2]
          exact h
        obtain ⟨g, o, rfl, hg, q0, q1, q2⟩ := fm_at (fm_next HX1.out.1 (HP.out.2.tr HG.out.below)) hx
        obtain ⟨xc, xr, xs'⟩ := x
        dsimp only at hci hri q0 q1 q2 HNX
        subst hci hri
        clear hx ex hxc hxm
        go_upto_region 19 with fail
        clear q0 q1 q2
        have HG3 : Hid (GR wb u8 MC MR B (gt (xs.take i)) (wr.alloc (.cells #[.int .i64 ((ci : Int) + 1), .int .i64 ((ri : Int) + 1), .string xs'] 38)) ∧ (wr.alloc (.cells #[.int .i64 ((ci : Int) + 1), .int .i64 ((ri : Int) + 1), .string xs'] 38)).heap[wr.heap.size]? = some (.cells #[.int .i64 ((ci : Int) + 1), .int .i64 ((ri : Int) + 1), .string xs'] 38 (0, 0)) ∧ B ri < wr.heap.size) :=
          ⟨HG.out.next (Bw.al wr _), heap_alloc_new wr _, (Array.getElem?_eq_some_iff.1 (HG.out.row ri hrl)).1⟩
        generalize (wr.alloc (.cells #[.int .i64 ((ci : Int) + 1), .int .i64 ((ri : Int) + 1), .string xs'] 38)) = W3 at *
        have a0 : W3.cell? ⟨wr.heap.size, 0, none⟩ = some (.int .i64 ((ci : Int) + 1)) := by simp only [World.cell?, HG3.out.2.1]; rfl
        have a1 : W3.cell? ⟨wr.heap.size, 1, none⟩ = some (.int .i64 ((ri : Int) + 1)) := by simp only [World.cell?, HG3.out.2.1]; rfl
        have a2 : W3.cell? ⟨wr.heap.size, 2, none⟩ = some (.string xs') := by simp only [World.cell?, HG3.out.2.1]; rfl
        obtain ⟨g8, k8, e8, c8, -⟩ := HG3.out.1.at hrl
        have c9 := HG3.out.1.cell hrl hcl
        have f9 := HG3.out.1.froz hrl ci
        have hcl' : (ci : Int) < (MC : Int) := by omega
        have hrl' : (ri : Int) < (MR : Int) := by omega
        have hci0 : (0 : Int) ≤ (ci : Int) := by omega
        have hri0 : (0 : Int) ≤ (ri : Int) := by omega
        have HN : Hid (GR wb u8 MC MR B (gt (xs.take (i + 1))) (W3.drew.setCell ⟨B ri, ci, none⟩ (.string xs'))) := HNX.out _ ((HG3.out.1.next (Below.refl _ _ : Bw W3 W3).drew).set hrl ci xs')
        obtain ⟨bb, hbb⟩ : ∃ b, B ri = b := ⟨_, rfl⟩
        rw [hbb] at c8 c9 f9 HN
        clear hbb HG3 HG HNX
        subst e8
        go_region
        all_goals
          go_wp2_with fail
          exact ⟨⟨i + 1, rfl, hlt, HN⟩, by simp [intOf]; omega⟩
      · have hlt' : ¬ (i : Int) < (xs.length : Int) := by omega
        have HR : Hid (GR wb u8 MC MR B (gt xs) wr) := by
          have e : xs.take i = xs := List.take_of_length_le (by omega)
          have := HG.out
          rw [e] at this
          exact this
        clear HG
        go_wp2_with fail
        go_meet
        case rel => exact HR
  case rest =>
  have HG := hcut
  clear hcut HG0
  apply_assumption
  obtain ⟨p9, c9, e9, hM⟩ := HG.out.rm
  subst e9
  have HR : Hid (RM wc p9 (grid xs MR MC) ∧ Bw w wc) := ⟨hM, HX1.out.2.tr (HP.out.2.tr HG.out.below)⟩
  clear hM HG
  go_wp2_with fail
  exact bodyPost_ret (v := .tuple #[.slice p9 MR c9, .nilIface]) (by simp [results, Tryz.results4, go_sem]) rfl (by rw [HEQ.out.1, HEQ.out.2]; first | exact ⟨p9, c9, rfl, HR⟩ | exact ⟨p9, ⟨c9, rfl⟩, HR⟩)
end Go.Proofs.YtdinmgepdeigjaaGreatDoor.fw

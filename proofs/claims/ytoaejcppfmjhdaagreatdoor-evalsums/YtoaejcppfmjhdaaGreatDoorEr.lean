/- Package eval: the values of cells as a map. Conditions: as each theorem says. -/
import Derived.Test.YtoaejcppfmjhdaaGreatDoorEl
import Derived.Test.YtoaejcppfmjhdaaGreatDoorEi
import Derived.Test.YtoaejcppfmjhdaaGreatDoorEq
import Derived.Test.YtoaejcppfmjhdaaGreatDoorArow
namespace Go.Proofs.YtoaejcppfmjhdaaGreatDoor.ev
open Go.RowKit
open Go.ChangeMaps (setBlock)
/-- A cell that is shown: column, row, and its value. -/
structure Sh where
  c : Int
  r : Int
  k : Int
  n : Int
  s : ByteArray
abbrev Sh.key (x : Sh) : Value := .agg #[.int .i64 x.c, .int .i64 x.r]
abbrev Sh.val (x : Sh) : Value := VV x.k x.n x.s
def Sh.cells (x : Sh) : List Value := [.int .i64 x.c, .int .i64 x.r, .int .i64 x.k, .int .i64 x.n, .string x.s, .int .i64 0, .int .i64 0]
/-- A list of such cells in memory. -/
def ShL (w : World) (p : Option Addr) (xs : List Sh) : Prop :=
  xs = [] ∨ ∃ g o, p = some ⟨g, o, none⟩ ∧ g < w.heap.size ∧ ∀ (i : Nat) x, xs[i]? = some x → ∀ (j : Nat) v, x.cells[j]? = some v → w.cell? ⟨g, o + i * 7 + j, none⟩ = some v
theorem ShL.next {w w' : World} {p : Option Addr} {xs : List Sh} (h : ShL w p xs) (hb : Below w.heap.size w w') : ShL w' p xs := by
  rcases h with h | ⟨g, o, h1, h2, h3⟩
  · exact .inl h
  · exact .inr ⟨g, o, h1, Nat.lt_of_lt_of_le h2 hb.size, fun i x hx j v hv => by rw [hb.cell (p := ⟨g, _, none⟩) h2]; exact h3 i x hx j v hv⟩
/-- The values of a list's cells: of two of one cell the later one's. -/
noncomputable def vals : List Sh → (Value → Option Value) → Value → Option Value
  | [], f => f
  | x :: xs, f => vals xs (mp.upd f x.key x.val)
theorem vals_take {xs : List Sh} {j : Nat} {x : Sh} (h : xs[j]? = some x) (f : Value → Option Value) : vals (xs.take (j + 1)) f = mp.upd (vals (xs.take j) f) x.key x.val := by
  induction xs generalizing j f with
  | nil => simp at h
  | cons y ys ih =>
    cases j with
    | zero => simp at h; subst h; simp [vals]
    | succ j => simp at h; simp only [List.take_succ_cons, vals]; exact ih h _
theorem below_setBlock {B : Nat} {w wr : World} {b : Nat} {o : Obj} (h : Below B w wr) (hb : B ≤ b) : Below B w (setBlock wr b o) :=
  ⟨h.os, h.tape, h.output, by have := h.size; simpa [setBlock] using this, fun i hi => by rw [← h.block i hi]; unfold setBlock; simp [show b ≠ i by omega]⟩



/-- All cells are cells, all values are values. -/
def ShOk (xs : List Sh) : Prop := ∀ (i : Nat) x, xs[i]? = some x → adr.isC x.c x.r = true ∧ (∃ l, keyOf Tryz.prog 23 x.key = some l) ∧ ∀ wx, Calls Tryz.prog 43 #[x.val] wx fun e w' => e = .returned .nilIface ∧ Below wx.heap.size wx w'
theorem cells7 {w : World} {b : Nat} {a0 a1 a2 a3 a4 a5 a6 : Value} {t : TypeId} (h : w.heap[b]? = some (.cells #[a0, a1, a2, a3, a4, a5, a6] t (0, 0))) :
    w.cell? ⟨b, 0, none⟩ = some a0 ∧ w.cell? ⟨b, 1, none⟩ = some a1 ∧ w.cell? ⟨b, 2, none⟩ = some a2 ∧ w.cell? ⟨b, 3, none⟩ = some a3 ∧ w.cell? ⟨b, 4, none⟩ = some a4 ∧ w.cell? ⟨b, 5, none⟩ = some a5 ∧ w.cell? ⟨b, 6, none⟩ = some a6 := by
  simp [World.cell?, h]
theorem make_map (w : World) : (Instr.makeMap 68 none).run Tryz.prog w = .ok (.map (some w.heap.size)) (w.alloc (.map #[] 0)) := by
  simp [Instr.makeMap, go_sem]
set_option maxRecDepth 100000 in
set_option maxHeartbeats 4000000 in
theorem sheetOf_any (p : Option Addr) (c : Nat) (xs : List Sh) (w : World) (hx : ShL w p xs) (hok : ShOk xs) (hlen : xs.length ≤ 9223372036854775807) :
    Calls Tryz.prog 28 #[.slice p xs.length c] w fun e w' => e = .returned (.tuple #[.map (some w.heap.size), .nilIface]) ∧ mp.CM Tryz.prog 23 w' w.heap.size (vals xs fun _ => none) ∧ w.heap.size < w'.heap.size ∧ Below w.heap.size w w' := by
  have HX : Hid (ShL w p xs) := hx
  have HO : Hid (ShOk xs) := hok
  have hm0 : mp.CM Tryz.prog 23 (w.alloc (.map #[] 0)) w.heap.size (fun _ => none) := mp.cm_empty (heap_alloc_new w _)
  obtain ⟨n, hn⟩ : ∃ n, xs.length = n := ⟨_, rfl⟩
  have HLN : Hid (xs.length = n) := hn
  rw [hn] at hlen ⊢
  have hmk := make_map w
  clear hx hok hn
  go_enter Tryz.func28, Tryz.ntmps28
  go_wp2_with fail
  clear hmk
  go_loopw [12] (fun i wr => ∃ j : Nat, i = .int .i64 j ∧ j ≤ n ∧ mp.CM Tryz.prog 23 wr w.heap.size (vals (xs.take j) fun _ => none) ∧ w.heap.size < wr.heap.size ∧ Below w.heap.size w wr) (fun i _ => n - (intOf i).toNat)
  case atStart => exact ⟨0, rfl, Nat.zero_le _, hm0, by simp, (Below.refl _ _).alloc (Nat.le_refl _) _⟩
  case round =>
    clear hm0
    obtain ⟨j, rfl, hj, hm, hlw, hbr⟩ := hrel
    have HM : Hid (mp.CM Tryz.prog 23 wr w.heap.size (vals (xs.take j) fun _ => none)) := hm
    have HB : Hid (Below w.heap.size w wr) := hbr
    by_cases hlt : j < n
    · obtain ⟨x, hx⟩ : ∃ x, xs[j]? = some x := ⟨_, List.getElem?_eq_getElem (by have := HLN.out; omega)⟩
      obtain ⟨ho1, ⟨l, ho2⟩, ho3⟩ := HO.out j x hx
      have H42 : Hid (∀ wx, Calls Tryz.prog 42 #[.agg #[.int .i64 x.c, .int .i64 x.r]] wx fun e w' => e = .returned .nilIface ∧ Below wx.heap.size wx w') := fun wx => by
        have := adr.check_any x.c x.r wx
        rw [ho1] at this
        exact this
      have H43 : Hid (∀ wx, Calls Tryz.prog 43 #[VV x.k x.n x.s] wx fun e w' => e = .returned .nilIface ∧ Below wx.heap.size wx w') := ho3
      have HUP : Hid (∀ wx, mp.CM Tryz.prog 23 wx w.heap.size (vals (xs.take j) fun _ => none) → ∃ ob, (Instr.mapUpdate 68 (.map (some w.heap.size)) x.key x.val).run Tryz.prog wx = .ok () (setBlock wx w.heap.size ob) ∧ mp.CM Tryz.prog 23 (setBlock wx w.heap.size ob) w.heap.size (vals (xs.take (j + 1)) fun _ => none)) := fun wx h => by
        obtain ⟨ob, q1, q2⟩ := mp.cm_update (et := 31) (mt := 68) key23 under68 h (v := x.val) ho2
        exact ⟨ob, q1, by rw [vals_take hx]; exact q2⟩
      rcases HX.out with h | ⟨g, o, rfl, hg, h3⟩
      · rw [h] at hx; simp at hx
      have e1 : ∀ jj v, x.cells[jj]? = some v → wr.cell? ⟨g, o + j * 7 + jj, none⟩ = some v := fun jj v hv => by rw [hbr.cell (p := ⟨g, _, none⟩) hg]; exact h3 j x hx jj v hv
      have x0 := e1 0 _ rfl
      have x1 := e1 1 _ rfl
      have x2 := e1 2 _ rfl
      have x3 := e1 3 _ rfl
      have x4 := e1 4 _ rfl
      have x5 := e1 5 _ rfl
      have x6 := e1 6 _ rfl
      simp only [Nat.add_zero] at x0
      have hlt' : (j : Int) < (n : Int) := by omega
      have hj0 : (0 : Int) ≤ (j : Int) := by omega
      have hLW : Hid (w.heap.size < wr.heap.size) := hlw
      have HN1 : Hid ((wr.alloc (.cells #[.int .i64 x.c, .int .i64 x.r, .int .i64 x.k, .int .i64 x.n, .string x.s, .int .i64 0, .int .i64 0] 40)).heap[wr.heap.size]? = some (.cells #[.int .i64 x.c, .int .i64 x.r, .int .i64 x.k, .int .i64 x.n, .string x.s, .int .i64 0, .int .i64 0] 40 (0, 0))) := heap_alloc_new _ _
      have HBA : Hid (Below wr.heap.size wr (wr.alloc (.cells #[.int .i64 x.c, .int .i64 x.r, .int .i64 x.k, .int .i64 x.n, .string x.s, .int .i64 0, .int .i64 0] 40))) := (Below.refl _ _).alloc (Nat.le_refl _) _
      clear hm hbr hlw e1 h3 ho1 ho2 ho3 hx HO HX
      go_wp2_with fail
      refine (H42.out _).mono ?_
      clear x0 x1 x2 x3 x4 x5 x6
      rintro e w1 ⟨rfl, hb1⟩
      have hbx1 : Below wr.heap.size wr w1 := bnext HBA.out hb1 HBA.out.size
      have hn1 := (hb1.block _ (fm.lt_blk HN1.out)).trans HN1.out
      obtain ⟨y0, y1, y2, y3, y4, y5, y6⟩ := cells7 hn1
      have HN2 : Hid (w1.heap[wr.heap.size]? = some (.cells #[.int .i64 x.c, .int .i64 x.r, .int .i64 x.k, .int .i64 x.n, .string x.s, .int .i64 0, .int .i64 0] 40 (0, 0))) := hn1
      have HB1 : Hid (Below wr.heap.size wr w1) := hbx1
      clear hb1 hbx1 hn1 HN1 HBA
      go_wp2_with fail
      refine (H43.out _).mono ?_
      clear y0 y1 y2 y3 y4 y5 y6
      rintro e w2 ⟨rfl, hb2⟩
      have hbx2 : Below wr.heap.size wr w2 := bnext HB1.out hb2 HB1.out.size
      have hn2 := (hb2.block _ (fm.lt_blk HN2.out)).trans HN2.out
      obtain ⟨y0, y1, y2, y3, y4, y5, y6⟩ := cells7 hn2
      obtain ⟨ob, hu1, hu2⟩ := HUP.out w2 (mp.cm_below HM.out (hbx2.block _ hLW.out))
      have HCM : Hid (mp.CM Tryz.prog 23 (setBlock w2 w.heap.size ob) w.heap.size (vals (xs.take (j + 1)) fun _ => none)) := hu2
      have HBZ : Hid (Below w.heap.size w (setBlock w2 w.heap.size ob)) := below_setBlock (bnext HB.out hbx2 HB.out.size) (Nat.le_refl _)
      have HSZ : Hid (w.heap.size < (setBlock w2 w.heap.size ob).heap.size) := by have := hbx2.size; have := hLW.out; unfold Hid; simp [setBlock]; omega
      clear hb2 hbx2 hn2 hu2 HN2 HB1 HUP HM
      go_wp2_with fail
      exact ⟨⟨j + 1, by simp, hlt, HCM.out, HSZ.out, HBZ.out⟩, by simp [intOf]; omega⟩
    · have hkn : n = j := by omega
      subst hkn
      go_wp2_with fail
      refine bodyPost_ret (v := .tuple #[.map (some w.heap.size), .nilIface]) (by simp [results, Tryz.results28, go_sem]) rfl ⟨rfl, ?_, hlw, HB.out⟩
      have h := HM.out
      rw [List.take_of_length_le (Nat.le_of_eq HLN.out)] at h
      exact h
end Go.Proofs.YtoaejcppfmjhdaaGreatDoor.ev

/- The writer: its text, its levels, in its block; what is written behind. Condition: lengths up to 2^47. -/
import Derived.Test.YtoaejcppfmjhdaaGreatDoorFx
import Derived.Shelf.Strings.BuilderK
import Derived.Lib.SmallJoins
import Derived.Test.YtoaejcppfmjhdaaGreatDoorVi
import Derived.Test.YtoaejcppfmjhdaaGreatDoorAname
import Derived.Lib.SplitLaws
import Derived.Deep.RegionHeld3
import Derived.Test.YtoaejcppfmjhdaaGreatDoorEi
import Derived.Test.YtoaejcppfmjhdaaGreatDoorEq
import Derived.Test.YtoaejcppfmjhdaaGreatDoorEr
namespace Go.Proofs.YtoaejcppfmjhdaaGreatDoor.fm
open Go.RowKit
/-- The writer in its block. -/
def WB (w : World) (B wb : Nat) (x : List UInt8) (d m : Nat) : Prop :=
  B ≤ wb ∧ ∃ p v, (p = .pointer none ∨ p = ptr wb) ∧ w.heap[wb]? = some (.cells #[p, v, .int .i64 (d : Nat), .int .i64 (m : Nat)] 143 (0, 0)) ∧ w.ownsRowF B 5 1 v x.length (Lib.byteCells x)
/-- What a call of the writer's keeps. -/
structure Kw (B wb : Nat) (w w' : World) : Prop where
  b : Below B w w'
  o : Lib.OthersKept 5 (some wb) w w'
theorem Kw.refl (B wb : Nat) (w : World) : Kw B wb w w := ⟨Below.refl _ _, Lib.OthersKept.refl _ _ _⟩
theorem Kw.trans {B wb : Nat} {a b c : World} (h : Kw B wb a b) (k : Kw B wb b c) : Kw B wb a c := ⟨h.b.trans k.b, h.o.trans k.o⟩
theorem Kw.drew {B wb : Nat} {a b : World} (h : Kw B wb a b) : Kw B wb a b.drew := ⟨h.b.drew, h.o.drew⟩
theorem Kw.set {B wb : Nat} {a b : World} (h : Kw B wb a b) (hB : B ≤ wb) (o : Nat) (v : Value) : Kw B wb a (b.setCell ⟨wb, o, none⟩ v) := ⟨h.b.setCell (p := ⟨wb, o, none⟩) hB v, h.o.setCell ⟨wb, o, none⟩ rfl v⟩
theorem Kw.alloc {B wb : Nat} {a b : World} (h : Kw B wb a b) (hB : B ≤ b.heap.size) (o : Obj) : Kw B wb a (b.alloc o) := ⟨h.b.alloc hB o, h.o.alloc o⟩
theorem cells4w {w : World} {b : Nat} {a0 a1 a2 a3 : Value} {t : TypeId} (h : w.heap[b]? = some (.cells #[a0, a1, a2, a3] t (0, 0))) :
    (w.cell? ⟨b, 0, none⟩ = some a0 ∧ w.cell? ⟨b, 1, none⟩ = some a1 ∧ w.cell? ⟨b, 2, none⟩ = some a2 ∧ w.cell? ⟨b, 3, none⟩ = some a3) ∧ ∀ o, w.frozen? ⟨b, o, none⟩ = false := by
  refine ⟨by simp [World.cell?, h], fun o => by simp [World.frozen?, h]⟩
theorem info86a : (Tryz.prog.info? 141).map (fun i => i.size) = some 2 := by kernel_rfl
theorem info5a : (Tryz.prog.info? 5).map (fun i => (i.zero, i.size, i.bytes)) = some (some (.int .u8 0), 1, 1) := by kernel_rfl
theorem lies86 : liesAt Tryz.prog Tryz.prog.depth 143 (4 / Tryz.prog.cellsOf 143) 0 141 1 = true := by kernel_rfl
set_option maxRecDepth 100000 in
theorem copy_used (wb : Nat) (w : World) (h0 : w.cell? ⟨wb, 0, none⟩ = some (ptr wb)) :
    Calls Tryz.prog 140 #[ptr wb] w fun e w' => e = .returned (.tuple #[]) ∧ w' = w := by
  obtain ⟨j, hj, _⟩ := Option.map_eq_some_iff.1 info86a
  go_enter Tryz.func140, Tryz.ntmps140
  go_wp2
  rw [Lib.run_neq_ptr_same w _ Tryz.underlying138 hj]
  go_wp2
  go_end0
  exact ⟨rfl, rfl⟩
set_option maxRecDepth 100000 in
theorem copy_fresh (wb : Nat) (w : World) (h0 : w.cell? ⟨wb, 0, none⟩ = some (.pointer none)) (hsh : w.shape? wb = some (143, 4)) (hfz : w.frozen? ⟨wb, 0, none⟩ = false) :
    Calls Tryz.prog 140 #[ptr wb] w fun e w' => e = .returned (.tuple #[]) ∧ w' = w.setCell ⟨wb, 0, none⟩ (ptr wb) := by
  obtain ⟨j, hj, hjs⟩ := Option.map_eq_some_iff.1 info86a
  go_enter Tryz.func140, Tryz.ntmps140
  go_wp2
  rw [Lib.run_to_unsafe w ⟨wb, 0, none⟩ Tryz.underlying138 Tryz.underlying209 hj (by rw [hjs]; decide) hsh (Nat.zero_lt_succ 3)]
  simp only [Result.andThen]
  rw [Oper.upon_value]
  go_wp2
  rw [run_callFunc_extern Tryz.func226 (by kernel_rfl) (by kernel_rfl) (by kernel_rfl) (e := Extern.AbiNoEscape.same) (by kernel_rfl)]
  rw [Lib.run_noEscape]
  simp only [Result.andThen]
  rw [Oper.upon_value]
  go_wp2
  rw [Lib.run_from_unsafe w ⟨wb, 0, none⟩ Tryz.underlying209 Tryz.underlying138 hj hsh lies86]
  simp only [Result.andThen]
  rw [Oper.upon_value]
  go_wp2
  go_end0
  exact ⟨rfl, rfl⟩
/-- The writer whose builder was used. -/
def WU (w : World) (B wb : Nat) (x : List UInt8) (d m : Nat) : Prop :=
  B ≤ wb ∧ ∃ v, w.heap[wb]? = some (.cells #[ptr wb, v, .int .i64 (d : Nat), .int .i64 (m : Nat)] 143 (0, 0)) ∧ w.ownsRowF B 5 1 v x.length (Lib.byteCells x)
theorem WU.wb {w : World} {B wb : Nat} {x : List UInt8} {d m : Nat} (h : WU w B wb x d m) : WB w B wb x d m := by
  obtain ⟨hB, v, h1, h2⟩ := h
  exact ⟨hB, _, v, .inr rfl, h1, h2⟩
theorem grown_set (w : World) (b o : Nat) (u : Value) : w.grownBy (w.setCell ⟨b, o, none⟩ u) (some b) := ⟨rfl, rfl, rfl, by simp [World.setCell], fun k _ hk => Below.heap_setCell _ _ _ _ (fun e => hk (by simp [e]))⟩
theorem own_set {w : World} {B wb n : Nat} {v u : Value} {xs : List Value} {cs : Array Value} {fr : Nat × Nat} (h : w.ownsRowF B 5 1 v n xs) (hb : w.heap[wb]? = some (.cells cs 143 fr)) (o : Nat) : (w.setCell ⟨wb, o, none⟩ u).ownsRowF B 5 1 v n xs :=
  h.kept (grown_set w wb o u) (.inr (Lib.ownBlock_neF h hb (by decide)))
theorem WB.lt {w : World} {B wb : Nat} {x : List UInt8} {d m : Nat} (h : WB w B wb x d m) : wb < w.heap.size := by
  obtain ⟨hB, p, v, hp, h1, h2⟩ := h
  exact lt_blk h1
theorem WB.ge {w : World} {B wb : Nat} {x : List UInt8} {d m : Nat} (h : WB w B wb x d m) : B ≤ wb := h.1
theorem WB.alloc {w : World} {B wb : Nat} {x : List UInt8} {d m : Nat} (h : WB w B wb x d m) (o : Obj) : WB (w.alloc o) B wb x d m := by
  have hl := h.lt
  obtain ⟨hB, p, v, hp, h1, h2⟩ := h
  exact ⟨hB, p, v, hp, by rw [Lib.alloc_old w o wb hl]; exact h1, h2.kept (World.grownBy_alloc w o none) (by cases hv : v.ownBlock <;> simp)⟩
theorem WB.drew {w : World} {B wb : Nat} {x : List UInt8} {d m : Nat} (h : WB w B wb x d m) : WB w.drew B wb x d m := h
theorem WB.setD {w : World} {B wb : Nat} {x : List UInt8} {d m : Nat} (h : WB w B wb x d m) (d' : Nat) : WB (w.setCell ⟨wb, 2, none⟩ (.int .i64 (d' : Nat))) B wb x d' m := by
  obtain ⟨hB, p, v, hp, h1, h2⟩ := h
  exact ⟨hB, p, v, hp, by rw [blk_set h1]; rfl, own_set h2 h1 2⟩
theorem WB.setM {w : World} {B wb : Nat} {x : List UInt8} {d m : Nat} (h : WB w B wb x d m) (m' : Nat) : WB (w.setCell ⟨wb, 3, none⟩ (.int .i64 (m' : Nat))) B wb x d m' := by
  obtain ⟨hB, p, v, hp, h1, h2⟩ := h
  exact ⟨hB, p, v, hp, by rw [blk_set h1]; rfl, own_set h2 h1 3⟩
theorem WB.cells {w : World} {B wb : Nat} {x : List UInt8} {d m : Nat} (h : WB w B wb x d m) : (w.cell? ⟨wb, 2, none⟩ = some (.int .i64 (d : Nat)) ∧ w.cell? ⟨wb, 3, none⟩ = some (.int .i64 (m : Nat))) ∧ w.frozen? ⟨wb, 2, none⟩ = false ∧ w.frozen? ⟨wb, 3, none⟩ = false := by
  obtain ⟨hB, p, v, hp, h1, h2⟩ := h
  obtain ⟨⟨_, _, c2, c3⟩, f⟩ := cells4w h1
  exact ⟨⟨c2, c3⟩, f 2, f 3⟩
theorem copy_any (B wb : Nat) (x : List UInt8) (d m : Nat) (w : World) (h : WB w B wb x d m) :
    Calls Tryz.prog 140 #[ptr wb] w fun e w' => e = .returned (.tuple #[]) ∧ WU w' B wb x d m ∧ Kw B wb w w' := by
  obtain ⟨hB, p, v, hp, h1, h2⟩ := h
  obtain ⟨⟨c0, c1, c2, c3⟩, f⟩ := cells4w h1
  rcases hp with rfl | rfl
  · refine (copy_fresh wb w c0 (by simp [World.shape?, h1]) (f 0)).mono ?_
    rintro e w' ⟨rfl, rfl⟩
    exact ⟨rfl, ⟨hB, v, by rw [blk_set h1]; rfl, own_set h2 h1 0⟩, (Kw.refl _ _ _).set hB 0 _⟩
  · refine (copy_used wb w c0).mono ?_
    rintro e w' ⟨rfl, rfl⟩
    exact ⟨rfl, ⟨hB, v, h1, h2⟩, Kw.refl _ _ _⟩
theorem strCells_bytes (s : ByteArray) : Lib.strCells s = Lib.byteCells s.data.toList := by
  rfl
set_option maxHeartbeats 2000000 in
set_option maxRecDepth 100000 in
theorem write_any (B wb : Nat) (x : List UInt8) (d m : Nat) (s : ByteArray) (w : World) (h : WB w B wb x d m) (hlen : x.length + s.size ≤ 140737488355328) (hBw : B ≤ w.heap.size) :
    Calls Tryz.prog 102 #[ptr wb, .string s] w fun e w' => e = .returned (.tuple #[.int .i64 s.size, .nilIface]) ∧ WB w' B wb (x ++ s.data.toList) d m ∧ Kw B wb w w' := by
  obtain ⟨i0, hi, hz0, hz1, hz2⟩ := info_parts info5a
  have HC := copy_any B wb x d m w h
  clear h
  go_enter Tryz.func102, Tryz.ntmps102
  go_wp2_with fail
  refine HC.mono ?_
  clear HC
  rintro e w1 ⟨rfl, ⟨hB, v, hbk, hown⟩, hk1⟩
  obtain ⟨⟨c0, c1, c2, c3⟩, cf⟩ := cells4w hbk
  clear c2 c3 cf
  go_wp2_with (at_builtin; refine Lib.wpList_append_own_stringF _ rfl _ _ 139 9 rfl B 5 i0 Tryz.underlying139 Tryz.underlying9 hi hz0 hz1 hz2 _ _ _ rfl hown s rfl ?c3 ?c4 ?c5 ?_)
  case c3 => unfold maxLen; omega
  case c4 => omega
  case c5 => have := hk1.b.size; omega
  intro v' w2 hown' hgrow _
  have hne := Lib.ownBlock_neF hown hbk (by decide)
  have hb2 : w2.heap[wb]? = some (.cells #[ptr wb, v, .int .i64 (d : Nat), .int .i64 (m : Nat)] 143 (0, 0)) := by
    rw [hgrow.block wb (lt_blk hbk) (fun e => hne e.symm)]
    exact hbk
  clear c0 c1
  obtain ⟨⟨c0, c1, c2, c3⟩, cf⟩ := cells4w hb2
  have f1 := cf 1
  clear cf c2 c3
  obtain ⟨ao, n', cap, rfl⟩ : ∃ ao n' cap, v' = .slice ao n' cap := by
    rcases hown'.2 with ⟨hv, _⟩ | ⟨g, cap, cur, fz, hv, _⟩
    · exact ⟨_, _, _, hv⟩
    · exact ⟨_, _, _, hv⟩
  go_wp2
  go_ret2
  refine ⟨rfl, ⟨hB, _, _, .inr rfl, by rw [blk_set hb2]; rfl, ?_⟩, ?_, ?_⟩
  · have : (w2.setCell ⟨wb, 1, none⟩ (.slice ao n' cap)).ownsRowF B 5 1 (.slice ao n' cap) (x.length + s.size) (Lib.byteCells x ++ Lib.strCells s) := own_set hown' hb2 1
    rw [strCells_bytes] at this
    simpa [Lib.byteCells] using this
  · exact (hk1.b.grown hgrow (by have := hk1.b.size; omega) (fun k hk => (hown.lt k hk).1)).setCell (p := ⟨wb, 1, none⟩) hB _
  · exact (hk1.o.grown hgrow (Lib.ownsRowF_kind hown)).setCell ⟨wb, 1, none⟩ rfl _
theorem freeze_other (w : World) (g n k : Nat) (h : k ≠ g) : (w.freeze ⟨g, 0, none⟩ n).heap[k]? = w.heap[k]? := by
  unfold World.freeze
  split
  · rfl
  · simp [Array.getElem?_modify, Ne.symm h]
theorem cells5 : Tryz.prog.cellsOf 5 = 1 := by kernel_rfl
set_option maxHeartbeats 2000000 in
set_option maxRecDepth 100000 in
theorem string_any (B wb : Nat) (x : List UInt8) (d m : Nat) (w : World) (h : WB w B wb x d m) (h0 : x ≠ []) :
    Calls Tryz.prog 104 #[ptr wb] w fun e w' => e = .returned (.string ⟨x.toArray⟩) ∧ w'.heap[wb]? = w.heap[wb]? ∧ Below B w w' := by
  obtain ⟨hB, p, v, hp, hbk, hown⟩ := h
  have hl0 : x.length ≠ 0 := by simpa using h0
  have hne := Lib.ownBlock_neF hown hbk (by decide)
  obtain ⟨g, cap, cur, fz, rfl, hbg, hg, hfz, hnc, hcm, hcs, htake⟩ : ∃ g cap cur fz, v = .slice (some ⟨g, 0, none⟩) x.length cap ∧ B ≤ g ∧ w.heap[g]? = some (.cells cur 5 fz) ∧ fz.2 ≤ x.length * 1 ∧ x.length ≤ cap ∧ cap ≤ maxLen ∧ cur.size = cap * 1 ∧ cur.toList.take (x.length * 1) = Lib.byteCells x := by
    rcases hown.2 with ⟨_, hz⟩ | ⟨g, cap, cur, fz, hv, r⟩
    · exact absurd hz hl0
    · exact ⟨g, cap, cur, fz, hv, r⟩
  have hgne : wb ≠ g := fun e => hne (by rw [e]; rfl)
  have c1 : w.drew.cell? ⟨wb, 1, none⟩ = some (.slice (some ⟨g, 0, none⟩) x.length cap) := (cells4w (w := w.drew) hbk).1.2.1
  have hSD : (Builtin.unsafeSliceData_ #[139] 171 #[.slice (some ⟨g, 0, none⟩) x.length cap]).run Tryz.prog w.drew = .ok (.pointer (some ⟨g, 0, none⟩)) w.drew :=
    Lib.run_unsafeSliceData_row _ _ _ _ _ _ (by omega)
  have hUS : (Builtin.unsafeString_ #[171, 3] 9 #[.pointer (some ⟨g, 0, none⟩), .int .i64 x.length]).run Tryz.prog w.drew = .ok (.string ⟨x.toArray⟩) (w.drew.freeze ⟨g, 0, none⟩ x.length) := by
    refine Lib.run_unsafeString_row w.drew 171 3 9 5 Tryz.underlying171 cells5 g cur.size (by have hg' : w.drew.heap[g]? = some (.cells cur 5 fz) := hg; simp [World.shape?, hg']) x h0 (by omega) (by unfold maxLen at hcm; omega) ?_
    intro j y hy
    exact hown.cells (g := g) rfl j (.int .u8 y.toNat) (by simp [Lib.byteCells, hy])
  have hfin : (w.drew.freeze ⟨g, 0, none⟩ x.length).heap[wb]? = w.heap[wb]? ∧ Below B w (w.drew.freeze ⟨g, 0, none⟩ x.length) := ⟨freeze_other w.drew g _ wb hgne, Lib.below_freeze (Below.drew (Below.refl B w)) (p := ⟨g, 0, none⟩) hbg _⟩
  have mixed : Tryz.prog.follows Departure.mixedOrders = true := by kernel_rfl
  go_enter Tryz.func104, Tryz.ntmps104
  go_wp2
  go_region_o
  all_goals (go_wp2; go_ret; exact ⟨rfl, hfin⟩)
end Go.Proofs.YtoaejcppfmjhdaaGreatDoor.fm
/- A level deeper. Condition: lengths up to 2^47. -/
namespace Go.Proofs.YtoaejcppfmjhdaaGreatDoor.fm
open Go.RowKit
set_option maxHeartbeats 4000000 in
set_option maxRecDepth 100000 in
theorem deeper70 (B wb pb nb : Nat) (x y : List UInt8) (op sh : ByteArray) (d m ε : Nat) (w : World) (h : WB w B wb x d m) (hdm : d ≤ m) (hm : m + ε < 1000000) (hlen : x.length + op.size + y.length + sh.size ≤ 140737488355328) (hBw : B ≤ w.heap.size)
    (hin : ∀ w1, WB w1 B wb (x ++ op.data.toList) (d + 1) (max m (d + 1)) → Kw B wb w w1 → Calls Tryz.prog 142 #[ptr pb, ptr nb] w1 fun e w' => e = .returned (.tuple #[]) ∧ WB w' B wb (x ++ op.data.toList ++ y) (d + 1) (max (max m (d + 1)) (d + 1 + ε)) ∧ Kw B wb w1 w') :
    Calls Tryz.prog 141 #[ptr wb, .string op, .func (.func 142) #[] #[ptr pb, ptr nb], .string sh] w fun e w' => e = .returned (.tuple #[]) ∧ WB w' B wb (x ++ op.data.toList ++ y ++ sh.data.toList) d (max m (d + 1 + ε)) ∧ Kw B wb w w' := by
  have HIN : Hid (∀ w1, WB w1 B wb (x ++ op.data.toList) (d + 1) (max m (d + 1)) → Kw B wb w w1 → Calls Tryz.prog 142 #[ptr pb, ptr nb] w1 fun e w' => e = .returned (.tuple #[]) ∧ WB w' B wb (x ++ op.data.toList ++ y) (d + 1) (max (max m (d + 1)) (d + 1 + ε)) ∧ Kw B wb w1 w') := hin
  clear hin
  have hB := h.ge
  obtain ⟨⟨c2, c3⟩, f2, f3⟩ := h.cells
  have h1 := h.setD (d + 1)
  have k1 := (Kw.refl B wb w).set hB 2 (.int .i64 ((d : Int) + 1))
  obtain ⟨⟨b2, b3⟩, e2, e3⟩ := h1.cells
  rw [show ((d + 1 : Nat) : Int) = (d : Int) + 1 from by omega] at h1 b2 b3 e2 e3
  have hd6 : (d : Int) < 1000000 := by omega
  have hm6 : (m : Int) < 1000000 := by omega
  go_enter Tryz.func141, Tryz.ntmps141
  go_wp2_with fail
  generalize w.setCell ⟨wb, 2, none⟩ (.int .i64 ((d : Int) + 1)) = w0 at *
  clear c2 c3 f2 f3
  go_region
  have h2 := (h1.setM (max m (d + 1))).drew
  have k2 := (k1.set hB 3 (.int .i64 (max (m : Int) ((d : Int) + 1)))).drew
  rw [show ((max m (d + 1) : Nat) : Int) = max (m : Int) ((d : Int) + 1) from by omega] at h2
  clear b2 b3 e2 e3 h1 k1
  generalize (w0.setCell ⟨wb, 3, none⟩ (.int .i64 (max (m : Int) ((d : Int) + 1)))).drew = w1 at *
  go_wp2_with fail
  have s2 := k2.b.size
  refine (write_any B wb x _ _ op w1 h2 (by omega) (by omega)).mono ?_
  rintro e w2 ⟨rfl, h3, k3⟩
  have k23 := k2.trans k3
  go_wp2_with fail
  refine (HIN.out _ h3 k23).mono ?_
  rintro e w3 ⟨rfl, h4, k4⟩
  have k24 := k23.trans k4
  have s4 := k24.b.size
  go_wp2_with fail
  refine (write_any B wb _ _ _ sh w3 h4 (by simp only [List.length_append, Array.length_toList]; have e1 : op.size = op.data.size := rfl; omega) (by omega)).mono ?_
  rintro e w4 ⟨rfl, h5, k5⟩
  have k25 := k24.trans k5
  obtain ⟨⟨c2, c3⟩, f2, f3⟩ := h5.cells
  rw [show ((d + 1 : Nat) : Int) = (d : Int) + 1 from by omega] at c2
  have hd7 : (d : Int) + 1 - 1 = (d : Int) := by omega
  go_wp2_with fail
  go_end0
  refine ⟨rfl, ?_, ?_⟩
  · have := h5.setD d
    rw [show max (max m (d + 1)) (d + 1 + ε) = max m (d + 1 + ε) from by omega] at this
    exact this
  · exact k25.set hB 2 _
set_option maxHeartbeats 4000000 in
set_option maxRecDepth 100000 in
theorem deeper72 (B wb pb nb : Nat) (x y : List UInt8) (op sh : ByteArray) (d m ε : Nat) (w : World) (h : WB w B wb x d m) (hdm : d ≤ m) (hm : m + ε < 1000000) (hlen : x.length + op.size + y.length + sh.size ≤ 140737488355328) (hBw : B ≤ w.heap.size)
    (hin : ∀ w1, WB w1 B wb (x ++ op.data.toList) (d + 1) (max m (d + 1)) → Kw B wb w w1 → Calls Tryz.prog 144 #[ptr pb, ptr nb] w1 fun e w' => e = .returned (.tuple #[]) ∧ WB w' B wb (x ++ op.data.toList ++ y) (d + 1) (max (max m (d + 1)) (d + 1 + ε)) ∧ Kw B wb w1 w') :
    Calls Tryz.prog 141 #[ptr wb, .string op, .func (.func 144) #[] #[ptr pb, ptr nb], .string sh] w fun e w' => e = .returned (.tuple #[]) ∧ WB w' B wb (x ++ op.data.toList ++ y ++ sh.data.toList) d (max m (d + 1 + ε)) ∧ Kw B wb w w' := by
  have HIN : Hid (∀ w1, WB w1 B wb (x ++ op.data.toList) (d + 1) (max m (d + 1)) → Kw B wb w w1 → Calls Tryz.prog 144 #[ptr pb, ptr nb] w1 fun e w' => e = .returned (.tuple #[]) ∧ WB w' B wb (x ++ op.data.toList ++ y) (d + 1) (max (max m (d + 1)) (d + 1 + ε)) ∧ Kw B wb w1 w') := hin
  clear hin
  have hB := h.ge
  obtain ⟨⟨c2, c3⟩, f2, f3⟩ := h.cells
  have h1 := h.setD (d + 1)
  have k1 := (Kw.refl B wb w).set hB 2 (.int .i64 ((d : Int) + 1))
  obtain ⟨⟨b2, b3⟩, e2, e3⟩ := h1.cells
  rw [show ((d + 1 : Nat) : Int) = (d : Int) + 1 from by omega] at h1 b2 b3 e2 e3
  have hd6 : (d : Int) < 1000000 := by omega
  have hm6 : (m : Int) < 1000000 := by omega
  go_enter Tryz.func141, Tryz.ntmps141
  go_wp2_with fail
  generalize w.setCell ⟨wb, 2, none⟩ (.int .i64 ((d : Int) + 1)) = w0 at *
  clear c2 c3 f2 f3
  go_region
  have h2 := (h1.setM (max m (d + 1))).drew
  have k2 := (k1.set hB 3 (.int .i64 (max (m : Int) ((d : Int) + 1)))).drew
  rw [show ((max m (d + 1) : Nat) : Int) = max (m : Int) ((d : Int) + 1) from by omega] at h2
  clear b2 b3 e2 e3 h1 k1
  generalize (w0.setCell ⟨wb, 3, none⟩ (.int .i64 (max (m : Int) ((d : Int) + 1)))).drew = w1 at *
  go_wp2_with fail
  have s2 := k2.b.size
  refine (write_any B wb x _ _ op w1 h2 (by omega) (by omega)).mono ?_
  rintro e w2 ⟨rfl, h3, k3⟩
  have k23 := k2.trans k3
  go_wp2_with fail
  refine (HIN.out _ h3 k23).mono ?_
  rintro e w3 ⟨rfl, h4, k4⟩
  have k24 := k23.trans k4
  have s4 := k24.b.size
  go_wp2_with fail
  refine (write_any B wb _ _ _ sh w3 h4 (by simp only [List.length_append, Array.length_toList]; have e1 : op.size = op.data.size := rfl; omega) (by omega)).mono ?_
  rintro e w4 ⟨rfl, h5, k5⟩
  have k25 := k24.trans k5
  obtain ⟨⟨c2, c3⟩, f2, f3⟩ := h5.cells
  rw [show ((d + 1 : Nat) : Int) = (d : Int) + 1 from by omega] at c2
  have hd7 : (d : Int) + 1 - 1 = (d : Int) := by omega
  go_wp2_with fail
  go_end0
  refine ⟨rfl, ?_, ?_⟩
  · have := h5.setD d
    rw [show max (max m (d + 1)) (d + 1 + ε) = max m (d + 1 + ε) from by omega] at this
    exact this
  · exact k25.set hB 2 _
set_option maxHeartbeats 4000000 in
set_option maxRecDepth 100000 in
theorem deeper95 (B wb pb nb : Nat) (x y : List UInt8) (op sh : ByteArray) (d m ε : Nat) (w : World) (h : WB w B wb x d m) (hdm : d ≤ m) (hm : m + ε < 1000000) (hlen : x.length + op.size + y.length + sh.size ≤ 140737488355328) (hBw : B ≤ w.heap.size)
    (hin : ∀ w1, WB w1 B wb (x ++ op.data.toList) (d + 1) (max m (d + 1)) → Kw B wb w w1 → Calls Tryz.prog 227 #[ptr pb, ptr nb] w1 fun e w' => e = .returned (.tuple #[]) ∧ WB w' B wb (x ++ op.data.toList ++ y) (d + 1) (max (max m (d + 1)) (d + 1 + ε)) ∧ Kw B wb w1 w') :
    Calls Tryz.prog 141 #[ptr wb, .string op, .func (.func 227) #[] #[ptr pb, ptr nb], .string sh] w fun e w' => e = .returned (.tuple #[]) ∧ WB w' B wb (x ++ op.data.toList ++ y ++ sh.data.toList) d (max m (d + 1 + ε)) ∧ Kw B wb w w' := by
  have HIN : Hid (∀ w1, WB w1 B wb (x ++ op.data.toList) (d + 1) (max m (d + 1)) → Kw B wb w w1 → Calls Tryz.prog 227 #[ptr pb, ptr nb] w1 fun e w' => e = .returned (.tuple #[]) ∧ WB w' B wb (x ++ op.data.toList ++ y) (d + 1) (max (max m (d + 1)) (d + 1 + ε)) ∧ Kw B wb w1 w') := hin
  clear hin
  have hB := h.ge
  obtain ⟨⟨c2, c3⟩, f2, f3⟩ := h.cells
  have h1 := h.setD (d + 1)
  have k1 := (Kw.refl B wb w).set hB 2 (.int .i64 ((d : Int) + 1))
  obtain ⟨⟨b2, b3⟩, e2, e3⟩ := h1.cells
  rw [show ((d + 1 : Nat) : Int) = (d : Int) + 1 from by omega] at h1 b2 b3 e2 e3
  have hd6 : (d : Int) < 1000000 := by omega
  have hm6 : (m : Int) < 1000000 := by omega
  go_enter Tryz.func141, Tryz.ntmps141
  go_wp2_with fail
  generalize w.setCell ⟨wb, 2, none⟩ (.int .i64 ((d : Int) + 1)) = w0 at *
  clear c2 c3 f2 f3
  go_region
  have h2 := (h1.setM (max m (d + 1))).drew
  have k2 := (k1.set hB 3 (.int .i64 (max (m : Int) ((d : Int) + 1)))).drew
  rw [show ((max m (d + 1) : Nat) : Int) = max (m : Int) ((d : Int) + 1) from by omega] at h2
  clear b2 b3 e2 e3 h1 k1
  generalize (w0.setCell ⟨wb, 3, none⟩ (.int .i64 (max (m : Int) ((d : Int) + 1)))).drew = w1 at *
  go_wp2_with fail
  have s2 := k2.b.size
  refine (write_any B wb x _ _ op w1 h2 (by omega) (by omega)).mono ?_
  rintro e w2 ⟨rfl, h3, k3⟩
  have k23 := k2.trans k3
  go_wp2_with fail
  refine (HIN.out _ h3 k23).mono ?_
  rintro e w3 ⟨rfl, h4, k4⟩
  have k24 := k23.trans k4
  have s4 := k24.b.size
  go_wp2_with fail
  refine (write_any B wb _ _ _ sh w3 h4 (by simp only [List.length_append, Array.length_toList]; have e1 : op.size = op.data.size := rfl; omega) (by omega)).mono ?_
  rintro e w4 ⟨rfl, h5, k5⟩
  have k25 := k24.trans k5
  obtain ⟨⟨c2, c3⟩, f2, f3⟩ := h5.cells
  rw [show ((d + 1 : Nat) : Int) = (d : Int) + 1 from by omega] at c2
  have hd7 : (d : Int) + 1 - 1 = (d : Int) := by omega
  go_wp2_with fail
  go_end0
  refine ⟨rfl, ?_, ?_⟩
  · have := h5.setD d
    rw [show max (max m (d + 1)) (d + 1 + ε) = max m (d + 1 + ε) from by omega] at this
    exact this
  · exact k25.set hB 2 _
end Go.Proofs.YtoaejcppfmjhdaaGreatDoor.fm
/- The text of a node without kids. Conditions: the package variables as the program's text lays them; the node can be written. -/
namespace Go.Proofs.YtoaejcppfmjhdaaGreatDoor.fm
open Go.RowKit
theorem rep_dbl : ∀ l : List UInt8, Lib.replaceK [34] [34, 34] (Lib.count l [34]) l = dbl l
  | [] => by decide
  | c :: l => by
    have ih := rep_dbl l
    by_cases hc : c = 34
    · subst hc
      have hi : Lib.index (34 :: l) [34] = ((0 : Nat) : Int) := by simp [Lib.index, List.isPrefixOf]
      rw [Lib.count_cons_eq, Nat.add_comm, Lib.replaceK_hit _ _ _ _ 0 hi]
      show [] ++ [34, 34] ++ Lib.replaceK [34] [34, 34] (Lib.count l [34]) l = _
      rw [ih]; simp [dbl]
    · rw [Lib.count_cons_ne _ _ _ hc]
      unfold dbl
      rw [if_neg hc]
      cases hk : Lib.count l [34] with
      | zero => rw [hk] at ih; rw [Lib.replaceK] at ih ⊢; rw [← ih]
      | succ k =>
        obtain ⟨i, hi⟩ := Lib.index_of_count (s := l) (old := [34]) (by omega)
        have hi2 : Lib.index (c :: l) [34] = ((i + 1 : Nat) : Int) := by
          rw [Lib.index, if_neg (by simp [List.isPrefixOf, Ne.symm hc]), hi, if_neg (by simp)]
          omega
        rw [hk, Lib.replaceK_hit _ _ _ _ i hi] at ih
        rw [Lib.replaceK_hit _ _ _ _ (i + 1) hi2, ← ih]
        simp
theorem repAll_dbl (l : List UInt8) : Lib.replaceAll l [34] [34, 34] = dbl l := by
  unfold Lib.replaceAll Lib.replace Lib.replaceNum
  rw [if_neg (by decide), if_pos (by omega)]
  exact rep_dbl l
theorem dbl_le (l : List UInt8) : (dbl l).length ≤ 2 * l.length := by
  induction l with
  | nil => simp [dbl]
  | cons c l ih => unfold dbl; split <;> simp <;> omega
/-- What the writer reads of the package variables. -/
structure EnvW (w : World) : Prop where
  f : EnvF w
  m : ∃ m, w.cell? ⟨2, 0, none⟩ = some (.int .i64 m)
theorem EnvW.below {w w' : World} {B : Nat} (h : EnvW w) (hb : Below B w w') (hB : 9 < B) : EnvW w' :=
  ⟨h.f.below hb hB, by obtain ⟨m, hm⟩ := h.m; exact ⟨m, by rw [hb.cell (p := ⟨2, 0, none⟩) (show 2 < B by omega)]; exact hm⟩⟩
theorem EnvW.lt {w : World} (h : EnvW w) : 9 < w.heap.size := h.f.env.size
theorem EnvW.next {w w' : World} (h : EnvW w) (hb : Below w.heap.size w w') : EnvW w' := h.below hb h.lt
abbrev nkd (k n : Int) (s : ByteArray) (r t : Rf) (p : Option Addr) (m c : Nat) : Value := NV k n s r t (.slice p m c)
theorem refText_any (r : Rf) (w : World) (h : adr.isC r.c r.r = true) :
    Calls Tryz.prog 229 #[RV r] w fun e w' => e = .returned (.string ⟨(ink.ref r).toArray⟩) ∧ Below w.heap.size w w' := by
  have hb0 : Below w.heap.size w (w.alloc (.cells #[.int .i64 r.c, .int .i64 r.r, .bool r.fc, .bool r.fr] 25)) := (Below.refl _ _).alloc (Nat.le_refl _) _
  obtain ⟨a0, a1, a2, a3⟩ := cells4 (blk_new w (.cells #[.int .i64 r.c, .int .i64 r.r, .bool r.fc, .bool r.fr] 25))
  have hnm : adr.nm r.c r.r r.fc r.fr = ⟨(ink.ref r).toArray⟩ := by
    apply ByteArray.ext
    apply Array.ext'
    rw [adr.nm_list r.fc r.fr h]
    rfl
  have HC := fun w => adr.refName_yes r.c r.r r.fc r.fr h w
  rw [hnm] at HC
  clear hnm
  go_enter Tryz.func229, Tryz.ntmps229
  go_wp2_with fail
  refine (HC _).mono ?_
  rintro e w1 ⟨rfl, hb1⟩
  go_wp2_with fail
  go_ret
  exact ⟨rfl, bnext hb0 hb1 hb0.size⟩
theorem leaf_num (n : Int) (s : ByteArray) (r t : Rf) (p : Option Addr) (m c : Nat) (w : World) (hE : EnvW w) (h0 : 0 ≤ n) (h1 : n ≤ 9223372036854775807) :
    Calls Tryz.prog 146 #[NV 1 n s r t (.slice p m c)] w fun e w' => e = .returned (.string ⟨(ink.num n).toArray⟩) ∧ Below w.heap.size w w' := by
  have hb0 : Below w.heap.size w (w.alloc (.cells (N12 1 n s r t (.slice p m c)) 28)) := (Below.refl _ _).alloc (Nat.le_refl _) _
  obtain ⟨⟨a0, a1, a2, a3, a4, a5, a6, a7, a8, a9, a10, a11⟩, af⟩ := cells12 (blk_new w (.cells (N12 1 n s r t (.slice p m c)) 28))
  have hE0 := (hE.next hb0).f.env
  have HC := itoa_any n _ (by omega) h1 hE0
  clear hE hE0
  go_enter Tryz.func146, Tryz.ntmps146
  go_wp2_with fail
  refine HC.mono ?_
  rintro e w1 ⟨rfl, hb1⟩
  go_wp2_with fail
  go_ret
  exact ⟨rfl, bnext hb0 hb1 hb0.size⟩
theorem leaf_text (n : Int) (s : ByteArray) (r t : Rf) (p : Option Addr) (m c : Nat) (w : World) (hE : EnvW w) (hs : s.size ≤ 200) :
    Calls Tryz.prog 146 #[NV 2 n s r t (.slice p m c)] w fun e w' => e = .returned (.string ⟨(34 :: (dbl s.data.toList ++ [34])).toArray⟩) ∧ Below w.heap.size w w' := by
  have hb0 : Below w.heap.size w (w.alloc (.cells (N12 2 n s r t (.slice p m c)) 28)) := (Below.refl _ _).alloc (Nat.le_refl _) _
  obtain ⟨⟨a0, a1, a2, a3, a4, a5, a6, a7, a8, a9, a10, a11⟩, af⟩ := cells12 (blk_new w (.cells (N12 2 n s r t (.slice p m c)) 28))
  obtain ⟨mm, hm⟩ := (hE.next hb0).m
  have hcb : Lib.countB s ⟨#[34]⟩ * (⟨#[34, 34]⟩ : ByteArray).size ≤ 1000 := by
    have h1 : Lib.countB s ⟨#[34]⟩ ≤ s.data.toList.length + 1 := Lib.count_le _ _
    have h2 : s.data.toList.length = s.size := by simp
    have h3 : (⟨#[34, 34]⟩ : ByteArray).size = 2 := rfl
    rw [h3]
    omega
  have HC := Tryz.strings_ReplaceAll s ⟨#[34]⟩ ⟨#[34, 34]⟩ mm _ (by omega) hm (by decide) (by omega)
  rw [show (⟨#[34]⟩ : ByteArray).data.toList = [34] from rfl, show (⟨#[34, 34]⟩ : ByteArray).data.toList = [34, 34] from rfl, repAll_dbl] at HC
  have hdl := dbl_le s.data.toList
  have hsz : (⟨(dbl s.data.toList).toArray⟩ : ByteArray).size ≤ 400 := by
    show (dbl s.data.toList).toArray.size ≤ 400
    simp at hdl ⊢
    have : s.data.size = s.size := rfl
    omega
  have HR : Hid (((⟨#[34]⟩ : ByteArray) ++ ⟨(dbl s.data.toList).toArray⟩) ++ ⟨#[34]⟩ = ⟨(34 :: (dbl s.data.toList ++ [34])).toArray⟩) := by
    unfold Hid
    apply ByteArray.ext
    simp [ByteArray.data_append]
  obtain ⟨D, hD⟩ : ∃ D : ByteArray, ⟨(dbl s.data.toList).toArray⟩ = D := ⟨_, rfl⟩
  rw [hD] at HC hsz HR
  clear hD hE hm hcb hdl
  go_enter Tryz.func146, Tryz.ntmps146
  go_wp2_with fail
  refine HC.mono ?_
  rintro e w1 ⟨rfl, hb1⟩
  have q1 : ¬ 9223372036854775807 < (⟨#[34]⟩ : ByteArray).size + D.size := by have : (⟨#[34]⟩ : ByteArray).size = 1 := rfl; omega
  have q2 : ¬ 9223372036854775807 < (⟨#[34]⟩ : ByteArray).size + D.size + (⟨#[34]⟩ : ByteArray).size := by have : (⟨#[34]⟩ : ByteArray).size = 1 := rfl; omega
  go_wp2_with fail
  go_ret
  exact ⟨by rw [← HR.out]; rfl, bnext hb0 hb1 hb0.size⟩
theorem leaf_truth (n : Int) (s : ByteArray) (r t : Rf) (p : Option Addr) (m c : Nat) (w : World) (hn : n = 0 ∨ n = 1) :
    Calls Tryz.prog 146 #[NV 3 n s r t (.slice p m c)] w fun e w' => e = .returned (.string ⟨(truT n).toArray⟩) ∧ Below w.heap.size w w' := by
  have hb0 : Below w.heap.size w (w.alloc (.cells (N12 3 n s r t (.slice p m c)) 28)) := (Below.refl _ _).alloc (Nat.le_refl _) _
  obtain ⟨⟨a0, a1, a2, a3, a4, a5, a6, a7, a8, a9, a10, a11⟩, af⟩ := cells12 (blk_new w (.cells (N12 3 n s r t (.slice p m c)) 28))
  have HC := fun w => show_tru 3 n nul w rfl rfl rfl
  have ht : truText n = ⟨(truT n).toArray⟩ := by rcases hn with rfl | rfl <;> rfl
  rw [ht] at HC
  clear ht
  go_enter Tryz.func146, Tryz.ntmps146
  go_wp2_with fail
  refine (HC _).mono ?_
  rintro e w1 ⟨rfl, hb1⟩
  go_wp2_with fail
  go_ret
  exact ⟨rfl, bnext hb0 hb1 hb0.size⟩
theorem leaf_bad (n : Nat) (s : ByteArray) (r t : Rf) (p : Option Addr) (m c : Nat) (w : World) (hE : EnvW w) (h1 : 1 ≤ n) (h6 : n ≤ 6) :
    Calls Tryz.prog 146 #[NV 4 n s r t (.slice p m c)] w fun e w' => e = .returned (.string ⟨(badT n).toArray⟩) ∧ Below w.heap.size w w' := by
  have hb0 : Below w.heap.size w (w.alloc (.cells (N12 4 n s r t (.slice p m c)) 28)) := (Below.refl _ _).alloc (Nat.le_refl _) _
  obtain ⟨⟨a0, a1, a2, a3, a4, a5, a6, a7, a8, a9, a10, a11⟩, af⟩ := cells12 (blk_new w (.cells (N12 4 n s r t (.slice p m c)) 28))
  have hE0 := (hE.next hb0).f.env
  have HC := show_bad 4 n nul _ rfl rfl rfl rfl hE0
  have ht : badText n = ⟨(badT n).toArray⟩ := by
    have hc : n = 1 ∨ n = 2 ∨ n = 3 ∨ n = 4 ∨ n = 5 ∨ n = 6 := by omega
    rcases hc with rfl | rfl | rfl | rfl | rfl | rfl <;> rfl
  rw [ht] at HC
  clear ht hE hE0
  go_enter Tryz.func146, Tryz.ntmps146
  go_wp2_with fail
  refine HC.mono ?_
  rintro e w1 ⟨rfl, hb1⟩
  go_wp2_with fail
  go_ret
  exact ⟨rfl, bnext hb0 hb1 hb0.size⟩
theorem leaf_ref (n : Int) (s : ByteArray) (r t : Rf) (p : Option Addr) (m c : Nat) (w : World) (h : adr.isC r.c r.r = true) :
    Calls Tryz.prog 146 #[NV 5 n s r t (.slice p m c)] w fun e w' => e = .returned (.string ⟨(ink.ref r).toArray⟩) ∧ Below w.heap.size w w' := by
  have hb0 : Below w.heap.size w (w.alloc (.cells (N12 5 n s r t (.slice p m c)) 28)) := (Below.refl _ _).alloc (Nat.le_refl _) _
  obtain ⟨⟨a0, a1, a2, a3, a4, a5, a6, a7, a8, a9, a10, a11⟩, af⟩ := cells12 (blk_new w (.cells (N12 5 n s r t (.slice p m c)) 28))
  have HC := fun w => refText_any r w h
  clear h
  go_enter Tryz.func146, Tryz.ntmps146
  go_wp2_with fail
  refine (HC _).mono ?_
  rintro e w1 ⟨rfl, hb1⟩
  go_wp2_with fail
  go_ret
  exact ⟨rfl, bnext hb0 hb1 hb0.size⟩
theorem ref_size (r : Rf) (h : adr.isC r.c r.r = true) : (⟨(ink.ref r).toArray⟩ : ByteArray).size ≤ 10 := by
  have e := adr.nm_list r.fc r.fr h
  obtain ⟨⟨h1, h2⟩, h3, h4⟩ := adr.isC_iff.1 h
  have h5 := adr.it_len (r := r.r.toNat) (by omega)
  show (ink.ref r).toArray.size ≤ 10
  unfold ink dollar
  simp only [List.size_toArray, List.length_append, List.length_cons]
  split <;> split <;> simp <;> omega
end Go.Proofs.YtoaejcppfmjhdaaGreatDoor.fm
/- The text of a box. Condition: its refs are cells. -/
namespace Go.Proofs.YtoaejcppfmjhdaaGreatDoor.fm
open Go.RowKit
/-- A node in its block, its refs opened. -/
abbrev Op8 (w : World) (k n : Int) (s : ByteArray) (r t : Rf) (v : Value) (wx : World) : Prop :=
  wx.cell? ⟨w.heap.size, 3, none⟩ = some (.int .i64 r.c) ∧ wx.cell? ⟨w.heap.size, 4, none⟩ = some (.int .i64 r.r) ∧ wx.cell? ⟨w.heap.size, 5, none⟩ = some (.bool r.fc) ∧ wx.cell? ⟨w.heap.size, 6, none⟩ = some (.bool r.fr) ∧ wx.cell? ⟨w.heap.size, 7, none⟩ = some (.int .i64 t.c) ∧ wx.cell? ⟨w.heap.size, 8, none⟩ = some (.int .i64 t.r) ∧ wx.cell? ⟨w.heap.size, 9, none⟩ = some (.bool t.fc) ∧ wx.cell? ⟨w.heap.size, 10, none⟩ = some (.bool t.fr) ∧ OB w w (N12 k n s r t v) wx
theorem Op8.mk {w : World} {k n : Int} {s : ByteArray} {r t : Rf} {v : Value} {wx : World} (h : OB w w (N12 k n s r t v) wx) : Op8 w k n s r t v wx := by
  obtain ⟨⟨a0, a1, a2, a3, a4, a5, a6, a7, a8, a9, a10, a11⟩, af⟩ := cells12 h.a
  exact ⟨a3, a4, a5, a6, a7, a8, a9, a10, h⟩
theorem op8_below {w : World} {k n : Int} {s : ByteArray} {r t : Rf} {v : Value} {wx wy : World} (h : Op8 w k n s r t v wx) (hb : Below wx.heap.size wx wy) : Op8 w k n s r t v wy :=
  .mk (h.2.2.2.2.2.2.2.2.next hb)
theorem op8_end {w : World} {k n : Int} {s : ByteArray} {r t : Rf} {v : Value} {wx : World} (h : Op8 w k n s r t v wx) : Below w.heap.size w wx := h.2.2.2.2.2.2.2.2.below
set_option maxHeartbeats 4000000 in
set_option maxRecDepth 100000 in
theorem leaf_box (n : Int) (s : ByteArray) (r t : Rf) (p : Option Addr) (m c : Nat) (w : World) (h : adr.isC r.c r.r = true) (h2 : adr.isC t.c t.r = true) :
    Calls Tryz.prog 146 #[NV 6 n s r t (.slice p m c)] w fun e w' => e = .returned (.string ⟨(ink.ref r ++ 58 :: ink.ref t).toArray⟩) ∧ Below w.heap.size w w' := by
  have hb0 : Below w.heap.size w (w.alloc (.cells (N12 6 n s r t (.slice p m c)) 28)) := (Below.refl _ _).alloc (Nat.le_refl _) _
  have hq0 := blk_new w (.cells (N12 6 n s r t (.slice p m c)) 28)
  obtain ⟨⟨a0, a1, a2, a3, a4, a5, a6, a7, a8, a9, a10, a11⟩, af⟩ := cells12 hq0
  have z1 := ref_size r h
  have z2 := ref_size t h2
  have HC1 : Hid (∀ w, Calls Tryz.prog 229 #[RV r] w fun e w' => e = .returned (.string ⟨(ink.ref r).toArray⟩) ∧ Below w.heap.size w w') := fun w => refText_any r w h
  have HC2 : Hid (∀ w, Calls Tryz.prog 229 #[RV t] w fun e w' => e = .returned (.string ⟨(ink.ref t).toArray⟩) ∧ Below w.heap.size w w') := fun w => refText_any t w h2
  have HR : Hid (((⟨(ink.ref r).toArray⟩ : ByteArray) ++ ⟨#[58]⟩) ++ ⟨(ink.ref t).toArray⟩ = ⟨(ink.ref r ++ 58 :: ink.ref t).toArray⟩) := by
    unfold Hid
    apply ByteArray.ext
    simp [ByteArray.data_append]
  obtain ⟨D, hD⟩ : ∃ D : ByteArray, ⟨(ink.ref r).toArray⟩ = D := ⟨_, rfl⟩
  obtain ⟨E, hE⟩ : ∃ E : ByteArray, ⟨(ink.ref t).toArray⟩ = E := ⟨_, rfl⟩
  rw [hD] at HC1 HR z1
  rw [hE] at HC2 HR z2
  clear hD hE h h2
  have q0 : (⟨#[58]⟩ : ByteArray).size = 1 := rfl
  have q1 : ¬ 9223372036854775807 < D.size + (⟨#[58]⟩ : ByteArray).size := by omega
  have q2 : ¬ 9223372036854775807 < D.size + (⟨#[58]⟩ : ByteArray).size + E.size := by omega
  have q3 : ¬ 9223372036854775807 < D.size + 1 := by omega
  have q4 : ¬ 9223372036854775807 < D.size + 1 + E.size := by omega
  clear q0
  have h0d : Op8 w 6 n s r t (.slice p m c) (w.alloc (.cells (N12 6 n s r t (.slice p m c)) 28)).drew := Op8.mk (OB.start (Below.refl _ _) _).drew
  clear hq0 hb0
  go_enter Tryz.func146, Tryz.ntmps146
  go_wp2_with fail
  clear a0 a1 a2 a11 af
  generalize hw0 : w.alloc _ = w0 at *
  clear hw0
  go_region_held3 (fun wx => Op8 w 6 n s r t (.slice p m c) wx) (first | with_reducible exact h0d | with_reducible assumption | exact op8_below (by with_reducible assumption) (by with_reducible assumption)) (first | (go_at_call 229; with_reducible refine (HC1.out _).mono ?_; rintro e wa ⟨rfl, ha⟩) | (go_at_call 229; with_reducible refine (HC2.out _).mono ?_; rintro e wa ⟨rfl, ha⟩))
  all_goals
    go_wp2_with fail
    go_ret
    exact ⟨by rw [← HR.out]; rfl, op8_end (by assumption)⟩
end Go.Proofs.YtoaejcppfmjhdaaGreatDoor.fm
/- Is a node one that can be written? Condition: numbers of 64 bits, lists of children below 2^47. -/
namespace Go.Proofs.YtoaejcppfmjhdaaGreatDoor.fm
open Go.RowKit
theorem wf_no {k n : Int} {s : ByteArray} {r t : Rf} {ts : List T} (hn : n ≤ 9223372036854775807) (h : ftB k n s r t ts.length = false ∨ hmB k n s r t ts.length = true) : ¬ Wf (.nd k n s r t ts) := fun hw => by
  have := ((wf_iff hn).1 hw).1
  rcases h with h | h
  · rw [h] at this; cases this.1
  · rw [h] at this; cases this.2
set_option maxRecDepth 100000 in
set_option maxHeartbeats 4000000 in
theorem isNode_any {w : World} {P : Nat → Prop} {v : Value} {t : T} (h : Nd w P v t) : Ok t → ∀ w1, Below w.heap.size w w1 →
    Calls Tryz.prog 101 #[v] w1 fun e w' => ∃ b, e = .returned (.bool b) ∧ (b = true ↔ Wf t) ∧ Below w1.heap.size w1 w' := by
  induction h with
  | @mk k n s r t p m c us ts hk hl hs ih =>
  intro hO w1 hb1
  have hm : m = ts.length := by rw [hk.1, hl]
  have hO1 : n ≤ 9223372036854775807 := by cases hO with | mk h1 h2 h3 => exact h1
  have hO2 : ts.length ≤ 9223372036854775807 := by cases hO with | mk h1 h2 h3 => exact h2
  have hO3 : ∀ (i : Nat) u, ts[i]? = some u → Ok u := by cases hO with | mk h1 h2 h3 => exact h3
  have HW : Hid (Wf (.nd k n s r t ts) ↔ (ftB k n s r t m = true ∧ hmB k n s r t m = false) ∧ ∀ (i : Nat) u, ts[i]? = some u → (u.kd ≠ 6 ∨ k = 9) ∧ Wf u) := by rw [hm]; exact wf_iff hO1
  have hS0 := OB.start hb1 (N12 k n s r t (.slice p m c))
  clear hO hO1
  have HK : Hid (Kids w P p m c us) := hk
  have HL : Hid (us.length = ts.length) := hl
  have HS : Hid (∀ (i : Nat) u t', us[i]? = some u → ts[i]? = some t' → Nd w P u t') := hs
  have HI : Hid (∀ (i : Nat) u t', us[i]? = some u → ts[i]? = some t' → Ok t' → ∀ w1, Below w.heap.size w w1 → Calls Tryz.prog 101 #[u] w1 fun e w' => ∃ b, e = .returned (.bool b) ∧ (b = true ↔ Wf t') ∧ Below w1.heap.size w1 w') := fun i u t' h1 h2 => ih i u t' h1 h2
  have HO3 : Hid (∀ (i : Nat) u, ts[i]? = some u → Ok u) := hO3
  have HM : Hid (m = ts.length) := hm
  have hB3 : m ≤ 9223372036854775807 := by omega
  clear hl hk hs ih hO3 hO2 hm
  obtain ⟨⟨a0, a1, a2, a3, a4, a5, a6, a7, a8, a9, a10, a11⟩, af⟩ := cells12 hS0.a
  go_enter Tryz.func101, Tryz.ntmps101
  go_wp2_with fail
  refine (fits_any k n s r t p m c _).mono ?_
  rintro e w2 ⟨rfl, hb2⟩
  have hS1 := hS0.next hb2
  clear a0 a1 a2 a3 a4 a5 a6 a7 a8 a9 a10 a11 af hS0 hb2
  generalize w1.alloc _ = w1a at *
  cases hf : ftB k n s r t m
  · have HF : Hid (ftB k n s r t m = false) := hf
    clear hf
    go_wp2_with fail
    go_ret
    refine ⟨_, rfl, ?_, hS1.below1⟩
    rw [HW.out, HF.out]; simp
  have HF : Hid (ftB k n s r t m = true) := hf
  clear hf
  obtain ⟨⟨a0, a1, a2, a3, a4, a5, a6, a7, a8, a9, a10, a11⟩, af⟩ := cells12 hS1.a
  go_wp2_with fail
  refine (more_any k n s r t p m c _).mono ?_
  rintro e w3 ⟨rfl, hb3⟩
  have hS2 := hS1.next hb3
  clear a0 a1 a2 a3 a4 a5 a6 a7 a8 a9 a10 a11 af hS1 hb3
  by_cases hh : hmB k n s r t m = true
  · have HH : Hid (hmB k n s r t m = true) := hh
    rw [hh]
    clear hh
    go_wp2_with fail
    go_ret
    refine ⟨_, rfl, ?_, hS2.below1⟩
    rw [HW.out, HH.out]; simp
  rw [Bool.not_eq_true] at hh
  have HH : Hid (hmB k n s r t m = false) := hh
  rw [hh]
  clear hh
  obtain ⟨⟨a0, a1, a2, a3, a4, a5, a6, a7, a8, a9, a10, a11⟩, af⟩ := cells12 hS2.a
  go_wp2_with fail
  clear a0 a1 a2 a3 a4 a5 a6 a7 a8 a9 a10 a11 af
  go_loopw [4, 15] (fun _ i wr => ∃ j : Nat, i = .int .i64 j ∧ j ≤ m ∧ OB w w1 (N12 k n s r t (.slice p m c)) wr ∧ ∀ (i : Nat) u, i < j → ts[i]? = some u → (u.kd ≠ 6 ∨ k = 9) ∧ Wf u) (fun _ i _ => m - (intOf i).toNat)
  case atStart => exact ⟨0, rfl, Nat.zero_le _, hS2, fun i u hi => absurd hi (Nat.not_lt_zero _)⟩
  case round =>
    clear hS2
    obtain ⟨j, rfl, hj, hS, hR⟩ := hrel
    have HR : Hid (∀ (i : Nat) u, i < j → ts[i]? = some u → (u.kd ≠ 6 ∨ k = 9) ∧ Wf u) := hR
    clear hR
    obtain ⟨⟨a0, _⟩, _⟩ := cells12 hS.a
    by_cases hlt : j < m
    · obtain ⟨g, o, u, t1, rfl, hg, hu, ht1, hc⟩ := kid_at HK.out HL.out HS.out j hlt
      have hN := HS.out j u t1 hu ht1
      have HC := HI.out j u t1 hu ht1 (HO3.out j t1 ht1)
      have e1 : ∀ jj x, u.cells.toList[jj]? = some x → wr.cell? ⟨g, o + j * 12 + jj, none⟩ = some x := fun jj x hx => by rw [hS.below.cell (p := ⟨g, _, none⟩) hg]; exact hc jj x hx
      clear HI hc
      have HCC : Hid (∀ w1, Below w.heap.size w w1 → Calls Tryz.prog 101 #[u] w1 fun e w' => ∃ b, e = .returned (.bool b) ∧ (b = true ↔ Wf t1) ∧ Below w1.heap.size w1 w') := HC
      clear HC
      have HT : Hid (ts[j]? = some t1) := ht1
      clear ht1
      cases hN with
      | @mk k1 n1 s1 ra rb p1 m1 q1 us1 ts1 _ _ _ =>
      have hlt' : (j : Int) < (m : Int) := by omega
      have hj' : (0 : Int) ≤ (j : Int) := by omega
      have x0 := e1 0 _ rfl
      have x1 := e1 1 _ rfl
      have x2 := e1 2 _ rfl
      have x3 := e1 3 _ rfl
      have x4 := e1 4 _ rfl
      have x5 := e1 5 _ rfl
      have x6 := e1 6 _ rfl
      have x7 := e1 7 _ rfl
      have x8 := e1 8 _ rfl
      have x9 := e1 9 _ rfl
      have x10 := e1 10 _ rfl
      have x11 := e1 11 _ rfl
      simp only [Nat.add_zero] at x0
      have hSa := hS.next ((Below.refl wr.heap.size wr).alloc (Nat.le_refl _) (.cells (N12 k1 n1 s1 ra rb (.slice p1 m1 q1)) 28))
      obtain ⟨⟨b0, _⟩, _⟩ := cells12 hSa.a
      clear e1
      by_cases h6 : k1 = 6 ∧ k ≠ 9
      · obtain ⟨rfl, h9⟩ := h6
        have H9 : Hid (k ≠ 9) := h9
        go_wp2_with fail
        go_ret
        refine ⟨_, rfl, ?_, hSa.below1⟩
        rw [HW.out]
        simp only [Bool.false_eq_true, false_iff, not_and]
        intro _ hall
        rcases (hall j _ HT.out).1 with h | h
        · exact h rfl
        · exact H9.out h
      · have H6 : Hid ((T.nd k1 n1 s1 ra rb ts1).kd ≠ 6 ∨ k = 9) := by
          unfold Hid
          by_cases e : k1 = 6
          · right; by_cases e2 : k = 9
            · exact e2
            · exact absurd ⟨e, e2⟩ h6
          · left; exact e
        by_cases h6' : k1 = 6
        · subst h6'
          have hk9 : k = 9 := by rcases H6.out with h | h; exact absurd rfl h; exact h
          subst hk9
          clear h6
          go_wp2_with fail
          refine (HCC.out _ hSa.below).mono ?_
          rintro e w3 ⟨b, rfl, hb, hb3⟩
          have HB : Hid (b = true ↔ Wf (T.nd 6 n1 s1 ra rb ts1)) := hb
          have hS3 := hSa.next hb3
          clear hb
          cases b
          · go_wp2_with fail
            go_ret
            refine ⟨_, rfl, ?_, hS3.below1⟩
            rw [HW.out]
            simp only [Bool.false_eq_true, false_iff, not_and]
            intro _ hall
            exact absurd (HB.out.2 (hall j _ HT.out).2) (by decide)
          · go_wp2_with fail
            refine ⟨⟨j + 1, by simp, hlt, hS3, fun i u hi hu2 => ?_⟩, by simp [intOf]; omega⟩
            by_cases e : i < j
            · exact ⟨.inr (by first | exact trivial | rfl), (HR.out i u e hu2).2⟩
            · obtain rfl : i = j := by omega
              rw [HT.out] at hu2
              cases hu2
              exact ⟨.inr (by first | exact trivial | rfl), HB.out.1 (by first | exact trivial | rfl)⟩
        · clear h6
          go_wp2_with fail
          refine (HCC.out _ hSa.below).mono ?_
          rintro e w3 ⟨b, rfl, hb, hb3⟩
          have HB : Hid (b = true ↔ Wf (T.nd k1 n1 s1 ra rb ts1)) := hb
          have hS3 := hSa.next hb3
          clear hb
          cases b
          · go_wp2_with fail
            go_ret
            refine ⟨_, rfl, ?_, hS3.below1⟩
            rw [HW.out]
            simp only [Bool.false_eq_true, false_iff, not_and]
            intro _ hall
            exact absurd (HB.out.2 (hall j _ HT.out).2) (by decide)
          · go_wp2_with fail
            refine ⟨⟨j + 1, by simp, hlt, hS3, fun i u hi hu2 => ?_⟩, by simp [intOf]; omega⟩
            by_cases e : i < j
            · exact HR.out i u e hu2
            · obtain rfl : i = j := by omega
              rw [HT.out] at hu2
              cases hu2
              exact ⟨H6.out, HB.out.1 (by first | exact trivial | rfl)⟩
    · have hkn : j = m := by omega
      subst hkn
      go_wp2_with fail
      go_ret
      refine ⟨_, rfl, ?_, hS.below1⟩
      rw [HW.out, HF.out, HH.out]
      simp only [true_iff, and_self, true_and]
      intro i u hu
      exact HR.out i u (by rw [HM.out]; exact (List.getElem?_eq_some_iff.1 hu).1) hu
end Go.Proofs.YtoaejcppfmjhdaaGreatDoor.fm
/- An operand is written: in brackets, if it is looser than asked for. Conditions: the package variables as the program's text lays them; lengths below a million. -/
namespace Go.Proofs.YtoaejcppfmjhdaaGreatDoor.fm
open Go.RowKit
theorem Kw.blk {B wb : Nat} {w w' : World} (h : Kw B wb w w') {b : Nat} {cs : Array Value} {t : TypeId} {f : Nat × Nat} (hb : w.heap[b]? = some (.cells cs t f)) (ht : t ≠ 5) (hne : b ≠ wb) : w'.heap[b]? = some (.cells cs t f) :=
  h.o b _ hb (fun e => hne (Option.some.inj e)) (fun c fz e => ht (by injection e))
/-- What a call of the writer's with a node writes. -/
def NodeOK (w0 : World) (v : Value) (x : List UInt8) (dp : Nat) : Prop := ∀ (w : World) (wb : Nat) (y : List UInt8) (d m : Nat), Below w0.heap.size w0 w → WB w w0.heap.size wb y d m → d ≤ m → m ≤ 500000 ∧ d + dp ≤ 500000 → y.length + x.length ≤ 1000000 →
  Calls Tryz.prog 103 #[ptr wb, v] w fun e w' => e = .returned (.tuple #[]) ∧ WB w' w0.heap.size wb (y ++ x) d (max m (d + dp)) ∧ Kw w0.heap.size wb w w'
def OpdOK (w0 : World) (v : Value) (l : Nat) (x : List UInt8) (dp : Nat) : Prop := ∀ (w : World) (wb : Nat) (y : List UInt8) (d m : Nat), Below w0.heap.size w0 w → WB w w0.heap.size wb y d m → d ≤ m → m ≤ 500000 ∧ d + dp ≤ 500000 → y.length + x.length ≤ 1000000 →
  Calls Tryz.prog 143 #[ptr wb, v, .int .i64 (l : Nat)] w fun e w' => e = .returned (.tuple #[]) ∧ WB w' w0.heap.size wb (y ++ x) d (max m (d + dp)) ∧ Kw w0.heap.size wb w w'
theorem clos95 (wb pb nb : Nat) (v : Value) (k n : Int) (s : ByteArray) (r t : Rf) (u : Value) (hv : v = NV k n s r t u) (w : World) (hp : w.heap[pb]? = some (.cells #[ptr wb] 166 (0, 0))) (hn : w.heap[nb]? = some (.cells (N12 k n s r t u) 28 (0, 0))) (Q : Ending → World → Prop)
    (h : Calls Tryz.prog 103 #[ptr wb, v] w fun e w' => e = .returned (.tuple #[]) ∧ Q e w') : Calls Tryz.prog 227 #[ptr pb, ptr nb] w fun e w' => e = .returned (.tuple #[]) ∧ Q e w' := by
  subst hv
  obtain ⟨p0, p1⟩ := cells1 hp
  obtain ⟨⟨a0, a1, a2, a3, a4, a5, a6, a7, a8, a9, a10, a11⟩, af⟩ := cells12 hn
  have HH : Hid (Calls Tryz.prog 103 #[ptr wb, NV k n s r t u] w fun e w' => e = .returned (.tuple #[]) ∧ Q e w') := h
  clear h
  go_enter Tryz.func227, Tryz.ntmps227
  go_wp2_with fail
  refine HH.out.mono ?_
  rintro e w1 ⟨rfl, hq⟩
  have HQ : Hid (Q (.returned (.tuple #[])) w1) := hq
  clear hq
  go_wp2_with fail
  go_end0
  exact ⟨rfl, HQ.out⟩
set_option maxHeartbeats 4000000 in
set_option maxRecDepth 100000 in
theorem opd_loose (w0 : World) (hE : EnvW w0) (op l : Nat) (h1 : 1 ≤ op) (h11 : op ≤ 11) (s : ByteArray) (r t : Rf) (p : Option Addr) (q c : Nat) (x : List UInt8) (dp : Nat) (hN : NodeOK w0 (NV 8 op s r t (.slice p q c)) x dp) (hl : lev op < l) : OpdOK w0 (NV 8 op s r t (.slice p q c)) l (40 :: (x ++ [41])) (dp + 1) := by
  intro w wb y d m hb hW hdm hm hlen
  have hEw := hE.below hb hE.lt
  have hB := hW.ge
  have hs0 := hb.size
  have hlt := hW.lt
  have hW2 := (hW.alloc (.cells #[ptr wb] 166)).alloc (.cells (N12 8 op s r t (.slice p q c)) 28)
  have kW2 : Kw w0.heap.size wb w ((w.alloc (.cells #[ptr wb] 166)).alloc (.cells (N12 8 op s r t (.slice p q c)) 28)) := ((Kw.refl _ _ _).alloc hs0 _).alloc (by simp; omega) _
  have hp2 : ((w.alloc (.cells #[ptr wb] 166)).alloc (.cells (N12 8 op s r t (.slice p q c)) 28)).heap[w.heap.size]? = some (.cells #[ptr wb] 166 (0, 0)) := by
    rw [Below.heap_alloc _ _ _ (by simp)]; exact blk_new _ _
  have hn2 : ((w.alloc (.cells #[ptr wb] 166)).alloc (.cells (N12 8 op s r t (.slice p q c)) 28)).heap[w.heap.size + 1]? = some (.cells (N12 8 op s r t (.slice p q c)) 28 (0, 0)) := by
    have := blk_new (w.alloc (.cells #[ptr wb] 166)) (.cells (N12 8 op s r t (.slice p q c)) 28)
    simpa using this
  have hE2 := hEw.below kW2.b hE.lt
  have hcell := (hE2.f.cell op (by omega)).2
  have hcell0 := (hEw.f.cell op (by omega)).2
  rw [show 2 * op + 1 = op * 2 + 1 from by omega] at hcell hcell0
  obtain ⟨p0, p1⟩ := cells1 hp2
  obtain ⟨⟨a0, a1, a2, a3, a4, a5, a6, a7, a8, a9, a10, a11⟩, af⟩ := cells12 hn2
  have hlv : opLv op = lev op := by
    have hc : op = 1 ∨ op = 2 ∨ op = 3 ∨ op = 4 ∨ op = 5 ∨ op = 6 ∨ op = 7 ∨ op = 8 ∨ op = 9 ∨ op = 10 ∨ op = 11 := by omega
    rcases hc with rfl | rfl | rfl | rfl | rfl | rfl | rfl | rfl | rfl | rfl | rfl <;> rfl
  have hl' : ((opLv op : Nat) : Int) < (l : Int) := by omega
  have i0 : (0 : Int) ≤ (op : Int) := by omega
  have i1 : (op : Int) < 12 := by omega
  have HD := deeper95 w0.heap.size wb w.heap.size (w.heap.size + 1) y x ⟨#[40]⟩ ⟨#[41]⟩ d m dp _ hW2 hdm (by omega) (by simp at hlen ⊢; have e1 : (⟨#[40]⟩ : ByteArray).size = 1 := rfl; have e2 : (⟨#[41]⟩ : ByteArray).size = 1 := rfl; omega) (by simp; omega) (fun w1 hW1 hk1 => by
    have hp1 := hk1.blk hp2 (by decide) (by omega)
    have hn1 := hk1.blk hn2 (by decide) (by omega)
    exact clos95 wb _ _ _ 8 op s r t _ rfl w1 hp1 hn1 (fun _ w' => WB w' w0.heap.size wb (y ++ (⟨#[40]⟩ : ByteArray).data.toList ++ x) (d + 1) (max (max m (d + 1)) (d + 1 + dp)) ∧ Kw w0.heap.size wb w1 w')
      (hN w1 wb _ (d + 1) (max m (d + 1)) ((hb.trans kW2.b).trans hk1.b) hW1 (by omega) (by omega) (by simp at hlen ⊢; omega)))
  have HDD : Hid (Calls Tryz.prog 141 #[ptr wb, .string ⟨#[40]⟩, .func (.func 227) #[] #[ptr w.heap.size, ptr (w.heap.size + 1)], .string ⟨#[41]⟩] ((w.alloc (.cells #[ptr wb] 166)).alloc (.cells (N12 8 op s r t (.slice p q c)) 28)) fun e w' => e = .returned (.tuple #[]) ∧ WB w' w0.heap.size wb (y ++ (⟨#[40]⟩ : ByteArray).data.toList ++ x ++ (⟨#[41]⟩ : ByteArray).data.toList) d (max m (d + 1 + dp)) ∧ Kw w0.heap.size wb ((w.alloc (.cells #[ptr wb] 166)).alloc (.cells (N12 8 op s r t (.slice p q c)) 28)) w') := HD
  have hmf : ∀ (fn : Fn) (first cap : Array Value) (w : World), (Instr.makeFunc fn first cap).run Tryz.prog w = .ok (.func fn first cap) w := fun _ _ _ _ => rfl
  have HK : Hid (Kw w0.heap.size wb w ((w.alloc (.cells #[ptr wb] 166)).alloc (.cells (N12 8 op s r t (.slice p q c)) 28))) := kW2
  clear HD hN hE hEw hE2 kW2 hW hW2 hp2 hn2 hb
  go_enter Tryz.func143, Tryz.ntmps143
  go_wp2_with fail
  refine HDD.out.mono ?_
  rintro e w3 ⟨rfl, h3, k3⟩
  go_wp2_with fail
  refine bodyPost_ret (v := .tuple #[]) (by simp [results, Tryz.results143]) rfl ⟨rfl, ?_, HK.out.trans k3⟩
  rw [show d + (dp + 1) = d + 1 + dp from by omega]
  simpa using h3
theorem opLv_lev {op : Nat} (h1 : 1 ≤ op) (h11 : op ≤ 11) : opLv op = lev op := by
  have hc : op = 1 ∨ op = 2 ∨ op = 3 ∨ op = 4 ∨ op = 5 ∨ op = 6 ∨ op = 7 ∨ op = 8 ∨ op = 9 ∨ op = 10 ∨ op = 11 := by omega
  rcases hc with rfl | rfl | rfl | rfl | rfl | rfl | rfl | rfl | rfl | rfl | rfl <;> rfl
set_option maxHeartbeats 4000000 in
set_option maxRecDepth 100000 in
theorem opd_tight (w0 : World) (hE : EnvW w0) (op l : Nat) (h1 : 1 ≤ op) (h11 : op ≤ 11) (s : ByteArray) (r t : Rf) (p : Option Addr) (q c : Nat) (x : List UInt8) (dp : Nat) (hN : NodeOK w0 (NV 8 op s r t (.slice p q c)) x dp) (hl : ¬ lev op < l) : OpdOK w0 (NV 8 op s r t (.slice p q c)) l x dp := by
  intro w wb y d m hb hW hdm hm hlen
  have hEw := hE.below hb hE.lt
  have hs0 := hb.size
  have hW2 := (hW.alloc (.cells #[ptr wb] 166)).alloc (.cells (N12 8 op s r t (.slice p q c)) 28)
  have kW2 : Kw w0.heap.size wb w ((w.alloc (.cells #[ptr wb] 166)).alloc (.cells (N12 8 op s r t (.slice p q c)) 28)) := ((Kw.refl _ _ _).alloc hs0 _).alloc (by simp; omega) _
  have hE2 := hEw.below kW2.b hE.lt
  have hcell := (hE2.f.cell op (by omega)).2
  have hcell0 := (hEw.f.cell op (by omega)).2
  rw [show 2 * op + 1 = op * 2 + 1 from by omega] at hcell hcell0
  have hlv := opLv_lev h1 h11
  have hl' : ¬ ((opLv op : Nat) : Int) < (l : Int) := by omega
  have i0 : (0 : Int) ≤ (op : Int) := by omega
  have i1 : (op : Int) < 12 := by omega
  have HC : Hid (Calls Tryz.prog 103 #[ptr wb, NV 8 op s r t (.slice p q c)] ((w.alloc (.cells #[ptr wb] 166)).alloc (.cells (N12 8 op s r t (.slice p q c)) 28)) fun e w' => e = .returned (.tuple #[]) ∧ WB w' w0.heap.size wb (y ++ x) d (max m (d + dp)) ∧ Kw w0.heap.size wb ((w.alloc (.cells #[ptr wb] 166)).alloc (.cells (N12 8 op s r t (.slice p q c)) 28)) w') := hN _ wb y d m (hb.trans kW2.b) hW2 hdm hm hlen
  have HK : Hid (Kw w0.heap.size wb w ((w.alloc (.cells #[ptr wb] 166)).alloc (.cells (N12 8 op s r t (.slice p q c)) 28))) := kW2
  clear hN hE hEw hE2 kW2 hW hW2 hb
  go_enter Tryz.func143, Tryz.ntmps143
  go_wp2_with fail
  refine HC.out.mono ?_
  rintro e w3 ⟨rfl, h3, k3⟩
  go_wp2_with fail
  go_end0
  exact ⟨rfl, h3, HK.out.trans k3⟩
set_option maxHeartbeats 4000000 in
set_option maxRecDepth 100000 in
theorem opd_plain (w0 : World) (k n : Int) (l : Nat) (h8 : ¬ k = 8) (s : ByteArray) (r t : Rf) (p : Option Addr) (q c : Nat) (x : List UInt8) (dp : Nat) (hN : NodeOK w0 (NV k n s r t (.slice p q c)) x dp) : OpdOK w0 (NV k n s r t (.slice p q c)) l x dp := by
  intro w wb y d m hb hW hdm hm hlen
  have hs0 := hb.size
  have hW2 := (hW.alloc (.cells #[ptr wb] 166)).alloc (.cells (N12 k n s r t (.slice p q c)) 28)
  have kW2 : Kw w0.heap.size wb w ((w.alloc (.cells #[ptr wb] 166)).alloc (.cells (N12 k n s r t (.slice p q c)) 28)) := ((Kw.refl _ _ _).alloc hs0 _).alloc (by simp; omega) _
  have HC : Hid (Calls Tryz.prog 103 #[ptr wb, NV k n s r t (.slice p q c)] ((w.alloc (.cells #[ptr wb] 166)).alloc (.cells (N12 k n s r t (.slice p q c)) 28)) fun e w' => e = .returned (.tuple #[]) ∧ WB w' w0.heap.size wb (y ++ x) d (max m (d + dp)) ∧ Kw w0.heap.size wb ((w.alloc (.cells #[ptr wb] 166)).alloc (.cells (N12 k n s r t (.slice p q c)) 28)) w') := hN _ wb y d m (hb.trans kW2.b) hW2 hdm hm hlen
  have HK : Hid (Kw w0.heap.size wb w ((w.alloc (.cells #[ptr wb] 166)).alloc (.cells (N12 k n s r t (.slice p q c)) 28))) := kW2
  clear hN kW2 hW hW2 hb
  go_enter Tryz.func143, Tryz.ntmps143
  go_wp2_with fail
  refine HC.out.mono ?_
  rintro e w3 ⟨rfl, h3, k3⟩
  go_wp2_with fail
  go_end0
  exact ⟨rfl, h3, HK.out.trans k3⟩
theorem brk_yes {l : Nat} {t : T} (h : loose l t = true) (x : List UInt8) (d : Nat) : brk l t x = 40 :: (x ++ [41]) ∧ brd l t d = d + 1 := by unfold brk brd; rw [h]; exact ⟨rfl, rfl⟩
theorem brk_no {l : Nat} {t : T} (h : loose l t = false) (x : List UInt8) (d : Nat) : brk l t x = x ∧ brd l t d = d := by unfold brk brd; rw [h]; exact ⟨rfl, rfl⟩
theorem loose_two (l op : Nat) (s : ByteArray) (r t : Rf) (ts : List T) : loose l (.nd 8 op s r t ts) = decide (lev op < l) := by
  unfold loose
  show (decide ((8 : Int) = 8) && decide (lev ((op : Int)).toNat < l)) = _
  rw [Int.toNat_natCast]; simp
theorem loose_not (l : Nat) {k : Int} (n : Int) (h : ¬ k = 8) (s : ByteArray) (r t : Rf) (ts : List T) : loose l (.nd k n s r t ts) = false := by
  unfold loose
  show (decide (k = 8) && _) = _
  rw [decide_eq_false h]; rfl
/-- Any operand. -/
theorem opd_any (w0 : World) (hE : EnvW w0) {P : Nat → Prop} {v : Value} {a : T} {x : List UInt8} {dp : Nat} (hNd : Nd w0 P v a) (hw : W ink a x dp) (hN : NodeOK w0 v x dp) (l : Nat) : OpdOK w0 v l (brk l a x) (brd l a dp) := by
  cases hNd with
  | @mk k n s r t p m c us ts hk hl hs =>
  by_cases h8 : k = 8
  · subst h8
    obtain ⟨op, rfl, h1, h11⟩ : ∃ op : Nat, n = (op : Int) ∧ 1 ≤ op ∧ op ≤ 11 := by
      cases hw with
      | two h1 h11 ha hb hx hy => exact ⟨_, rfl, h1, h11⟩
    by_cases hl : lev op < l
    · have e := brk_yes (by rw [loose_two, decide_eq_true hl] : loose l (.nd 8 op s r t ts) = true) x dp
      rw [e.1, e.2]
      exact opd_loose w0 hE op l h1 h11 _ _ _ _ _ _ _ _ hN hl
    · have e := brk_no (by rw [loose_two, decide_eq_false hl] : loose l (.nd 8 op s r t ts) = false) x dp
      rw [e.1, e.2]
      exact opd_tight w0 hE op l h1 h11 _ _ _ _ _ _ _ _ hN hl
  · have e := brk_no (loose_not l n h8 s r t ts) x dp
    rw [e.1, e.2]
    exact opd_plain w0 k n l h8 _ _ _ _ _ _ _ _ hN
end Go.Proofs.YtoaejcppfmjhdaaGreatDoor.fm
/- A node is written: leaves, what is negative. Conditions: the package variables as the program's text lays them; lengths below a million. -/
namespace Go.Proofs.YtoaejcppfmjhdaaGreatDoor.fm
open Go.RowKit
theorem Kw.of {B wb : Nat} {w w' : World} (h : Below w.heap.size w w') (hB : B ≤ w.heap.size) : Kw B wb w w' :=
  ⟨h.mono hB, fun b o hb _ _ => by rw [h.block b (Array.getElem?_eq_some_iff.1 hb).1]; exact hb⟩
theorem WB.below {w w' : World} {B wb : Nat} {x : List UInt8} {d m : Nat} (h : WB w B wb x d m) (hb : Below w.heap.size w w') : WB w' B wb x d m := by
  have hl := h.lt
  obtain ⟨hB, p, v, hp, h1, h2⟩ := h
  exact ⟨hB, p, v, hp, by rw [hb.block wb hl]; exact h1, h2.kept (row := none) ⟨hb.os, hb.tape, hb.output, hb.size, fun k hk _ => hb.block k hk⟩ (by cases hv : v.ownBlock <;> simp)⟩
theorem leaf_any (w : World) (hE : EnvW w) {k n : Int} {s : ByteArray} {r t : Rf} {ts : List T} {x : List UInt8} {dp : Nat} (h : W ink (.nd k n s r t ts) x dp) (h7 : ¬ k = 7) (h8 : ¬ k = 8) (h9 : ¬ k = 9) (p : Option Addr) (m c : Nat) :
    dp = 0 ∧ Calls Tryz.prog 146 #[NV k n s r t (.slice p m c)] w fun e w' => e = .returned (.string ⟨x.toArray⟩) ∧ Below w.heap.size w w' := by
  cases h with
  | num h0 h1 => exact ⟨rfl, leaf_num n _ _ _ p m c w hE h0 h1⟩
  | text h => exact ⟨rfl, leaf_text 0 s _ _ p m c w hE h⟩
  | truth h => exact ⟨rfl, leaf_truth n _ _ _ p m c w h⟩
  | bad h h6 => exact ⟨rfl, leaf_bad _ _ _ _ p m c w hE h h6⟩
  | ref h => exact ⟨rfl, leaf_ref 0 _ _ _ p m c w h⟩
  | box h h2 => exact ⟨rfl, leaf_box 0 _ _ _ p m c w h h2⟩
  | neg _ _ => exact absurd rfl h7
  | two _ _ _ _ _ _ => exact absurd rfl h8
  | call _ _ _ _ => exact absurd rfl h9
set_option maxHeartbeats 4000000 in
set_option maxRecDepth 100000 in
theorem node_leaf (w0 : World) (hE : EnvW w0) {k n : Int} {s : ByteArray} {r t : Rf} {ts : List T} {x : List UInt8} {dp : Nat} (h : W ink (.nd k n s r t ts) x dp) (h7 : ¬ k = 7) (h8 : ¬ k = 8) (h9 : ¬ k = 9) (p : Option Addr) (q c : Nat) : NodeOK w0 (NV k n s r t (.slice p q c)) x dp := by
  intro w wb y d m hb hW hdm hm hlen
  have hs0 := hb.size
  have hEw := hE.below hb hE.lt
  have hW2 := (hW.alloc (.cells #[ptr wb] 166)).alloc (.cells (N12 k n s r t (.slice p q c)) 28)
  have kW2 : Kw w0.heap.size wb w ((w.alloc (.cells #[ptr wb] 166)).alloc (.cells (N12 k n s r t (.slice p q c)) 28)) := ((Kw.refl _ _ _).alloc hs0 _).alloc (by simp; omega) _
  have hp2 : ((w.alloc (.cells #[ptr wb] 166)).alloc (.cells (N12 k n s r t (.slice p q c)) 28)).heap[w.heap.size]? = some (.cells #[ptr wb] 166 (0, 0)) := by
    rw [Below.heap_alloc _ _ _ (by simp)]; exact blk_new _ _
  have hn2 : ((w.alloc (.cells #[ptr wb] 166)).alloc (.cells (N12 k n s r t (.slice p q c)) 28)).heap[w.heap.size + 1]? = some (.cells (N12 k n s r t (.slice p q c)) 28 (0, 0)) := by
    have := blk_new (w.alloc (.cells #[ptr wb] 166)) (.cells (N12 k n s r t (.slice p q c)) 28)
    simpa using this
  have hE2 := hEw.below kW2.b hE.lt
  obtain ⟨rfl, _⟩ := leaf_any _ hE2 h h7 h8 h9 p q c
  have hE2d : EnvW (((w.alloc (.cells #[ptr wb] 166)).alloc (.cells (N12 k n s r t (.slice p q c)) 28)).drew) := hE2.below ((Below.refl _ _).drew) hE2.lt
  obtain ⟨_, HL⟩ := leaf_any _ hE2d h h7 h8 h9 p q c
  obtain ⟨⟨a0, a1, a2, a3, a4, a5, a6, a7, a8, a9, a10, a11⟩, af⟩ := cells12 hn2
  obtain ⟨p0, p1⟩ := cells1 hp2
  clear af p1
  have h7' : (k == 7) = false := by simpa using h7
  have h8' : (k == 8) = false := by simpa using h8
  have h9' : (k == 9) = false := by simpa using h9
  have hlt0 := hW.lt
  clear h hE hEw hE2 hE2d hW h7 h8 h9
  go_enter Tryz.func103, Tryz.ntmps103
  go_wp2_with fail
  generalize (w.alloc (.cells #[ptr wb] 166)).alloc _ = w2 at *
  have HLL : Hid (Calls Tryz.prog 146 #[NV k n s r t (.slice p q c)] w2.drew fun e w' => e = .returned (.string ⟨x.toArray⟩) ∧ Below w2.drew.heap.size w2.drew w') := HL
  have hs2 := kW2.b.size
  have HWR : Hid (∀ w3, Below w2.drew.heap.size w2.drew w3 → Calls Tryz.prog 102 #[ptr wb, .string ⟨x.toArray⟩] w3 fun e w' => e = .returned (.tuple #[.int .i64 (⟨x.toArray⟩ : ByteArray).size, .nilIface]) ∧ WB w' w0.heap.size wb (y ++ x) d m ∧ Kw w0.heap.size wb w2.drew w') := fun w3 hb3 => by
    have hs3 := hb3.size
    have e2 : w2.drew.heap.size = w2.heap.size := rfl
    refine (write_any w0.heap.size wb y d m ⟨x.toArray⟩ w3 (WB.below hW2.drew hb3) (by show y.length + x.toArray.size ≤ _; simp; omega) (by omega)).mono ?_
    rintro e w4 ⟨rfl, h4, k4⟩
    exact ⟨rfl, by simpa using h4, (Kw.of hb3 (by omega)).trans k4⟩
  have hw1 : w.heap.size ≠ wb := by have := hlt0; omega
  have hw2 : w.heap.size + 1 ≠ wb := by have := hlt0; omega
  have KK : Hid (∀ wx, Kw w0.heap.size wb w2.drew wx → wx.cell? ⟨w.heap.size, 0, none⟩ = some (ptr wb) ∧ wx.cell? ⟨w.heap.size + 1, 0, none⟩ = some (.int .i64 k) ∧ wx.cell? ⟨w.heap.size + 1, 1, none⟩ = some (.int .i64 n) ∧ wx.cell? ⟨w.heap.size + 1, 2, none⟩ = some (.string s) ∧ wx.cell? ⟨w.heap.size + 1, 3, none⟩ = some (.int .i64 r.c) ∧ wx.cell? ⟨w.heap.size + 1, 4, none⟩ = some (.int .i64 r.r) ∧ wx.cell? ⟨w.heap.size + 1, 5, none⟩ = some (.bool r.fc) ∧ wx.cell? ⟨w.heap.size + 1, 6, none⟩ = some (.bool r.fr) ∧ wx.cell? ⟨w.heap.size + 1, 7, none⟩ = some (.int .i64 t.c) ∧ wx.cell? ⟨w.heap.size + 1, 8, none⟩ = some (.int .i64 t.r) ∧ wx.cell? ⟨w.heap.size + 1, 9, none⟩ = some (.bool t.fc) ∧ wx.cell? ⟨w.heap.size + 1, 10, none⟩ = some (.bool t.fr) ∧ wx.cell? ⟨w.heap.size + 1, 11, none⟩ = some (.slice p q c)) := fun wx hk => by
    obtain ⟨⟨a0, a1, a2, a3, a4, a5, a6, a7, a8, a9, a10, a11⟩, af⟩ := cells12 (hk.blk (w := w2.drew) hn2 (by decide) hw2)
    obtain ⟨p0, p1⟩ := cells1 (hk.blk (w := w2.drew) hp2 (by decide) hw1)
    exact ⟨p0, a0, a1, a2, a3, a4, a5, a6, a7, a8, a9, a10, a11⟩
  have KO : Hid (∀ wx, Below w2.drew.heap.size w2.drew wx → Kw w0.heap.size wb w2.drew wx) := fun wx hb => Kw.of hb (by have e2 : w2.drew.heap.size = w2.heap.size := rfl; omega)
  have HK : Hid (Kw w0.heap.size wb w w2.drew) := kW2.drew
  clear HL hW2 kW2 hn2 hp2 hw1 hw2 hs2 hlt0
  go_region_held3 (fun wx => wx.cell? ⟨w.heap.size, 0, none⟩ = some (ptr wb) ∧ wx.cell? ⟨w.heap.size + 1, 0, none⟩ = some (.int .i64 k) ∧ wx.cell? ⟨w.heap.size + 1, 1, none⟩ = some (.int .i64 n) ∧ wx.cell? ⟨w.heap.size + 1, 2, none⟩ = some (.string s) ∧ wx.cell? ⟨w.heap.size + 1, 3, none⟩ = some (.int .i64 r.c) ∧ wx.cell? ⟨w.heap.size + 1, 4, none⟩ = some (.int .i64 r.r) ∧ wx.cell? ⟨w.heap.size + 1, 5, none⟩ = some (.bool r.fc) ∧ wx.cell? ⟨w.heap.size + 1, 6, none⟩ = some (.bool r.fr) ∧ wx.cell? ⟨w.heap.size + 1, 7, none⟩ = some (.int .i64 t.c) ∧ wx.cell? ⟨w.heap.size + 1, 8, none⟩ = some (.int .i64 t.r) ∧ wx.cell? ⟨w.heap.size + 1, 9, none⟩ = some (.bool t.fc) ∧ wx.cell? ⟨w.heap.size + 1, 10, none⟩ = some (.bool t.fr) ∧ wx.cell? ⟨w.heap.size + 1, 11, none⟩ = some (.slice p q c)) (first | exact KK.out _ (Kw.refl _ _ _) | exact KK.out _ (KO.out _ hb3) | exact KK.out _ k4) (first | (go_at_call 146; refine HLL.out.mono ?_; rintro e w3 ⟨rfl, hb3⟩) | (go_at_call 102; refine (HWR.out _ (by assumption)).mono ?_; rintro e w4 ⟨rfl, h4, k4⟩))
  all_goals
    go_wp2_with fail
    go_end0
    exact ⟨rfl, by rw [show max m (d + 0) = m from by omega]; exact h4, HK.out.trans k4⟩
end Go.Proofs.YtoaejcppfmjhdaaGreatDoor.fm
/- What is negative is written. Conditions: the package variables as the program's text lays them; lengths below a million. -/
namespace Go.Proofs.YtoaejcppfmjhdaaGreatDoor.fm
open Go.RowKit
set_option maxHeartbeats 4000000 in
set_option maxRecDepth 100000 in
theorem clos70 (B wb pb nb g o c : Nat) (k n : Int) (s : ByteArray) (r t : Rf) (k1 n1 : Int) (s1 : ByteArray) (ra rb : Rf) (v1 : Value) (w1 : World) (hp : w1.heap[pb]? = some (.cells #[ptr wb] 166 (0, 0))) (hn : w1.heap[nb]? = some (.cells (N12 k n s r t (.slice (some ⟨g, o, none⟩) 1 c)) 28 (0, 0))) (hg : g < B) (hpw : pb ≠ wb) (hnw : nb ≠ wb)
    (hkid : ∀ j x, (NV k1 n1 s1 ra rb v1).cells.toList[j]? = some x → w1.cell? ⟨g, o + j, none⟩ = some x) (R : World → Prop)
    (h : Calls Tryz.prog 143 #[ptr wb, NV k1 n1 s1 ra rb v1, .int .i64 5] w1.drew fun e w' => e = .returned (.tuple #[]) ∧ R w' ∧ Kw B wb w1.drew w') :
    Calls Tryz.prog 142 #[ptr pb, ptr nb] w1 fun e w' => e = .returned (.tuple #[]) ∧ R w' ∧ Kw B wb w1 w' := by
  have x0 := hkid 0 _ rfl
  have x1 := hkid 1 _ rfl
  have x2 := hkid 2 _ rfl
  have x3 := hkid 3 _ rfl
  have x4 := hkid 4 _ rfl
  have x5 := hkid 5 _ rfl
  have x6 := hkid 6 _ rfl
  have x7 := hkid 7 _ rfl
  have x8 := hkid 8 _ rfl
  have x9 := hkid 9 _ rfl
  have x10 := hkid 10 _ rfl
  have x11 := hkid 11 _ rfl
  have KK : Hid (∀ wx, Kw B wb w1.drew wx → wx.cell? ⟨pb, 0, none⟩ = some (ptr wb) ∧ wx.cell? ⟨nb, 11, none⟩ = some (.slice (some ⟨g, o, none⟩) 1 c) ∧ wx.cell? ⟨g, o, none⟩ = some (.int .i64 k1) ∧ wx.cell? ⟨g, o + 1, none⟩ = some (.int .i64 n1) ∧ wx.cell? ⟨g, o + 2, none⟩ = some (.string s1) ∧ wx.cell? ⟨g, o + 3, none⟩ = some (.int .i64 ra.c) ∧ wx.cell? ⟨g, o + 4, none⟩ = some (.int .i64 ra.r) ∧ wx.cell? ⟨g, o + 5, none⟩ = some (.bool ra.fc) ∧ wx.cell? ⟨g, o + 6, none⟩ = some (.bool ra.fr) ∧ wx.cell? ⟨g, o + 7, none⟩ = some (.int .i64 rb.c) ∧ wx.cell? ⟨g, o + 8, none⟩ = some (.int .i64 rb.r) ∧ wx.cell? ⟨g, o + 9, none⟩ = some (.bool rb.fc) ∧ wx.cell? ⟨g, o + 10, none⟩ = some (.bool rb.fr) ∧ wx.cell? ⟨g, o + 11, none⟩ = some (v1)) := fun wx hk => by
    have b11 := (cells12 (hk.blk (w := w1.drew) hn (by decide) hnw)).1.2.2.2.2.2.2.2.2.2.2.2
    have p0 := (cells1 (hk.blk (w := w1.drew) hp (by decide) hpw)).1
    have hc : ∀ i u, w1.cell? ⟨g, i, none⟩ = some u → wx.cell? ⟨g, i, none⟩ = some u := fun i u hu => by rw [hk.b.cell (p := ⟨g, i, none⟩) hg]; exact hu
    exact ⟨p0, b11, hc _ _ x0, hc _ _ x1, hc _ _ x2, hc _ _ x3, hc _ _ x4, hc _ _ x5, hc _ _ x6, hc _ _ x7, hc _ _ x8, hc _ _ x9, hc _ _ x10, hc _ _ x11⟩
  have HH : Hid (Calls Tryz.prog 143 #[ptr wb, NV k1 n1 s1 ra rb v1, .int .i64 5] w1.drew fun e w' => e = .returned (.tuple #[]) ∧ R w' ∧ Kw B wb w1.drew w') := h
  have HK : Hid (Kw B wb w1 w1.drew) := (Kw.refl _ _ _).drew
  have p0 := (cells1 hp).1
  have b11 := (cells12 hn).1.2.2.2.2.2.2.2.2.2.2.2
  simp only [Nat.add_zero] at x0
  clear h hp hn hkid hg hpw hnw
  go_enter Tryz.func142, Tryz.ntmps142
  go_wp2_with fail
  go_region_held3 (fun wx => wx.cell? ⟨pb, 0, none⟩ = some (ptr wb) ∧ wx.cell? ⟨nb, 11, none⟩ = some (.slice (some ⟨g, o, none⟩) 1 c) ∧ wx.cell? ⟨g, o, none⟩ = some (.int .i64 k1) ∧ wx.cell? ⟨g, o + 1, none⟩ = some (.int .i64 n1) ∧ wx.cell? ⟨g, o + 2, none⟩ = some (.string s1) ∧ wx.cell? ⟨g, o + 3, none⟩ = some (.int .i64 ra.c) ∧ wx.cell? ⟨g, o + 4, none⟩ = some (.int .i64 ra.r) ∧ wx.cell? ⟨g, o + 5, none⟩ = some (.bool ra.fc) ∧ wx.cell? ⟨g, o + 6, none⟩ = some (.bool ra.fr) ∧ wx.cell? ⟨g, o + 7, none⟩ = some (.int .i64 rb.c) ∧ wx.cell? ⟨g, o + 8, none⟩ = some (.int .i64 rb.r) ∧ wx.cell? ⟨g, o + 9, none⟩ = some (.bool rb.fc) ∧ wx.cell? ⟨g, o + 10, none⟩ = some (.bool rb.fr) ∧ wx.cell? ⟨g, o + 11, none⟩ = some (v1)) (first | exact KK.out _ (Kw.refl _ _ _) | exact KK.out _ k4) (first | (go_at_call 143; refine HH.out.mono ?_; rintro e w4 ⟨rfl, h4, k4⟩))
  all_goals
    go_wp2_with fail
    go_end0
    exact ⟨rfl, h4, HK.out.trans k4⟩
set_option maxHeartbeats 4000000 in
set_option maxRecDepth 100000 in
theorem node_neg (w0 : World) (g o c : Nat) (k1 n1 : Int) (s1 : ByteArray) (ra rb : Rf) (v1 : Value) (n : Int) (s : ByteArray) (r t : Rf) (x : List UInt8) (dp : Nat) (hg : g < w0.heap.size)
    (hkid : ∀ j x, (NV k1 n1 s1 ra rb v1).cells.toList[j]? = some x → w0.cell? ⟨g, o + j, none⟩ = some x) (hO : OpdOK w0 (NV k1 n1 s1 ra rb v1) 5 x dp) : NodeOK w0 (NV 7 n s r t (.slice (some ⟨g, o, none⟩) 1 c)) (45 :: x) (dp + 1) := by
  intro w wb y d m hb hW hdm hm hlen
  have hs0 := hb.size
  have hlt := hW.lt
  have hW2 := (hW.alloc (.cells #[ptr wb] 166)).alloc (.cells (N12 7 n s r t (.slice (some ⟨g, o, none⟩) 1 c)) 28)
  have kW2 : Kw w0.heap.size wb w ((w.alloc (.cells #[ptr wb] 166)).alloc (.cells (N12 7 n s r t (.slice (some ⟨g, o, none⟩) 1 c)) 28)) := ((Kw.refl _ _ _).alloc hs0 _).alloc (by simp; omega) _
  have hp2 : ((w.alloc (.cells #[ptr wb] 166)).alloc (.cells (N12 7 n s r t (.slice (some ⟨g, o, none⟩) 1 c)) 28)).heap[w.heap.size]? = some (.cells #[ptr wb] 166 (0, 0)) := by
    rw [Below.heap_alloc _ _ _ (by simp)]; exact blk_new _ _
  have hn2 : ((w.alloc (.cells #[ptr wb] 166)).alloc (.cells (N12 7 n s r t (.slice (some ⟨g, o, none⟩) 1 c)) 28)).heap[w.heap.size + 1]? = some (.cells (N12 7 n s r t (.slice (some ⟨g, o, none⟩) 1 c)) 28 (0, 0)) := by
    have := blk_new (w.alloc (.cells #[ptr wb] 166)) (.cells (N12 7 n s r t (.slice (some ⟨g, o, none⟩) 1 c)) 28)
    simpa using this
  have HD := deeper70 w0.heap.size wb w.heap.size (w.heap.size + 1) y x ⟨#[45]⟩ nul d m dp _ hW2 hdm (by omega) (by simp at hlen ⊢; have e1 : (⟨#[45]⟩ : ByteArray).size = 1 := rfl; have e2 : nul.size = 0 := rfl; omega) (by simp; omega) (fun w1 hW1 hk1 => by
    have hp1 := hk1.blk hp2 (by decide) (by omega)
    have hn1 := hk1.blk hn2 (by decide) (by omega)
    have hb1 := (hb.trans kW2.b).trans hk1.b
    exact clos70 w0.heap.size wb _ _ g o c 7 n s r t k1 n1 s1 ra rb v1 w1 hp1 hn1 hg (by omega) (by omega) (fun j x hx => by rw [hb1.cell (p := ⟨g, _, none⟩) hg]; exact hkid j x hx)
      (fun w' => WB w' w0.heap.size wb (y ++ (⟨#[45]⟩ : ByteArray).data.toList ++ x) (d + 1) (max (max m (d + 1)) (d + 1 + dp)))
      (hO w1.drew wb _ (d + 1) (max m (d + 1)) hb1.drew hW1.drew (by omega) (by omega) (by simp at hlen ⊢; omega)))
  have HDD : Hid (Calls Tryz.prog 141 #[ptr wb, .string ⟨#[45]⟩, .func (.func 142) #[] #[ptr w.heap.size, ptr (w.heap.size + 1)], .string nul] ((w.alloc (.cells #[ptr wb] 166)).alloc (.cells (N12 7 n s r t (.slice (some ⟨g, o, none⟩) 1 c)) 28)) fun e w' => e = .returned (.tuple #[]) ∧ WB w' w0.heap.size wb (y ++ (⟨#[45]⟩ : ByteArray).data.toList ++ x ++ nul.data.toList) d (max m (d + 1 + dp)) ∧ Kw w0.heap.size wb ((w.alloc (.cells #[ptr wb] 166)).alloc (.cells (N12 7 n s r t (.slice (some ⟨g, o, none⟩) 1 c)) 28)) w') := HD
  have hmf : ∀ (fn : Fn) (first cap : Array Value) (w : World), (Instr.makeFunc fn first cap).run Tryz.prog w = .ok (.func fn first cap) w := fun _ _ _ _ => rfl
  have HK : Hid (Kw w0.heap.size wb w ((w.alloc (.cells #[ptr wb] 166)).alloc (.cells (N12 7 n s r t (.slice (some ⟨g, o, none⟩) 1 c)) 28))) := kW2
  clear HD hO kW2 hW hW2 hp2 hn2 hb hkid
  go_enter Tryz.func103, Tryz.ntmps103
  go_wp2_with fail
  refine HDD.out.mono ?_
  rintro e w3 ⟨rfl, h3, k3⟩
  go_wp2_with fail
  go_end0
  refine ⟨rfl, ?_, HK.out.trans k3⟩
  rw [show d + (dp + 1) = d + 1 + dp from by omega]
  simpa using h3
end Go.Proofs.YtoaejcppfmjhdaaGreatDoor.fm
/- An operator with its operands is written. Conditions: the package variables as the program's text lays them; lengths below a million. -/
namespace Go.Proofs.YtoaejcppfmjhdaaGreatDoor.fm
open Go.RowKit
theorem opTxt_T {op : Nat} (h1 : 1 ≤ op) (h11 : op ≤ 11) : (opTxt op).data.toList = opT op ∧ (opTxt op).size ≤ 2 := by
  have hc : op = 1 ∨ op = 2 ∨ op = 3 ∨ op = 4 ∨ op = 5 ∨ op = 6 ∨ op = 7 ∨ op = 8 ∨ op = 9 ∨ op = 10 ∨ op = 11 := by omega
  rcases hc with rfl | rfl | rfl | rfl | rfl | rfl | rfl | rfl | rfl | rfl | rfl <;> exact ⟨rfl, by decide⟩
set_option maxHeartbeats 8000000 in
set_option maxRecDepth 100000 in
theorem node_two (w0 : World) (hE : EnvW w0) (op : Nat) (h1 : 1 ≤ op) (h11 : op ≤ 11) (g o c : Nat) (k1 n1 : Int) (s1 : ByteArray) (r1a r1b : Rf) (v1 : Value) (k2 n2 : Int) (s2 : ByteArray) (r2a r2b : Rf) (v2 : Value) (s : ByteArray) (r t : Rf) (xa xb : List UInt8) (da db : Nat) (hg : g < w0.heap.size)
    (hka : ∀ j x, (NV k1 n1 s1 r1a r1b v1).cells.toList[j]? = some x → w0.cell? ⟨g, o + j, none⟩ = some x) (hkb : ∀ j x, (NV k2 n2 s2 r2a r2b v2).cells.toList[j]? = some x → w0.cell? ⟨g, o + 12 + j, none⟩ = some x)
    (hOa : OpdOK w0 (NV k1 n1 s1 r1a r1b v1) (lev op) xa da) (hOb : OpdOK w0 (NV k2 n2 s2 r2a r2b v2) (lev op + 1) xb db) : NodeOK w0 (NV 8 op s r t (.slice (some ⟨g, o, none⟩) 2 c)) (xa ++ opT op ++ xb) (max da db) := by
  intro w wb y d m hb hW hdm hm hlen
  have hs0 := hb.size
  have hlt := hW.lt
  have hEw := hE.below hb hE.lt
  have hW2 := (hW.alloc (.cells #[ptr wb] 166)).alloc (.cells (N12 8 op s r t (.slice (some ⟨g, o, none⟩) 2 c)) 28)
  have kW2 : Kw w0.heap.size wb w ((w.alloc (.cells #[ptr wb] 166)).alloc (.cells (N12 8 op s r t (.slice (some ⟨g, o, none⟩) 2 c)) 28)) := ((Kw.refl _ _ _).alloc hs0 _).alloc (by simp; omega) _
  have hp2 : ((w.alloc (.cells #[ptr wb] 166)).alloc (.cells (N12 8 op s r t (.slice (some ⟨g, o, none⟩) 2 c)) 28)).heap[w.heap.size]? = some (.cells #[ptr wb] 166 (0, 0)) := by
    rw [Below.heap_alloc _ _ _ (by simp)]; exact blk_new _ _
  have hn2 : ((w.alloc (.cells #[ptr wb] 166)).alloc (.cells (N12 8 op s r t (.slice (some ⟨g, o, none⟩) 2 c)) 28)).heap[w.heap.size + 1]? = some (.cells (N12 8 op s r t (.slice (some ⟨g, o, none⟩) 2 c)) 28 (0, 0)) := by
    have := blk_new (w.alloc (.cells #[ptr wb] 166)) (.cells (N12 8 op s r t (.slice (some ⟨g, o, none⟩) 2 c)) 28)
    simpa using this
  have hE2 := hEw.below kW2.b hE.lt
  have hb2 := hb.trans kW2.b
  have hlv := opLv_lev h1 h11
  have hot := opTxt_T h1 h11
  have hl4 := lev_le op
  have hw1 : w.heap.size ≠ wb := by omega
  have hw2 : w.heap.size + 1 ≠ wb := by omega
  have hcell := (hE2.f.cell op (by omega)).2
  have hcell0 := (hEw.f.cell op (by omega)).2
  rw [show 2 * op + 1 = op * 2 + 1 from by omega, hlv] at hcell hcell0
  obtain ⟨⟨a0, a1, a2, a3, a4, a5, a6, a7, a8, a9, a10, a11⟩, af⟩ := cells12 hn2
  have hmf : ∀ (fn : Fn) (first cap : Array Value) (w : World), (Instr.makeFunc fn first cap).run Tryz.prog w = .ok (.func fn first cap) w := fun _ _ _ _ => rfl
  have i0 : (0 : Int) ≤ (op : Int) := by omega
  have i1 : (op : Int) < 12 := by omega
  have hl4' : ((lev op : Nat) : Int) ≤ 4 := by omega
  have p0 := (cells1 hp2).1
  have KC : Hid (∀ wx, Kw w0.heap.size wb ((w.alloc (.cells #[ptr wb] 166)).alloc (.cells (N12 8 op s r t (.slice (some ⟨g, o, none⟩) 2 c)) 28)) wx → ∀ i u, w0.cell? ⟨g, i, none⟩ = some u → wx.cell? ⟨g, i, none⟩ = some u) := fun wx hk i u hu => by rw [(hb2.trans hk.b).cell (p := ⟨g, i, none⟩) hg]; exact hu
  have KB : Hid (∀ wx, Kw w0.heap.size wb ((w.alloc (.cells #[ptr wb] 166)).alloc (.cells (N12 8 op s r t (.slice (some ⟨g, o, none⟩) 2 c)) 28)) wx → wx.heap[w.heap.size]? = some (.cells #[ptr wb] 166 (0, 0)) ∧ wx.heap[w.heap.size + 1]? = some (.cells (N12 8 op s r t (.slice (some ⟨g, o, none⟩) 2 c)) 28 (0, 0))) := fun wx hk => ⟨hk.blk hp2 (by decide) hw1, hk.blk hn2 (by decide) hw2⟩
  have KE : Hid (∀ wx, Kw w0.heap.size wb ((w.alloc (.cells #[ptr wb] 166)).alloc (.cells (N12 8 op s r t (.slice (some ⟨g, o, none⟩) 2 c)) 28)) wx → wx.cell? ⟨0, op * 2, none⟩ = some (.string (opTxt op))) := fun wx hk => by
    have := ((hE2.below hk.b hE.lt).f.cell op (by omega)).1
    rw [show op * 2 = 2 * op from by omega]; exact this
  have K7 : Hid (∀ wx, Kw w0.heap.size wb ((w.alloc (.cells #[ptr wb] 166)).alloc (.cells (N12 8 op s r t (.slice (some ⟨g, o, none⟩) 2 c)) 28)) wx → wx.cell? ⟨w.heap.size, 0, none⟩ = some (ptr wb) ∧ wx.cell? ⟨w.heap.size + 1, 11, none⟩ = some (.slice (some ⟨g, o, none⟩) 2 c) ∧ wx.cell? ⟨g, o, none⟩ = some (.int .i64 k1) ∧ wx.cell? ⟨g, o + 1, none⟩ = some (.int .i64 n1) ∧ wx.cell? ⟨g, o + 2, none⟩ = some (.string s1) ∧ wx.cell? ⟨g, o + 3, none⟩ = some (.int .i64 r1a.c) ∧ wx.cell? ⟨g, o + 4, none⟩ = some (.int .i64 r1a.r) ∧ wx.cell? ⟨g, o + 5, none⟩ = some (.bool r1a.fc) ∧ wx.cell? ⟨g, o + 6, none⟩ = some (.bool r1a.fr) ∧ wx.cell? ⟨g, o + 7, none⟩ = some (.int .i64 r1b.c) ∧ wx.cell? ⟨g, o + 8, none⟩ = some (.int .i64 r1b.r) ∧ wx.cell? ⟨g, o + 9, none⟩ = some (.bool r1b.fc) ∧ wx.cell? ⟨g, o + 10, none⟩ = some (.bool r1b.fr) ∧ wx.cell? ⟨g, o + 11, none⟩ = some (v1)) := fun wx hk =>
    ⟨(cells1 (KB.out wx hk).1).1, (cells12 (KB.out wx hk).2).1.2.2.2.2.2.2.2.2.2.2.2, KC.out wx hk _ _ (hka 0 _ rfl), KC.out wx hk _ _ (hka 1 _ rfl), KC.out wx hk _ _ (hka 2 _ rfl), KC.out wx hk _ _ (hka 3 _ rfl), KC.out wx hk _ _ (hka 4 _ rfl), KC.out wx hk _ _ (hka 5 _ rfl), KC.out wx hk _ _ (hka 6 _ rfl), KC.out wx hk _ _ (hka 7 _ rfl), KC.out wx hk _ _ (hka 8 _ rfl), KC.out wx hk _ _ (hka 9 _ rfl), KC.out wx hk _ _ (hka 10 _ rfl), KC.out wx hk _ _ (hka 11 _ rfl)⟩
  have K8 : Hid (∀ wx, Kw w0.heap.size wb ((w.alloc (.cells #[ptr wb] 166)).alloc (.cells (N12 8 op s r t (.slice (some ⟨g, o, none⟩) 2 c)) 28)) wx → wx.cell? ⟨w.heap.size, 0, none⟩ = some (ptr wb) ∧ wx.cell? ⟨w.heap.size + 1, 1, none⟩ = some (.int .i64 op) ∧ wx.cell? ⟨0, op * 2, none⟩ = some (.string (opTxt op))) := fun wx hk => ⟨(cells1 (KB.out wx hk).1).1, (cells12 (KB.out wx hk).2).1.2.1, KE.out wx hk⟩
  have K9 : Hid (∀ wx, Kw w0.heap.size wb ((w.alloc (.cells #[ptr wb] 166)).alloc (.cells (N12 8 op s r t (.slice (some ⟨g, o, none⟩) 2 c)) 28)) wx → wx.cell? ⟨w.heap.size, 0, none⟩ = some (ptr wb) ∧ wx.cell? ⟨w.heap.size + 1, 11, none⟩ = some (.slice (some ⟨g, o, none⟩) 2 c) ∧ wx.cell? ⟨g, o + 12, none⟩ = some (.int .i64 k2) ∧ wx.cell? ⟨g, o + 12 + 1, none⟩ = some (.int .i64 n2) ∧ wx.cell? ⟨g, o + 12 + 2, none⟩ = some (.string s2) ∧ wx.cell? ⟨g, o + 12 + 3, none⟩ = some (.int .i64 r2a.c) ∧ wx.cell? ⟨g, o + 12 + 4, none⟩ = some (.int .i64 r2a.r) ∧ wx.cell? ⟨g, o + 12 + 5, none⟩ = some (.bool r2a.fc) ∧ wx.cell? ⟨g, o + 12 + 6, none⟩ = some (.bool r2a.fr) ∧ wx.cell? ⟨g, o + 12 + 7, none⟩ = some (.int .i64 r2b.c) ∧ wx.cell? ⟨g, o + 12 + 8, none⟩ = some (.int .i64 r2b.r) ∧ wx.cell? ⟨g, o + 12 + 9, none⟩ = some (.bool r2b.fc) ∧ wx.cell? ⟨g, o + 12 + 10, none⟩ = some (.bool r2b.fr) ∧ wx.cell? ⟨g, o + 12 + 11, none⟩ = some (v2) ∧ wx.cell? ⟨g, o + 13, none⟩ = some (.int .i64 n2) ∧ wx.cell? ⟨g, o + 14, none⟩ = some (.string s2) ∧ wx.cell? ⟨g, o + 15, none⟩ = some (.int .i64 r2a.c) ∧ wx.cell? ⟨g, o + 16, none⟩ = some (.int .i64 r2a.r) ∧ wx.cell? ⟨g, o + 17, none⟩ = some (.bool r2a.fc) ∧ wx.cell? ⟨g, o + 18, none⟩ = some (.bool r2a.fr) ∧ wx.cell? ⟨g, o + 19, none⟩ = some (.int .i64 r2b.c) ∧ wx.cell? ⟨g, o + 20, none⟩ = some (.int .i64 r2b.r) ∧ wx.cell? ⟨g, o + 21, none⟩ = some (.bool r2b.fc) ∧ wx.cell? ⟨g, o + 22, none⟩ = some (.bool r2b.fr) ∧ wx.cell? ⟨g, o + 23, none⟩ = some (v2)) := fun wx hk =>
    ⟨(cells1 (KB.out wx hk).1).1, (cells12 (KB.out wx hk).2).1.2.2.2.2.2.2.2.2.2.2.2, KC.out wx hk _ _ (hkb 0 _ rfl), KC.out wx hk _ _ (hkb 1 _ rfl), KC.out wx hk _ _ (hkb 2 _ rfl), KC.out wx hk _ _ (hkb 3 _ rfl), KC.out wx hk _ _ (hkb 4 _ rfl), KC.out wx hk _ _ (hkb 5 _ rfl), KC.out wx hk _ _ (hkb 6 _ rfl), KC.out wx hk _ _ (hkb 7 _ rfl), KC.out wx hk _ _ (hkb 8 _ rfl), KC.out wx hk _ _ (hkb 9 _ rfl), KC.out wx hk _ _ (hkb 10 _ rfl), KC.out wx hk _ _ (hkb 11 _ rfl), KC.out wx hk _ _ (hkb 1 _ rfl), KC.out wx hk _ _ (hkb 2 _ rfl), KC.out wx hk _ _ (hkb 3 _ rfl), KC.out wx hk _ _ (hkb 4 _ rfl), KC.out wx hk _ _ (hkb 5 _ rfl), KC.out wx hk _ _ (hkb 6 _ rfl), KC.out wx hk _ _ (hkb 7 _ rfl), KC.out wx hk _ _ (hkb 8 _ rfl), KC.out wx hk _ _ (hkb 9 _ rfl), KC.out wx hk _ _ (hkb 10 _ rfl), KC.out wx hk _ _ (hkb 11 _ rfl)⟩
  have HA : Hid (∀ wx, Kw w0.heap.size wb ((w.alloc (.cells #[ptr wb] 166)).alloc (.cells (N12 8 op s r t (.slice (some ⟨g, o, none⟩) 2 c)) 28)) wx → WB wx w0.heap.size wb y d m → Calls Tryz.prog 143 #[ptr wb, NV k1 n1 s1 r1a r1b v1, .int .i64 ((lev op : Nat) : Int)] wx fun e w' => e = .returned (.tuple #[]) ∧ WB w' w0.heap.size wb (y ++ xa) d (max m (d + da)) ∧ Kw w0.heap.size wb ((w.alloc (.cells #[ptr wb] 166)).alloc (.cells (N12 8 op s r t (.slice (some ⟨g, o, none⟩) 2 c)) 28)) w') := fun wx hk hWx => by
    refine (hOa wx wb y d m (hb2.trans hk.b) hWx hdm (by omega) (by simp at hlen ⊢; omega)).mono ?_
    rintro e w' ⟨rfl, q1, q2⟩
    exact ⟨rfl, q1, hk.trans q2⟩
  have HO : Hid (∀ wx, Kw w0.heap.size wb ((w.alloc (.cells #[ptr wb] 166)).alloc (.cells (N12 8 op s r t (.slice (some ⟨g, o, none⟩) 2 c)) 28)) wx → WB wx w0.heap.size wb (y ++ xa) d (max m (d + da)) → Calls Tryz.prog 102 #[ptr wb, .string (opTxt op)] wx fun e w' => e = .returned (.tuple #[.int .i64 (opTxt op).size, .nilIface]) ∧ WB w' w0.heap.size wb (y ++ xa ++ opT op) d (max m (d + da)) ∧ Kw w0.heap.size wb ((w.alloc (.cells #[ptr wb] 166)).alloc (.cells (N12 8 op s r t (.slice (some ⟨g, o, none⟩) 2 c)) 28)) w') := fun wx hk hWx => by
    have hsx := (hb2.trans hk.b).size
    refine (write_any w0.heap.size wb _ d _ (opTxt op) wx hWx (by simp at hlen ⊢; omega) hsx).mono ?_
    rintro e w' ⟨rfl, q1, q2⟩
    rw [hot.1] at q1
    exact ⟨rfl, q1, hk.trans q2⟩
  have HBB : Hid (∀ wx, Kw w0.heap.size wb ((w.alloc (.cells #[ptr wb] 166)).alloc (.cells (N12 8 op s r t (.slice (some ⟨g, o, none⟩) 2 c)) 28)) wx → WB wx w0.heap.size wb (y ++ xa ++ opT op) d (max m (d + da)) → Calls Tryz.prog 143 #[ptr wb, NV k2 n2 s2 r2a r2b v2, .int .i64 (IntKind.i64.wrap (((lev op : Nat) : Int) + 1))] wx fun e w' => e = .returned (.tuple #[]) ∧ WB w' w0.heap.size wb (y ++ xa ++ opT op ++ xb) d (max (max m (d + da)) (d + db)) ∧ Kw w0.heap.size wb ((w.alloc (.cells #[ptr wb] 166)).alloc (.cells (N12 8 op s r t (.slice (some ⟨g, o, none⟩) 2 c)) 28)) w') := fun wx hk hWx => by
    rw [show IntKind.i64.wrap (((lev op : Nat) : Int) + 1) = ((lev op : Nat) : Int) + 1 from Go.IntWalk.i64_in _ (by omega)]
    have := hOb wx wb _ d _ (hb2.trans hk.b) hWx (by omega) (by omega) (by simp at hlen ⊢; omega)
    rw [show ((lev op + 1 : Nat) : Int) = ((lev op : Nat) : Int) + 1 from by omega] at this
    refine this.mono ?_
    rintro e w' ⟨rfl, q1, q2⟩
    exact ⟨rfl, q1, hk.trans q2⟩
  have HK : Hid (Kw w0.heap.size wb w ((w.alloc (.cells #[ptr wb] 166)).alloc (.cells (N12 8 op s r t (.slice (some ⟨g, o, none⟩) 2 c)) 28))) := kW2
  have hk0 : Kw w0.heap.size wb ((w.alloc (.cells #[ptr wb] 166)).alloc (.cells (N12 8 op s r t (.slice (some ⟨g, o, none⟩) 2 c)) 28)) ((w.alloc (.cells #[ptr wb] 166)).alloc (.cells (N12 8 op s r t (.slice (some ⟨g, o, none⟩) 2 c)) 28)).drew := (Kw.refl _ _ _).drew
  have HDR : Hid (∀ wx, Kw w0.heap.size wb ((w.alloc (.cells #[ptr wb] 166)).alloc (.cells (N12 8 op s r t (.slice (some ⟨g, o, none⟩) 2 c)) 28)) wx → Kw w0.heap.size wb ((w.alloc (.cells #[ptr wb] 166)).alloc (.cells (N12 8 op s r t (.slice (some ⟨g, o, none⟩) 2 c)) 28)) wx.drew) := fun wx h => h.drew
  have hWd := hW2.drew
  clear hE hEw hE2 hW hW2 hp2 hn2 hb hb2 hka hkb hOa hOb hot hlv kW2 hg hw1 hw2 KB KC KE
  go_enter Tryz.func103, Tryz.ntmps103
  go_wp2_with fail
  clear a0 a1 a2 a3 a4 a5 a6 a7 a8 a9 a10 a11 af p0 hcell hcell0
  generalize (w.alloc (.cells #[ptr wb] 166)).alloc _ = w2 at *
  go_region_held3 (fun wx => wx.cell? ⟨w.heap.size, 0, none⟩ = some (ptr wb) ∧ wx.cell? ⟨w.heap.size + 1, 11, none⟩ = some (.slice (some ⟨g, o, none⟩) 2 c) ∧ wx.cell? ⟨g, o, none⟩ = some (.int .i64 k1) ∧ wx.cell? ⟨g, o + 1, none⟩ = some (.int .i64 n1) ∧ wx.cell? ⟨g, o + 2, none⟩ = some (.string s1) ∧ wx.cell? ⟨g, o + 3, none⟩ = some (.int .i64 r1a.c) ∧ wx.cell? ⟨g, o + 4, none⟩ = some (.int .i64 r1a.r) ∧ wx.cell? ⟨g, o + 5, none⟩ = some (.bool r1a.fc) ∧ wx.cell? ⟨g, o + 6, none⟩ = some (.bool r1a.fr) ∧ wx.cell? ⟨g, o + 7, none⟩ = some (.int .i64 r1b.c) ∧ wx.cell? ⟨g, o + 8, none⟩ = some (.int .i64 r1b.r) ∧ wx.cell? ⟨g, o + 9, none⟩ = some (.bool r1b.fc) ∧ wx.cell? ⟨g, o + 10, none⟩ = some (.bool r1b.fr) ∧ wx.cell? ⟨g, o + 11, none⟩ = some (v1)) (first | exact K7.out _ hk0 | exact K7.out _ k4) (first | (go_at_call 143; refine (HA.out _ hk0 hWd).mono ?_; rintro e w4 ⟨rfl, h4, k4⟩))
  have k4d := HDR.out _ k4
  have h4d := h4.drew
  clear K7 HA hk0 hWd h4 k4
  go_wp2_with fail
  go_region_held3 (fun wx => wx.cell? ⟨w.heap.size, 0, none⟩ = some (ptr wb) ∧ wx.cell? ⟨w.heap.size + 1, 1, none⟩ = some (.int .i64 op) ∧ wx.cell? ⟨0, op * 2, none⟩ = some (.string (opTxt op))) (first | exact K8.out _ k4d | exact K8.out _ k5) (first | (go_at_call 102; with_reducible refine (HO.out _ k4d h4d).mono ?_; rintro e w5 ⟨rfl, h5, k5⟩))
  have k5d := HDR.out _ k5
  have h5d := h5.drew
  clear K8 HO k4d h4d h5 k5
  go_wp2_with fail
  go_region_held3 (fun wx => wx.cell? ⟨w.heap.size, 0, none⟩ = some (ptr wb) ∧ wx.cell? ⟨w.heap.size + 1, 11, none⟩ = some (.slice (some ⟨g, o, none⟩) 2 c) ∧ wx.cell? ⟨g, o + 12, none⟩ = some (.int .i64 k2) ∧ wx.cell? ⟨g, o + 12 + 1, none⟩ = some (.int .i64 n2) ∧ wx.cell? ⟨g, o + 12 + 2, none⟩ = some (.string s2) ∧ wx.cell? ⟨g, o + 12 + 3, none⟩ = some (.int .i64 r2a.c) ∧ wx.cell? ⟨g, o + 12 + 4, none⟩ = some (.int .i64 r2a.r) ∧ wx.cell? ⟨g, o + 12 + 5, none⟩ = some (.bool r2a.fc) ∧ wx.cell? ⟨g, o + 12 + 6, none⟩ = some (.bool r2a.fr) ∧ wx.cell? ⟨g, o + 12 + 7, none⟩ = some (.int .i64 r2b.c) ∧ wx.cell? ⟨g, o + 12 + 8, none⟩ = some (.int .i64 r2b.r) ∧ wx.cell? ⟨g, o + 12 + 9, none⟩ = some (.bool r2b.fc) ∧ wx.cell? ⟨g, o + 12 + 10, none⟩ = some (.bool r2b.fr) ∧ wx.cell? ⟨g, o + 12 + 11, none⟩ = some (v2) ∧ wx.cell? ⟨g, o + 13, none⟩ = some (.int .i64 n2) ∧ wx.cell? ⟨g, o + 14, none⟩ = some (.string s2) ∧ wx.cell? ⟨g, o + 15, none⟩ = some (.int .i64 r2a.c) ∧ wx.cell? ⟨g, o + 16, none⟩ = some (.int .i64 r2a.r) ∧ wx.cell? ⟨g, o + 17, none⟩ = some (.bool r2a.fc) ∧ wx.cell? ⟨g, o + 18, none⟩ = some (.bool r2a.fr) ∧ wx.cell? ⟨g, o + 19, none⟩ = some (.int .i64 r2b.c) ∧ wx.cell? ⟨g, o + 20, none⟩ = some (.int .i64 r2b.r) ∧ wx.cell? ⟨g, o + 21, none⟩ = some (.bool r2b.fc) ∧ wx.cell? ⟨g, o + 22, none⟩ = some (.bool r2b.fr) ∧ wx.cell? ⟨g, o + 23, none⟩ = some (v2)) (first | exact K9.out _ k5d | exact K9.out _ k6) (first | (go_at_call 143; with_reducible refine (HBB.out _ k5d h5d).mono ?_; rintro e w6 ⟨rfl, h6, k6⟩))
  go_wp2_with fail
  go_end0
  refine ⟨rfl, ?_, HK.out.trans k6⟩
  rw [show max m (d + max da db) = max (max m (d + da)) (d + db) from by omega]
  simpa using h6
end Go.Proofs.YtoaejcppfmjhdaaGreatDoor.fm
/- Arguments are written one behind the other. Conditions: lengths below a million. -/
namespace Go.Proofs.YtoaejcppfmjhdaaGreatDoor.fm
open Go.RowKit
theorem commas_app (a : List (List UInt8)) (x : List UInt8) : commas (a ++ [x]) = if a.length = 0 then x else commas a ++ 44 :: x := by
  cases a with
  | nil => rfl
  | cons y ys => rw [List.cons_append, commas_cons, commas_cons]; simp
theorem commas_le (a b : List (List UInt8)) : (commas a).length ≤ (commas (a ++ b)).length := by
  cases a with
  | nil => simp [commas]
  | cons y ys => rw [List.cons_append, commas_cons, commas_cons]; simp
theorem commas_take {xs : List (List UInt8)} {j : Nat} {x : List UInt8} (h : xs[j]? = some x) : commas (xs.take (j + 1)) = (if j = 0 then x else commas (xs.take j) ++ 44 :: x) ∧ (commas (xs.take (j + 1))).length ≤ (commas xs).length := by
  have hj := (List.getElem?_eq_some_iff.1 h).1
  refine ⟨?_, ?_⟩
  · rw [List.take_add_one, h]
    show commas (xs.take j ++ [x]) = _
    rw [commas_app, List.length_take, show min j xs.length = j from by omega]
  · have := commas_le (xs.take (j + 1)) (xs.drop (j + 1))
    rwa [List.take_append_drop] at this
theorem fold_take {ds : List Nat} {j d : Nat} (h : ds[j]? = some d) : (ds.take (j + 1)).foldr max 0 = max ((ds.take j).foldr max 0) d := by
  rw [List.take_add_one, h]
  exact foldr_snoc _ _
theorem fold_take_le (ds : List Nat) (j : Nat) : (ds.take j).foldr max 0 ≤ ds.foldr max 0 := by
  induction ds generalizing j with
  | nil => simp
  | cons a ds ih => cases j with
    | zero => simp
    | succ j => have := ih j; simp only [List.take_succ_cons, List.foldr_cons]; omega
set_option maxHeartbeats 4000000 in
set_option maxRecDepth 100000 in
theorem args_any (w0 : World) {P : Nat → Prop} {p : Option Addr} {q c : Nat} {us : List Value} {ts : List T} {xs : List (List UInt8)} {ds : List Nat} (hk : Kids w0 P p q c us) (hl : us.length = ts.length) (hs : ∀ (i : Nat) u t', us[i]? = some u → ts[i]? = some t' → Nd w0 P u t') (hx : xs.length = ts.length) (hd : ds.length = ts.length)
    (hN : ∀ (i : Nat) u x e, us[i]? = some u → xs[i]? = some x → ds[i]? = some e → NodeOK w0 u x e) (hq : q ≤ 9223372036854775807) (w : World) (wb : Nat) (y : List UInt8) (d m : Nat) (hb : Below w0.heap.size w0 w) (hW : WB w w0.heap.size wb y d m) (hdm : d ≤ m) (hm : m ≤ 500000 ∧ d + ds.foldr max 0 ≤ 500000) (hlen : y.length + (commas xs).length ≤ 1000000) :
    Calls Tryz.prog 145 #[ptr wb, .slice p q c] w fun e w' => e = .returned (.tuple #[]) ∧ WB w' w0.heap.size wb (y ++ commas xs) d (max m (d + ds.foldr max 0)) ∧ Kw w0.heap.size wb w w' := by
  have hqu : q = us.length := hk.1
  have HK : Hid (Kids w0 P p q c us) := hk
  have HL : Hid (us.length = ts.length) := hl
  have HS : Hid (∀ (i : Nat) u t', us[i]? = some u → ts[i]? = some t' → Nd w0 P u t') := hs
  have HN : Hid (∀ (i : Nat) u x e, us[i]? = some u → xs[i]? = some x → ds[i]? = some e → NodeOK w0 u x e) := hN
  have HX : Hid (xs.length = q ∧ ds.length = q) := ⟨by omega, by omega⟩
  have HB : Hid (Below w0.heap.size w0 w) := hb
  have HM : Hid ((m ≤ 500000 ∧ d + ds.foldr max 0 ≤ 500000) ∧ y.length + (commas xs).length ≤ 1000000) := ⟨hm, hlen⟩
  have hs0 := hb.size
  have h0 : WB w w0.heap.size wb (y ++ commas (xs.take 0)) d (max m (d + (ds.take 0).foldr max 0)) := by
    have : max m d = m := by omega
    simpa [commas, this] using hW
  clear hk hl hs hN hx hd hm hlen hW hb hqu
  go_enter Tryz.func145, Tryz.ntmps145
  go_wp2_with fail
  go_loopw [4, 5, 8] (fun _ _ i wr => ∃ j : Nat, i = .int .i64 j ∧ j ≤ q ∧ WB wr w0.heap.size wb (y ++ commas (xs.take j)) d (max m (d + (ds.take j).foldr max 0)) ∧ Kw w0.heap.size wb w wr) (fun _ _ i _ => q - (intOf i).toNat)
  case atStart => exact ⟨0, rfl, Nat.zero_le _, h0, Kw.refl _ _ _⟩
  case round =>
    clear h0
    obtain ⟨j, rfl, hj, hWr, hkr⟩ := hrel
    by_cases hlt : j < q
    · obtain ⟨g, o, u, t1, rfl, hg, hu, ht1, hc⟩ := kid_at HK.out HL.out HS.out j hlt
      have hNd := HS.out j u t1 hu ht1
      obtain ⟨xj, hxj⟩ : ∃ xj, xs[j]? = some xj := ⟨_, List.getElem?_eq_getElem (by have := HX.out.1; omega)⟩
      obtain ⟨dj, hdj⟩ : ∃ dj, ds[j]? = some dj := ⟨_, List.getElem?_eq_getElem (by have := HX.out.2; omega)⟩
      have hbr := HB.out.trans hkr.b
      have hsr := hbr.size
      have e1 : ∀ jj x, u.cells.toList[jj]? = some x → wr.cell? ⟨g, o + j * 12 + jj, none⟩ = some x := fun jj x hx => by rw [hbr.cell (p := ⟨g, _, none⟩) hg]; exact hc jj x hx
      have hct := commas_take hxj
      have hft := fold_take hdj
      have hfl := fold_take_le ds (j + 1)
      have hfl0 := fold_take_le ds j
      obtain ⟨X, hX⟩ : ∃ X, commas (xs.take j) = X := ⟨_, rfl⟩
      obtain ⟨Y, hY⟩ : ∃ Y, commas (xs.take (j + 1)) = Y := ⟨_, rfl⟩
      obtain ⟨F, hF⟩ : ∃ F, (ds.take j).foldr max 0 = F := ⟨_, rfl⟩
      obtain ⟨G, hG⟩ : ∃ G, (ds.take (j + 1)).foldr max 0 = G := ⟨_, rfl⟩
      have HRW : Hid ((commas (xs.take (j + 1)) = Y) ∧ (ds.take (j + 1)).foldr max 0 = G) := ⟨hY, hG⟩
      rw [hX, hY] at hct
      rw [hF, hG] at hft
      rw [hG] at hfl
      rw [hF] at hfl0
      rw [hX, hF] at hWr
      have hMM := HM.out
      have HNJ : Hid (∀ wx z, Kw w0.heap.size wb w wx → WB wx w0.heap.size wb z d (max m (d + F)) → z.length + xj.length ≤ 1000000 → Calls Tryz.prog 103 #[ptr wb, u] wx fun e w' => e = .returned (.tuple #[]) ∧ WB w' w0.heap.size wb (z ++ xj) d (max m (d + G)) ∧ Kw w0.heap.size wb w w') := fun wx z hkx hWx hz => by
        refine (HN.out j u _ _ hu hxj hdj wx wb z d _ (HB.out.trans hkx.b) hWx (by omega) (by omega) hz).mono ?_
        rintro e w' ⟨rfl, q1, q2⟩
        refine ⟨rfl, ?_, hkx.trans q2⟩
        rw [show max m (d + G) = max (max m (d + F)) (d + dj) from by omega]
        exact q1
      have HLB : Hid (y.length + Y.length ≤ 1000000) := by unfold Hid; omega
      have HCT : Hid (Y = if j = 0 then xj else X ++ 44 :: xj) := hct.1
      have HX0 : Hid (j = 0 → X = []) := fun e => by subst e; rw [← hX]; simp [commas]
      clear HN hct hft hfl hfl0 hMM hX hY hF hG hc
      cases hNd with
      | @mk k1 n1 s1 ra rb p1 m1 q1 us1 ts1 _ _ _ =>
      have hlt' : (j : Int) < (q : Int) := by omega
      have hj' : (0 : Int) ≤ (j : Int) := by omega
      have x0 := e1 0 _ rfl
      have x1 := e1 1 _ rfl
      have x2 := e1 2 _ rfl
      have x3 := e1 3 _ rfl
      have x4 := e1 4 _ rfl
      have x5 := e1 5 _ rfl
      have x6 := e1 6 _ rfl
      have x7 := e1 7 _ rfl
      have x8 := e1 8 _ rfl
      have x9 := e1 9 _ rfl
      have x10 := e1 10 _ rfl
      have x11 := e1 11 _ rfl
      simp only [Nat.add_zero] at x0
      have hWa := hWr.alloc (.cells (N12 k1 n1 s1 ra rb (.slice p1 m1 q1)) 28)
      have hka := hkr.alloc hsr (.cells (N12 k1 n1 s1 ra rb (.slice p1 m1 q1)) 28)
      have hnb := blk_new wr (.cells (N12 k1 n1 s1 ra rb (.slice p1 m1 q1)) 28)
      have hwl := hWr.lt
      obtain ⟨⟨a0, a1, a2, a3, a4, a5, a6, a7, a8, a9, a10, a11⟩, af⟩ := cells12 hnb
      by_cases hz : j = 0
      · subst hz
        have HE : Hid (X = [] ∧ Y = xj) := ⟨HX0.out rfl, by have := HCT.out; rwa [if_pos rfl] at this⟩
        clear HX0 HCT
        simp only [Nat.zero_mul, Nat.add_zero] at x0 x1 x2 x3 x4 x5 x6 x7 x8 x9 x10 x11
        go_wp2_with fail
        refine (HNJ.out _ _ hka hWa (by have := HLB.out; rw [HE.out.2] at this; rw [HE.out.1]; simp; omega)).mono ?_
        rintro e w4 ⟨rfl, h4, k4⟩
        go_wp2_with fail
        refine ⟨⟨0 + 1, by simp, hlt, ?_, k4⟩, by simp [intOf]; omega⟩
        rw [HRW.out.1, HRW.out.2, HE.out.2]
        rw [HE.out.1] at h4
        simpa using h4
      · have hp : (j : Int) > 0 := by omega
        have HZ : Hid (Y = X ++ 44 :: xj) := by have := HCT.out; rwa [if_neg hz] at this
        clear hz HCT HX0
        go_wp2_with fail
        have hsa := (HB.out.trans hka.b).size
        refine (write_any w0.heap.size wb _ d _ ⟨#[44]⟩ _ hWa (by have := HLB.out; rw [HZ.out] at this; simp at this ⊢; have e1 : (⟨#[44]⟩ : ByteArray).size = 1 := rfl; omega) hsa).mono ?_
        rintro e w3 ⟨rfl, h3, k3⟩
        have hn3 := k3.blk hnb (by decide) (by omega)
        clear a0 a1 a2 a3 a4 a5 a6 a7 a8 a9 a10 a11 af
        obtain ⟨⟨a0, a1, a2, a3, a4, a5, a6, a7, a8, a9, a10, a11⟩, af⟩ := cells12 hn3
        have hk3 := hka.trans k3
        go_wp2_with fail
        refine (HNJ.out _ _ hk3 h3 (by have := HLB.out; rw [HZ.out] at this; simp at this ⊢; omega)).mono ?_
        rintro e w4 ⟨rfl, h4, k4⟩
        go_wp2_with fail
        refine ⟨⟨j + 1, by simp, hlt, ?_, k4⟩, by simp [intOf]; omega⟩
        rw [HRW.out.1, HRW.out.2, HZ.out]
        simpa using h4
    · have hkn : j = q := by omega
      subst hkn
      have hxx := HX.out
      have t1 : xs.take j = xs := List.take_of_length_le (by omega)
      have t2 : ds.take j = ds := List.take_of_length_le (by omega)
      have HF : Hid (WB wr w0.heap.size wb (y ++ commas xs) d (max m (d + ds.foldr max 0))) := by rw [t1, t2] at hWr; exact hWr
      clear t1 t2 hWr
      go_wp2_with fail
      go_end0
      exact ⟨rfl, HF.out, hkr⟩
end Go.Proofs.YtoaejcppfmjhdaaGreatDoor.fm
/- Any node that can be written is written. Conditions: the package variables as the program's text lays them; lengths below a million. -/
namespace Go.Proofs.YtoaejcppfmjhdaaGreatDoor.fm
open Go.RowKit
theorem clos72 (wb pb nb : Nat) (k n : Int) (s : ByteArray) (r t : Rf) (p : Option Addr) (q c : Nat) (w : World) (hp : w.heap[pb]? = some (.cells #[ptr wb] 166 (0, 0))) (hn : w.heap[nb]? = some (.cells (N12 k n s r t (.slice p q c)) 28 (0, 0))) (Q : World → Prop)
    (h : Calls Tryz.prog 145 #[ptr wb, .slice p q c] w fun e w' => e = .returned (.tuple #[]) ∧ Q w') : Calls Tryz.prog 144 #[ptr pb, ptr nb] w fun e w' => e = .returned (.tuple #[]) ∧ Q w' := by
  obtain ⟨p0, p1⟩ := cells1 hp
  obtain ⟨⟨a0, a1, a2, a3, a4, a5, a6, a7, a8, a9, a10, a11⟩, af⟩ := cells12 hn
  have HH : Hid (Calls Tryz.prog 145 #[ptr wb, .slice p q c] w fun e w' => e = .returned (.tuple #[]) ∧ Q w') := h
  clear h
  go_enter Tryz.func144, Tryz.ntmps144
  go_wp2_with fail
  refine HH.out.mono ?_
  rintro e w1 ⟨rfl, hq⟩
  have HQ : Hid (Q w1) := hq
  clear hq
  go_wp2_with fail
  go_end0
  exact ⟨rfl, HQ.out⟩
set_option maxHeartbeats 4000000 in
set_option maxRecDepth 100000 in
theorem node_call (w0 : World) (name : ByteArray) (hnm : name.size ≤ 10) (n : Int) (r t : Rf) (p : Option Addr) (q c : Nat) (xs : List (List UInt8)) (D : Nat)
    (hA : ∀ (w : World) (wb : Nat) (y : List UInt8) (d m : Nat), Below w0.heap.size w0 w → WB w w0.heap.size wb y d m → d ≤ m → m ≤ 500000 ∧ d + D ≤ 500000 → y.length + (commas xs).length ≤ 1000000 → Calls Tryz.prog 145 #[ptr wb, .slice p q c] w fun e w' => e = .returned (.tuple #[]) ∧ WB w' w0.heap.size wb (y ++ commas xs) d (max m (d + D)) ∧ Kw w0.heap.size wb w w') :
    NodeOK w0 (NV 9 n name r t (.slice p q c)) (name.data.toList ++ 40 :: (commas xs ++ [41])) (D + 1) := by
  intro w wb y d m hb hW hdm hm hlen
  have hs0 := hb.size
  have hlt := hW.lt
  have hW2 := (hW.alloc (.cells #[ptr wb] 166)).alloc (.cells (N12 9 n name r t (.slice p q c)) 28)
  have kW2 : Kw w0.heap.size wb w ((w.alloc (.cells #[ptr wb] 166)).alloc (.cells (N12 9 n name r t (.slice p q c)) 28)) := ((Kw.refl _ _ _).alloc hs0 _).alloc (by simp; omega) _
  have hp2 : ((w.alloc (.cells #[ptr wb] 166)).alloc (.cells (N12 9 n name r t (.slice p q c)) 28)).heap[w.heap.size]? = some (.cells #[ptr wb] 166 (0, 0)) := by
    rw [Below.heap_alloc _ _ _ (by simp)]; exact blk_new _ _
  have hn2 : ((w.alloc (.cells #[ptr wb] 166)).alloc (.cells (N12 9 n name r t (.slice p q c)) 28)).heap[w.heap.size + 1]? = some (.cells (N12 9 n name r t (.slice p q c)) 28 (0, 0)) := by
    have := blk_new (w.alloc (.cells #[ptr wb] 166)) (.cells (N12 9 n name r t (.slice p q c)) 28)
    simpa using this
  have hd : (name ++ ⟨#[40]⟩ : ByteArray).data.toList = name.data.toList ++ [40] := by simp [ByteArray.data_append]
  have hz : (name ++ ⟨#[40]⟩ : ByteArray).size = name.size + 1 := by rw [ByteArray.size_append]; rfl
  have hne : name.data.toList.length = name.size := by simp
  simp only [List.length_append, List.length_cons, List.length_nil] at hlen
  have HD := deeper72 w0.heap.size wb w.heap.size (w.heap.size + 1) y (commas xs) (name ++ ⟨#[40]⟩) ⟨#[41]⟩ d m D _ hW2 hdm (by omega) (by have e2 : (⟨#[41]⟩ : ByteArray).size = 1 := rfl; omega) (by simp; omega) (fun w1 hW1 hk1 => by
    have hp1 := hk1.blk hp2 (by decide) (by omega)
    have hn1 := hk1.blk hn2 (by decide) (by omega)
    have hb1 := (hb.trans kW2.b).trans hk1.b
    exact clos72 wb _ _ 9 n name r t p q c w1 hp1 hn1
      (fun w' => WB w' w0.heap.size wb (y ++ (name ++ ⟨#[40]⟩ : ByteArray).data.toList ++ commas xs) (d + 1) (max (max m (d + 1)) (d + 1 + D)) ∧ Kw w0.heap.size wb w1 w')
      (hA w1 wb _ (d + 1) (max m (d + 1)) hb1 hW1 (by omega) (by omega) (by rw [hd]; simp only [List.length_append, List.length_cons, List.length_nil]; omega)))
  rw [hd] at HD
  have q1 : ¬ 9223372036854775807 < name.size + (⟨#[40]⟩ : ByteArray).size := by have e2 : (⟨#[40]⟩ : ByteArray).size = 1 := rfl; omega
  have q2 : ¬ 9223372036854775807 < name.size + 1 := by omega
  have HDD : Hid (Calls Tryz.prog 141 #[ptr wb, .string (name ++ ⟨#[40]⟩), .func (.func 144) #[] #[ptr w.heap.size, ptr (w.heap.size + 1)], .string ⟨#[41]⟩] ((w.alloc (.cells #[ptr wb] 166)).alloc (.cells (N12 9 n name r t (.slice p q c)) 28)) fun e w' => e = .returned (.tuple #[]) ∧ WB w' w0.heap.size wb (y ++ (name.data.toList ++ [40]) ++ commas xs ++ (⟨#[41]⟩ : ByteArray).data.toList) d (max m (d + 1 + D)) ∧ Kw w0.heap.size wb ((w.alloc (.cells #[ptr wb] 166)).alloc (.cells (N12 9 n name r t (.slice p q c)) 28)) w') := HD
  have hmf : ∀ (fn : Fn) (first cap : Array Value) (w : World), (Instr.makeFunc fn first cap).run Tryz.prog w = .ok (.func fn first cap) w := fun _ _ _ _ => rfl
  have HK : Hid (Kw w0.heap.size wb w ((w.alloc (.cells #[ptr wb] 166)).alloc (.cells (N12 9 n name r t (.slice p q c)) 28))) := kW2
  obtain ⟨⟨a0, a1, a2, a3, a4, a5, a6, a7, a8, a9, a10, a11⟩, af⟩ := cells12 hn2
  clear HD hA kW2 hW hW2 hp2 hn2 hb hd hz hne
  go_enter Tryz.func103, Tryz.ntmps103
  go_wp2_with fail
  refine HDD.out.mono ?_
  rintro e w3 ⟨rfl, h3, k3⟩
  go_wp2_with fail
  go_end0
  refine ⟨rfl, ?_, HK.out.trans k3⟩
  rw [show d + (D + 1) = d + 1 + D from by omega]
  simpa using h3
theorem ok_kid {k n : Int} {s : ByteArray} {r t : Rf} {ts : List T} (h : Ok (.nd k n s r t ts)) {i : Nat} {u : T} (hu : ts[i]? = some u) : Ok u := by
  cases h with
  | mk _ _ hs => exact hs i u hu
/-- Any node that can be written is written. -/
theorem node_any (w0 : World) (hE : EnvW w0) {t : T} {x : List UInt8} {dp : Nat} (h : W ink t x dp) : ∀ {P : Nat → Prop} {v : Value}, Nd w0 P v t → Ok t → NodeOK w0 v x dp := by
  induction h with
  | num h0 h1 => intro P v hN _; cases hN; exact node_leaf w0 hE (.num (K := ink) h0 h1) (by decide) (by decide) (by decide) _ _ _
  | text h => intro P v hN _; cases hN; exact node_leaf w0 hE (.text (K := ink) h) (by decide) (by decide) (by decide) _ _ _
  | truth h => intro P v hN _; cases hN; exact node_leaf w0 hE (.truth (K := ink) h) (by decide) (by decide) (by decide) _ _ _
  | bad h h6 => intro P v hN _; cases hN; exact node_leaf w0 hE (.bad (K := ink) h h6) (by decide) (by decide) (by decide) _ _ _
  | ref h => intro P v hN _; cases hN; exact node_leaf w0 hE (.ref (K := ink) h) (by decide) (by decide) (by decide) _ _ _
  | box h h2 => intro P v hN _; cases hN; exact node_leaf w0 hE (.box (K := ink) h h2) (by decide) (by decide) (by decide) _ _ _
  | @neg a x d ha hw ih =>
    intro P v hN hO
    cases hN with
    | @mk _ _ _ _ _ p m c us _ hk hl hs =>
      obtain rfl : m = 1 := by rw [hk.1, hl]; rfl
      obtain ⟨g, o, u, t1, rfl, hg, hu, ht1, hc⟩ := kid_at hk hl hs 0 (by omega)
      obtain rfl : a = t1 := by simpa using ht1
      have hNu := hs 0 u a hu ht1
      have hnode := ih hNu (ok_kid hO ht1)
      have hopd := opd_any w0 hE hNu hw hnode 5
      cases hNu with
      | mk _ _ _ => exact node_neg w0 g o c _ _ _ _ _ _ _ _ _ _ _ _ hg (fun j x hx => by have := hc j x hx; simpa using this) hopd
  | @two op a b x y d e h1 h11 ha hb hx hy ihx ihy =>
    intro P v hN hO
    cases hN with
    | @mk _ _ _ _ _ p m c us _ hk hl hs =>
      obtain rfl : m = 2 := by rw [hk.1, hl]; rfl
      obtain ⟨g, o, u, t1, rfl, hg, hu, ht1, hc⟩ := kid_at hk hl hs 0 (by omega)
      obtain ⟨g', o', u', t2, hp', hg', hu', ht2, hc'⟩ := kid_at hk hl hs 1 (by omega)
      obtain ⟨rfl, rfl⟩ : g = g' ∧ o = o' := by simpa using hp'
      obtain rfl : a = t1 := by simpa using ht1
      obtain rfl : b = t2 := by simpa using ht2
      have hNu := hs 0 u a hu ht1
      have hNv := hs 1 u' b hu' ht2
      have o1 := opd_any w0 hE hNu hx (ihx hNu (ok_kid hO ht1)) (lev op)
      have o2 := opd_any w0 hE hNv hy (ihy hNv (ok_kid hO ht2)) (lev op + 1)
      cases hNu with
      | mk _ _ _ =>
        cases hNv with
        | mk _ _ _ => exact node_two w0 hE op h1 h11 g o c _ _ _ _ _ _ _ _ _ _ _ _ _ _ _ _ _ _ _ hg (fun j x hx => by have := hc j x hx; simpa using this) (fun j x hx => by have := hc' j x hx; simpa using this) o1 o2
  | @call name ts xs ds hn hx hd h ih =>
    intro P v hN hO
    cases hN with
    | @mk _ _ _ _ _ p m c us _ hk hl hs =>
      have hm : m = ts.length := by rw [hk.1, hl]
      have hO2 : ts.length ≤ 9223372036854775807 := by cases hO with | mk _ h2 _ => exact h2
      have hnm : name.size ≤ 10 := by
        unfold isNm at hn
        rw [Bool.and_eq_true, Bool.and_eq_true, decide_eq_true_eq, decide_eq_true_eq] at hn
        exact hn.1.2
      exact node_call w0 name hnm 0 _ _ p m c xs _ (fun w wb y d m' q1 q2 q3 q4 q5 => args_any w0 hk hl hs hx hd (fun i u x e g1 g2 g3 => by
        have hi : i < ts.length := by rw [← hl]; exact (List.getElem?_eq_some_iff.1 g1).1
        have g4 : ts[i]? = some ts[i] := List.getElem?_eq_getElem hi
        exact ih i _ x e g4 g2 g3 (hs i u _ g1 g4) (ok_kid hO g4)) (by omega) w wb y d m' q1 q2 q3 q4 q5)
end Go.Proofs.YtoaejcppfmjhdaaGreatDoor.fm
/- A node that can be written, as a formula's text, and its levels. Conditions: the package variables as the program's text lays them; lengths below a million. -/
namespace Go.Proofs.YtoaejcppfmjhdaaGreatDoor.fm
open Go.RowKit
set_option maxHeartbeats 4000000 in
set_option maxRecDepth 100000 in
theorem write_formula (w0 : World) (hE : EnvW w0) {P : Nat → Prop} {k n : Int} {s : ByteArray} {r t : Rf} {p : Option Addr} {q c : Nat} {T0 : T} {x : List UInt8} {dp : Nat} (hW : W ink T0 x dp) (hN : Nd w0 P (NV k n s r t (.slice p q c)) T0) (hO : Ok T0) (hd : dp ≤ 500000) (hx : x.length ≤ 900000) :
    Calls Tryz.prog 71 #[NV k n s r t (.slice p q c)] w0 fun e w' => e = .returned (.tuple #[.string ⟨(61 :: x).toArray⟩, .int .i64 (dp : Nat)]) ∧ Below w0.heap.size w0 w' := by
  have hnode := node_any w0 hE hW hN hO
  clear hW hN hO hE
  have hb0 : Below w0.heap.size w0 (w0.alloc (.cells (N12 k n s r t (.slice p q c)) 28)) := (Below.refl _ _).alloc (Nat.le_refl _) _
  have hwb : ((w0.alloc (.cells (N12 k n s r t (.slice p q c)) 28)).alloc (.cells #[.pointer none, .slice none 0 0, .int .i64 0, .int .i64 0] 143)).heap[w0.heap.size + 1]? = some (.cells #[.pointer none, .slice none 0 0, .int .i64 0, .int .i64 0] 143 (0, 0)) := by
    have := blk_new (w0.alloc (.cells (N12 k n s r t (.slice p q c)) 28)) (.cells #[.pointer none, .slice none 0 0, .int .i64 0, .int .i64 0] 143)
    simpa using this
  have hW0 : WB ((w0.alloc (.cells (N12 k n s r t (.slice p q c)) 28)).alloc (.cells #[.pointer none, .slice none 0 0, .int .i64 0, .int .i64 0] 143)) w0.heap.size (w0.heap.size + 1) [] 0 0 :=
    ⟨by omega, _, _, .inl rfl, hwb, World.ownsRowF_nil _ _ _ _⟩
  have hB0 : Below w0.heap.size w0 ((w0.alloc (.cells (N12 k n s r t (.slice p q c)) 28)).alloc (.cells #[.pointer none, .slice none 0 0, .int .i64 0, .int .i64 0] 143)) := hb0.alloc (by simp) _
  have hn0 : ((w0.alloc (.cells (N12 k n s r t (.slice p q c)) 28)).alloc (.cells #[.pointer none, .slice none 0 0, .int .i64 0, .int .i64 0] 143)).heap[w0.heap.size]? = some (.cells (N12 k n s r t (.slice p q c)) 28 (0, 0)) := by
    rw [Below.heap_alloc _ _ _ (by simp)]; exact blk_new _ _
  have HW1 := write_any w0.heap.size (w0.heap.size + 1) [] 0 0 ⟨#[61]⟩ _ hW0 (by decide) (by simp; omega)
  clear hb0 hwb hW0
  go_enter Tryz.func71, Tryz.ntmps71
  go_wp2_with fail
  refine HW1.mono ?_
  clear HW1
  rintro e w2 ⟨rfl, h2, k2⟩
  have hn2 := k2.blk hn0 (by decide) (by omega)
  have hB2 := hB0.trans k2.b
  obtain ⟨⟨a0, a1, a2, a3, a4, a5, a6, a7, a8, a9, a10, a11⟩, af⟩ := cells12 hn2
  have HC := hnode w2 (w0.heap.size + 1) _ 0 0 hB2 h2 (by omega) (by omega) (by simp; omega)
  clear hnode hn0 hB0
  go_wp2_with fail
  refine HC.mono ?_
  clear HC
  rintro e w3 ⟨rfl, h3, k3⟩
  have hB3 := hB2.trans k3.b
  rw [show max 0 (0 + dp) = dp from by omega, show ([] ++ (⟨#[61]⟩ : ByteArray).data.toList ++ x) = 61 :: x from rfl] at h3
  clear a0 a1 a2 a3 a4 a5 a6 a7 a8 a9 a10 a11 af hn2 h2 k2 k3 hB2
  have h3d := h3.drew
  have c3 := h3d.cells.1.2
  have HS : Hid (Calls Tryz.prog 104 #[ptr (w0.heap.size + 1)] w3.drew fun e w' => e = .returned (.string ⟨(61 :: x).toArray⟩) ∧ w'.heap[w0.heap.size + 1]? = w3.drew.heap[w0.heap.size + 1]? ∧ Below w0.heap.size w3.drew w') := string_any _ _ _ _ _ _ h3d (by simp)
  have KC : Hid (∀ wx : World, wx.heap[w0.heap.size + 1]? = w3.drew.heap[w0.heap.size + 1]? → wx.cell? ⟨w0.heap.size + 1, 3, none⟩ = some (.int .i64 (dp : Nat))) := fun wx hx => by
    rw [World.cell?_of_block hx]; exact c3
  have HB3 : Hid (Below w0.heap.size w0 w3.drew) := hB3.drew
  obtain ⟨Z, hZ⟩ : ∃ Z : ByteArray, ⟨(61 :: x).toArray⟩ = Z := ⟨_, rfl⟩
  rw [hZ] at HS
  have HZ : Hid (⟨(61 :: x).toArray⟩ = Z) := hZ
  clear hZ h3 h3d hB3
  go_wp2_with fail
  go_region_held3 (fun wx => wx.cell? ⟨w0.heap.size + 1, 3, none⟩ = some (.int .i64 (dp : Nat))) (first | exact KC.out _ rfl | exact KC.out _ q4) (first | (go_at_call 104; with_reducible refine HS.out.mono ?_; rintro e w4 ⟨rfl, q4, b4⟩))
  all_goals
    go_wp2_with fail
    go_ret2
    exact ⟨by rw [HZ.out]; rfl, HB3.out.trans b4⟩
end Go.Proofs.YtoaejcppfmjhdaaGreatDoor.fm
/- Print: a node's text, or what is wrong with it. Conditions: the package variables as the program's text lays them; numbers of 64 bits, lists of children below 2^47. -/
namespace Go.Proofs.YtoaejcppfmjhdaaGreatDoor.fm
open Go.RowKit
theorem commas_len : ∀ (ts : List T) (xs : List (List UInt8)), xs.length = ts.length → (∀ (i : Nat) t x, ts[i]? = some t → xs[i]? = some x → x.length + 2 ≤ 500 * t.cnt) → (xs.flatMap (fun y => 44 :: y)).length ≤ 500 * cntL ts
  | [], [], _, _ => by simp
  | [], _ :: _, h, _ => by simp at h
  | _ :: _, [], h, _ => by simp at h
  | t :: ts, x :: xs, hl, h => by
    have h0 := h 0 t x (by simp) (by simp)
    have h1 := commas_len ts xs (by simpa using hl) (fun i t x a b => h (i + 1) t x (by simpa using a) (by simpa using b))
    simp only [List.flatMap_cons, List.length_append, List.length_cons, cntL]
    omega
theorem commas_flat (xs : List (List UInt8)) : (commas xs).length ≤ (xs.flatMap (fun y => 44 :: y)).length := by
  cases xs with
  | nil => simp [commas]
  | cons x xs => rw [commas_cons]; simp
theorem piece_le : ∀ (xs : List (List UInt8)) (i : Nat) (x : List UInt8), xs[i]? = some x → x.length ≤ (commas xs).length
  | [], i, x, h => by simp at h
  | y :: ys, i, x, h => by
    rw [commas_cons]
    cases i with
    | zero => simp at h; subst h; simp
    | succ i =>
      have h1 := piece_le ys i x (by simpa using h)
      have h2 := commas_flat ys
      simp only [List.length_append]; omega
theorem fold_le (ds : List Nat) (N : Nat) (h : ∀ (i : Nat) d, ds[i]? = some d → d ≤ N) : ds.foldr max 0 ≤ N := by
  induction ds with
  | nil => simp
  | cons a ds ih =>
    have h0 := h 0 a (by simp)
    have h1 := ih (fun i d hd => h (i + 1) d (by simpa using hd))
    simp only [List.foldr_cons]; omega
theorem len_le {t : T} {x : List UInt8} {dp : Nat} (h : W ink t x dp) : x.length + 2 ≤ 500 * t.cnt ∧ dp ≤ x.length := by
  induction h with
  | @num n h0 h1 =>
    have h2 : (Lib.itoa n).length ≤ 20 := by first | exact itoa_len n (by omega) h1 | exact Lib.itoa_len n (by omega) h1
    have h3 : (ink.num n).length = (Lib.itoa n).length := rfl
    simp only [T.cnt, cntL]; omega
  | @text s hs =>
    have h1 := dbl_le s.data.toList
    have h2 : s.data.toList.length = s.size := by simp
    simp only [T.cnt, cntL, List.length_cons, List.length_append, List.length_nil]; omega
  | @truth n h => rcases h with rfl | rfl <;> simp [T.cnt, cntL, truT]
  | @bad n h h6 =>
    have hc : n = 1 ∨ n = 2 ∨ n = 3 ∨ n = 4 ∨ n = 5 ∨ n = 6 := by omega
    rcases hc with rfl | rfl | rfl | rfl | rfl | rfl <;> simp [T.cnt, cntL, badT]
  | @ref r h =>
    have h1 := ref_size r h
    have h2 : (⟨(ink.ref r).toArray⟩ : ByteArray).size = (ink.ref r).length := by show (ink.ref r).toArray.size = _; simp
    simp only [T.cnt, cntL]; omega
  | @box r t h h2 =>
    have h1 := ref_size r h
    have h3 := ref_size t h2
    have h4 : (⟨(ink.ref r).toArray⟩ : ByteArray).size = (ink.ref r).length := by show (ink.ref r).toArray.size = _; simp
    have h5 : (⟨(ink.ref t).toArray⟩ : ByteArray).size = (ink.ref t).length := by show (ink.ref t).toArray.size = _; simp
    simp only [T.cnt, cntL, List.length_append, List.length_cons]; omega
  | @neg a x d ha h ih =>
    have h1 := brk_len 5 a x
    have h2 : brd 5 a d ≤ (brk 5 a x).length := by unfold brk brd; split <;> (try simp only [List.length_cons, List.length_append, List.length_nil]) <;> omega
    simp only [T.cnt, cntL, List.length_cons]; omega
  | @two op a b x y d e h1 h11 ha hb hx hy ihx ihy =>
    have q1 := brk_len (lev op) a x
    have q2 := brk_len (lev op + 1) b y
    have q3 : brd (lev op) a d ≤ (brk (lev op) a x).length := by unfold brk brd; split <;> (try simp only [List.length_cons, List.length_append, List.length_nil]) <;> omega
    have q4 : brd (lev op + 1) b e ≤ (brk (lev op + 1) b y).length := by unfold brk brd; split <;> (try simp only [List.length_cons, List.length_append, List.length_nil]) <;> omega
    have q5 := (opTxt_T h1 h11)
    have q6 : (opT op).length ≤ 2 := by rw [← q5.1]; have := q5.2; simpa using this
    simp only [T.cnt, cntL, List.length_append]; omega
  | @call name ts xs ds hn hx hd h ih =>
    have hnm : name.size ≤ 10 := by
      unfold isNm at hn
      rw [Bool.and_eq_true, Bool.and_eq_true, decide_eq_true_eq, decide_eq_true_eq] at hn
      exact hn.1.2
    have h0 : name.data.toList.length = name.size := by simp
    have hds : ∀ (i : Nat) t x, ts[i]? = some t → xs[i]? = some x → ∃ e, ds[i]? = some e := fun i t x a _ => ⟨_, List.getElem?_eq_getElem (by rw [hd]; exact (List.getElem?_eq_some_iff.1 a).1)⟩
    have h1 := commas_len ts xs hx (fun i t x a b => by obtain ⟨e, he⟩ := hds i t x a b; exact (ih i t x e a b he).1)
    have h2 := commas_flat xs
    have h3 := fold_le ds (commas xs).length (fun i e he => by
      have hi := (List.getElem?_eq_some_iff.1 he).1
      have a : ts[i]? = some ts[i] := List.getElem?_eq_getElem (by omega)
      have b : xs[i]? = some xs[i] := List.getElem?_eq_getElem (by omega)
      have h4 := (ih i _ _ e a b he).2
      have h5 := piece_le xs i _ b
      omega)
    rw [cnt_eq]
    simp only [List.length_append, List.length_cons, List.length_nil]; omega
set_option maxHeartbeats 4000000 in
set_option maxRecDepth 100000 in
theorem isExpr_any {w : World} {P : Nat → Prop} {k n : Int} {s : ByteArray} {r t : Rf} {p : Option Addr} {q c : Nat} {T0 : T} (h : Nd w P (NV k n s r t (.slice p q c)) T0) (hO : Ok T0) (w1 : World) (hb : Below w.heap.size w w1) :
    Calls Tryz.prog 70 #[NV k n s r t (.slice p q c)] w1 fun e w' => ∃ b, e = .returned (.bool b) ∧ (b = true ↔ k ≠ 6 ∧ Wf T0) ∧ Below w1.heap.size w1 w' := by
  have hS0 := OB.start hb (N12 k n s r t (.slice p q c))
  obtain ⟨⟨a0, a1, a2, a3, a4, a5, a6, a7, a8, a9, a10, a11⟩, af⟩ := cells12 hS0.a
  have HC := isNode_any h hO _ hS0.below
  clear h hO
  by_cases h6 : k = 6
  · subst h6
    clear HC
    go_enter Tryz.func70, Tryz.ntmps70
    go_wp2_with fail
    go_ret
    exact ⟨_, rfl, by simp, hS0.below1⟩
  · have H6 : Hid (¬ k = 6) := h6
    go_enter Tryz.func70, Tryz.ntmps70
    go_wp2_with fail
    refine HC.mono ?_
    rintro e w2 ⟨b, rfl, hbw, hb2⟩
    have HB : Hid (b = true ↔ Wf T0) := hbw
    clear hbw
    go_wp2_with fail
    go_ret
    refine ⟨_, rfl, ?_, (hS0.next hb2).below1⟩
    rw [Bool.and_eq_true, HB.out]
    simp
end Go.Proofs.YtoaejcppfmjhdaaGreatDoor.fm
/- Print: a node's text, or what is wrong with it. Conditions: the package variables as the program's text lays them; numbers of 64 bits, lists of children below 2^47. -/
namespace Go.Proofs.YtoaejcppfmjhdaaGreatDoor.fm
open Go.RowKit
def prV (x : List UInt8) (dp : Nat) : Value := if x.length + 1 ≤ 200 ∧ dp ≤ 30 then .tuple #[.string ⟨(61 :: x).toArray⟩, .nilIface] else .tuple #[.string nul, .iface 62 (.int .i64 4)]
set_option maxHeartbeats 4000000 in
set_option maxRecDepth 100000 in
theorem print_ok (w0 : World) (hE : EnvW w0) {P : Nat → Prop} (hP : ∀ b, P b → b < w0.heap.size) {k n : Int} {s : ByteArray} {r t : Rf} {p : Option Addr} {q c : Nat} {T0 : T} {x : List UInt8} {dp : Nat} (hW : W ink T0 x dp) (hN : Nd w0 P (NV k n s r t (.slice p q c)) T0) (hO : Ok T0) (h6 : k ≠ 6) (hc : T0.cnt ≤ 200) :
    Calls Tryz.prog 41 #[NV k n s r t (.slice p q c)] w0 fun e w' => e = .returned (prV x dp) ∧ Below w0.heap.size w0 w' := by
  have hS0 := OB.start (Below.refl w0.heap.size w0) (N12 k n s r t (.slice p q c))
  have hlen := len_le hW
  have H1 := count_any hN hO.bd 200 (by omega) _ hS0.below
  rw [show min T0.cnt (200 + 1) = T0.cnt from by omega] at H1
  have H2 : Hid (∀ w1, Below w0.heap.size w0 w1 → Calls Tryz.prog 70 #[NV k n s r t (.slice p q c)] w1 fun e w' => e = .returned (.bool true) ∧ Below w1.heap.size w1 w') := fun w1 hb => by
    refine (isExpr_any hN hO w1 hb).mono ?_
    rintro e w' ⟨b, rfl, hb1, hb2⟩
    rw [hb1.2 ⟨h6, _, _, hW⟩]
    exact ⟨rfl, hb2⟩
  have H3 : Hid (∀ w1, Below w0.heap.size w0 w1 → Calls Tryz.prog 71 #[NV k n s r t (.slice p q c)] w1 fun e w' => e = .returned (.tuple #[.string ⟨(61 :: x).toArray⟩, .int .i64 (dp : Nat)]) ∧ Below w1.heap.size w1 w') := fun w1 hb =>
    write_formula w1 (hE.next hb) hW (hN.mono (fun b hb' => hb.block b (hP b hb')) (fun _ h => h)) hO (by omega) (by omega)
  have hcc : ¬ ((T0.cnt : Nat) : Int) > 200 := by omega
  have hsz : (⟨(61 :: x).toArray⟩ : ByteArray).size = x.length + 1 := by show (61 :: x).toArray.size = _; simp
  obtain ⟨Z, hZ⟩ : ∃ Z : ByteArray, ⟨(61 :: x).toArray⟩ = Z := ⟨_, rfl⟩
  have HV : Hid (prV x dp = if x.length + 1 ≤ 200 ∧ dp ≤ 30 then .tuple #[.string Z, .nilIface] else .tuple #[.string nul, .iface 62 (.int .i64 4)]) := by unfold Hid prV; rw [hZ]
  rw [hZ] at H3 hsz
  have HSZ : Hid (Z.size = x.length + 1) := hsz
  obtain ⟨V, hV⟩ : ∃ V, prV x dp = V := ⟨_, rfl⟩
  rw [hV] at HV ⊢
  clear hZ hV hsz hW hN hO hE hP h6 hc hlen
  obtain ⟨⟨a0, a1, a2, a3, a4, a5, a6, a7, a8, a9, a10, a11⟩, af⟩ := cells12 hS0.a
  go_enter Tryz.func41, Tryz.ntmps41
  go_wp2_with fail
  refine H1.mono ?_
  rintro e w1 ⟨rfl, hb1⟩
  have hS1 := hS0.next hb1
  clear a0 a1 a2 a3 a4 a5 a6 a7 a8 a9 a10 a11 af hS0 hb1 H1
  obtain ⟨⟨a0, a1, a2, a3, a4, a5, a6, a7, a8, a9, a10, a11⟩, af⟩ := cells12 hS1.a
  go_wp2_with fail
  refine (H2.out _ hS1.below).mono ?_
  rintro e w2 ⟨rfl, hb2⟩
  have hS2 := hS1.next hb2
  clear a0 a1 a2 a3 a4 a5 a6 a7 a8 a9 a10 a11 af hS1 hb2 H2
  obtain ⟨⟨a0, a1, a2, a3, a4, a5, a6, a7, a8, a9, a10, a11⟩, af⟩ := cells12 hS2.a
  go_wp2_with fail
  refine (H3.out _ hS2.below).mono ?_
  rintro e w3 ⟨rfl, hb3⟩
  have hS3 := hS2.next hb3
  clear a0 a1 a2 a3 a4 a5 a6 a7 a8 a9 a10 a11 af hS2 hb3 H3
  by_cases g1 : (200 : Int) < (Z.size : Int)
  · have HG : Hid (V = .tuple #[.string nul, .iface 62 (.int .i64 4)]) := by unfold Hid; rw [HV.out, if_neg (by have := HSZ.out; omega)]
    clear HV
    go_wp2_with fail
    go_ret2
    exact ⟨by rw [HG.out]; rfl, hS3.below⟩
  · by_cases g2 : (30 : Int) < (dp : Int)
    · have HG : Hid (V = .tuple #[.string nul, .iface 62 (.int .i64 4)]) := by unfold Hid; rw [HV.out, if_neg (by omega)]
      clear HV
      go_wp2_with fail
      go_ret2
      exact ⟨by rw [HG.out]; rfl, hS3.below⟩
    · have HG : Hid (V = .tuple #[.string Z, .nilIface]) := by unfold Hid; rw [HV.out, if_pos (by have := HSZ.out; omega)]
      clear HV
      go_wp2_with fail
      go_ret2
      exact ⟨by rw [HG.out]; rfl, hS3.below⟩
set_option maxHeartbeats 4000000 in
set_option maxRecDepth 100000 in
theorem print_err (w0 : World) {P : Nat → Prop} {k n : Int} {s : ByteArray} {r t : Rf} {p : Option Addr} {q c : Nat} {T0 : T} (hN : Nd w0 P (NV k n s r t (.slice p q c)) T0) (hO : Ok T0) (h : ¬ T0.cnt ≤ 200 ∨ ¬ (k ≠ 6 ∧ Wf T0)) :
    Calls Tryz.prog 41 #[NV k n s r t (.slice p q c)] w0 fun e w' => (∃ a : Int, e = .returned (.tuple #[.string nul, .iface 62 (.int .i64 a)])) ∧ Below w0.heap.size w0 w' := by
  have hS0 := OB.start (Below.refl w0.heap.size w0) (N12 k n s r t (.slice p q c))
  have H1 := count_any hN hO.bd 200 (by omega) _ hS0.below
  have H2 : Hid (∀ w1, Below w0.heap.size w0 w1 → Calls Tryz.prog 70 #[NV k n s r t (.slice p q c)] w1 fun e w' => ∃ b, e = .returned (.bool b) ∧ (b = true ↔ k ≠ 6 ∧ Wf T0) ∧ Below w1.heap.size w1 w') := fun w1 hb => isExpr_any hN hO w1 hb
  have HH : Hid (¬ T0.cnt ≤ 200 ∨ ¬ (k ≠ 6 ∧ Wf T0)) := h
  obtain ⟨C, hC⟩ : ∃ C : Nat, min T0.cnt (200 + 1) = C := ⟨_, rfl⟩
  have HC : Hid (min T0.cnt (200 + 1) = C) := hC
  rw [hC] at H1
  clear h hN hO hC
  obtain ⟨⟨a0, a1, a2, a3, a4, a5, a6, a7, a8, a9, a10, a11⟩, af⟩ := cells12 hS0.a
  go_enter Tryz.func41, Tryz.ntmps41
  go_wp2_with fail
  refine H1.mono ?_
  rintro e w1 ⟨rfl, hb1⟩
  have hS1 := hS0.next hb1
  clear a0 a1 a2 a3 a4 a5 a6 a7 a8 a9 a10 a11 af hS0 hb1 H1
  obtain ⟨⟨a0, a1, a2, a3, a4, a5, a6, a7, a8, a9, a10, a11⟩, af⟩ := cells12 hS1.a
  by_cases g : (200 : Int) < (C : Int)
  · go_wp2_with fail
    go_ret2
    exact ⟨⟨_, rfl⟩, hS1.below⟩
  · have HF : Hid (¬ (k ≠ 6 ∧ Wf T0)) := by
      unfold Hid
      rcases HH.out with h | h
      · have := HC.out; omega
      · exact h
    go_wp2_with fail
    refine (H2.out _ hS1.below).mono ?_
    rintro e w2 ⟨b, rfl, hb, hb2⟩
    have hS2 := hS1.next hb2
    have hbf : b = false := by
      cases b with
      | false => rfl
      | true => exact absurd (hb.1 rfl) HF.out
    subst hbf
    clear hb
    go_wp2_with fail
    go_ret2
    exact ⟨⟨_, rfl⟩, hS2.below⟩
end Go.Proofs.YtoaejcppfmjhdaaGreatDoor.fm
/- Package eval: Eval as a whole. Conditions: the package variables as the program's text lays them; of the rest as each theorem says. -/
namespace Go.Proofs.YtoaejcppfmjhdaaGreatDoor.fm
open Go.RowKit
theorem nd_kd {w : World} {P : Nat → Prop} {V : Value} {T0 : T} (h : Nd w P V T0) (k n : Int) (s : ByteArray) (r t : Rf) (v : Value) (hv : V = NV k n s r t v) : T0.kd = k := by
  cases h with
  | @mk k' n' s' r' t' p' m' c' us ts hk hl hs =>
    have e : (NV k' n' s' r' t' (.slice p' m' c')).cells.toList[0]? = (NV k n s r t v).cells.toList[0]? := by rw [hv]
    have e2 : (some (Value.int .i64 k') : Option Value) = some (.int .i64 k) := e
    injection e2 with e3
    injection e3
def Ckd (t : T) : Prop := ∃ x dp, W ink t x dp ∧ t.kd ≠ 6 ∧ t.cnt ≤ 200 ∧ x.length + 1 ≤ 200 ∧ dp ≤ 30
set_option maxRecDepth 100000 in
set_option maxHeartbeats 4000000 in
theorem check_yes (w : World) (hE : EnvW w) {P : Nat → Prop} (hP : ∀ b, P b → b < w.heap.size) {k n : Int} {s : ByteArray} {r t : Rf} {p : Option Addr} {q c : Nat} {T0 : T} (hN : Nd w P (NV k n s r t (.slice p q c)) T0) (hO : Ok T0) (h : Ckd T0) :
    Calls Tryz.prog 27 #[NV k n s r t (.slice p q c)] w fun e w' => e = .returned .nilIface ∧ Below w.heap.size w w' := by
  obtain ⟨x, dp, hw, h6, hc, hl, hd⟩ := h
  have hS := OB.start (Below.refl w.heap.size w) (N12 k n s r t (.slice p q c))
  have hb0 := hS.below
  have HP := print_ok (w.alloc (.cells (N12 k n s r t (.slice p q c)) 28)) (hE.next hb0) (P := P) (fun b hb2 => Nat.lt_of_lt_of_le (hP b hb2) hb0.size) hw (hN.mono (fun b hb => hb0.block b (hP b hb)) (fun _ h => h)) hO (by rw [← nd_kd hN k n s r t _ rfl]; exact h6) hc
  unfold prV at HP
  rw [if_pos ⟨hl, hd⟩] at HP
  obtain ⟨Z0, hZ0⟩ : ∃ Z0 : ByteArray, ⟨(61 :: x).toArray⟩ = Z0 := ⟨_, rfl⟩
  rw [hZ0] at HP
  clear hZ0 hw h6 hc hl hd hN hO hP hE
  obtain ⟨⟨a0, a1, a2, a3, a4, a5, a6, a7, a8, a9, a10, a11⟩, af⟩ := cells12 hS.a
  go_enter Tryz.func27, Tryz.ntmps27
  go_wp2_with fail
  refine HP.mono ?_
  rintro e w1 ⟨rfl, hb1⟩
  go_wp2_with fail
  go_ret
  exact ⟨rfl, bnext hb0 hb1 hb0.size⟩
end Go.Proofs.YtoaejcppfmjhdaaGreatDoor.fm
namespace Go.Proofs.YtoaejcppfmjhdaaGreatDoor.ev
open Go.RowKit
open fm (N12)
/-- A tree that lies in a world. -/
def In (wx : World) (v : Value) (t : fm.T) : Prop := fm.Nd wx (fun b => b < wx.heap.size) v t
theorem In.next {wx wy : World} {v : Value} {t : fm.T} (h : In wx v t) (hb : Below wx.heap.size wx wy) : In wy v t :=
  fm.Nd.mono h (fun b hq => hb.block b hq) (fun _ h => Nat.lt_of_lt_of_le h hb.size)
set_option maxRecDepth 100000 in
set_option maxHeartbeats 4000000 in
theorem eval_any {k n : Int} {s : ByteArray} {r t : fm.Rf} {p : Option Addr} {q c : Nat} {T0 : fm.T} (w : World) (hE : fm.EnvW w) (hN : In w (fm.NV k n s r t (.slice p q c)) T0) (hO : fm.Ok T0) (hC : fm.Ckd T0)
    (pl : Option Addr) (cl : Nat) (xs : List Sh) (hx : ShL w pl xs) (hok : ShOk xs) (hlen : xs.length ≤ 1000) {kr mr : Int} {zr : ByteArray} (hV : Ev (vals xs fun _ => none) T0 kr mr zr) :
    Calls Tryz.prog 9 #[fm.NV k n s r t (.slice p q c), .slice pl xs.length cl] w fun e w' => e = .returned (.tuple #[VV kr mr zr, .nilIface]) ∧ Below w.heap.size w w' := by
  have HCK : Hid (∀ wx, Below w.heap.size w wx → Calls Tryz.prog 27 #[fm.NV k n s r t (.slice p q c)] wx fun e w' => e = .returned .nilIface ∧ Below wx.heap.size wx w') := fun wx hb => by
    exact fm.check_yes wx (hE.next hb) (fun _ h => h) (hN.next hb) hO hC
  have HSH : Hid (∀ wx, Below w.heap.size w wx → Calls Tryz.prog 28 #[.slice pl xs.length cl] wx fun e w' => ∃ mb, e = .returned (.tuple #[.map (some mb), .nilIface]) ∧ mp.CM Tryz.prog 23 w' mb (vals xs fun _ => none) ∧ mb < w'.heap.size ∧ Below wx.heap.size wx w') := fun wx hb => by
    refine (sheetOf_any pl cl xs wx (hx.next hb) hok (by omega)).mono ?_
    rintro e w' ⟨rfl, h1, h2, h3⟩
    exact ⟨_, rfl, h1, h2, h3⟩
  have HWO : Hid (∀ wx mb, Below w.heap.size w wx → mp.CM Tryz.prog 23 wx mb (vals xs fun _ => none) → mb < wx.heap.size → Calls Tryz.prog 29 #[.map (some mb), fm.NV k n s r t (.slice p q c)] wx fun e w' => e = .returned (VV kr mr zr) ∧ Below wx.heap.size wx w') := fun wx mb hb hm hl => by
    have hE' := hE.next hb
    exact wo_ev hV wx _ _ mb (hN.next hb) ⟨hm, hl, hE'.m, by have := hE'.lt; omega⟩ wx (Below.refl _ _)
  obtain ⟨hA, hR⟩ := two_new w (.cells (N12 k n s r t (.slice p q c)) 28) (.cells #[.int .i64 0, .int .i64 0, .string nul] 31)
  have hbW : Below w.heap.size w ((w.alloc (.cells (N12 k n s r t (.slice p q c)) 28)).alloc (.cells #[.int .i64 0, .int .i64 0, .string nul] 31)) := ((Below.refl _ _).alloc (Nat.le_refl _) _).alloc (by simp) _
  obtain ⟨⟨a0, a1, a2, a3, a4, a5, a6, a7, a8, a9, a10, a11⟩, -⟩ := fm.cells12 hA
  have HR : Hid (∀ wx, Below ((w.alloc (.cells (N12 k n s r t (.slice p q c)) 28)).alloc (.cells #[.int .i64 0, .int .i64 0, .string nul] 31)).heap.size ((w.alloc (.cells (N12 k n s r t (.slice p q c)) 28)).alloc (.cells #[.int .i64 0, .int .i64 0, .string nul] 31)) wx → wx.heap[w.heap.size]? = some (.cells (N12 k n s r t (.slice p q c)) 28 (0, 0)) ∧ wx.heap[w.heap.size + 1]? = some (.cells #[.int .i64 0, .int .i64 0, .string nul] 31 (0, 0)) ∧ Below w.heap.size w wx) := fun wx h => ⟨(h.block _ (fm.lt_blk hA)).trans hA, (h.block _ (fm.lt_blk hR)).trans hR, bnext hbW h hbW.size⟩
  have HB0 : Hid (Below w.heap.size w ((w.alloc (.cells (N12 k n s r t (.slice p q c)) 28)).alloc (.cells #[.int .i64 0, .int .i64 0, .string nul] 31))) := hbW
  clear hA hR hbW hE hN hO hC hx hok hlen hV
  go_enter Tryz.func9, Tryz.ntmps9
  go_wp2_with fail
  refine (HCK.out _ HB0.out).mono ?_
  clear a0 a1 a2 a3 a4 a5 a6 a7 a8 a9 a10 a11
  rintro e w1 ⟨rfl, hb1⟩
  have HB1 : Hid (Below ((w.alloc (.cells (N12 k n s r t (.slice p q c)) 28)).alloc (.cells #[.int .i64 0, .int .i64 0, .string nul] 31)).heap.size ((w.alloc (.cells (N12 k n s r t (.slice p q c)) 28)).alloc (.cells #[.int .i64 0, .int .i64 0, .string nul] 31)) w1) := hb1
  clear hb1
  go_wp2_with fail
  refine (HSH.out _ (HR.out _ HB1.out).2.2).mono ?_
  rintro e w2 ⟨mb, rfl, hm, hlt, hb2⟩
  have HM : Hid (mp.CM Tryz.prog 23 w2 mb (vals xs fun _ => none) ∧ mb < w2.heap.size) := ⟨hm, hlt⟩
  have HB2 : Hid (Below ((w.alloc (.cells (N12 k n s r t (.slice p q c)) 28)).alloc (.cells #[.int .i64 0, .int .i64 0, .string nul] 31)).heap.size ((w.alloc (.cells (N12 k n s r t (.slice p q c)) 28)).alloc (.cells #[.int .i64 0, .int .i64 0, .string nul] 31)) w2) := bnext HB1.out hb2 HB1.out.size
  obtain ⟨⟨a0, a1, a2, a3, a4, a5, a6, a7, a8, a9, a10, a11⟩, -⟩ := fm.cells12 (HR.out _ HB2.out).1
  clear hm hlt hb2 HB1
  go_wp2_with fail
  refine (HWO.out _ mb (HR.out _ HB2.out).2.2 HM.out.1 HM.out.2).mono ?_
  clear a0 a1 a2 a3 a4 a5 a6 a7 a8 a9 a10 a11
  rintro e w3 ⟨rfl, hb3⟩
  obtain ⟨-, hq1, hb4⟩ := HR.out w3 (bnext HB2.out hb3 HB2.out.size)
  have HB : Hid (Below w.heap.size w w3) := hb4
  obtain ⟨c0, c1, c2⟩ := cells3v hq1
  have f0 : ∀ o, w3.frozen? ⟨w.heap.size + 1, o, none⟩ = false := frz hq1
  have HQ1 : Hid (w3.heap[w.heap.size + 1]? = some (.cells #[.int .i64 0, .int .i64 0, .string nul] 31 (0, 0))) := hq1
  clear hq1 hb3 hb4 HR HB2 HM HWO HSH HCK HB0
  go_wp2_with fail
  refine fin3 HQ1.out (Q := bodyPost _ _ _ _ _) ?_
  clear c0 c1 c2 f0
  intro w4 hq4 hk4
  obtain ⟨d0, d1, d2⟩ := cells3v hq4
  exact bodyPost_ret (v := .tuple #[VV kr mr zr, .nilIface]) (by simp [results, Tryz.results9, go_sem, d0, d1, d2]) rfl ⟨rfl, HB.out.trans (hk4 _ (by omega))⟩
set_option maxRecDepth 100000 in
set_option maxHeartbeats 4000000 in
theorem works_any {k n : Int} {s : ByteArray} {r t : fm.Rf} {p : Option Addr} {q c : Nat} {T0 : fm.T} (w : World) (hE : fm.EnvW w) (hN : In w (fm.NV k n s r t (.slice p q c)) T0) (hO : fm.Ok T0) (hC : fm.Ckd T0)
    (pl : Option Addr) (cl : Nat) (xs : List Sh) (hx : ShL w pl xs) (hok : ShOk xs) (hlen : xs.length ≤ 1000) {kr mr : Int} {zr : ByteArray} (hV : Ev (vals xs fun _ => none) T0 kr mr zr) :
    Calls Tryz.prog 14 #[fm.NV k n s r t (.slice p q c), .slice pl xs.length cl] w fun e w' => e = .returned (.tuple #[VV kr mr zr, .bool true]) ∧ Below w.heap.size w w' := by
  have HEV : Hid (∀ wx, Below w.heap.size w wx → Calls Tryz.prog 9 #[fm.NV k n s r t (.slice p q c), .slice pl xs.length cl] wx fun e w' => e = .returned (.tuple #[VV kr mr zr, .nilIface]) ∧ Below wx.heap.size wx w') := fun wx hb =>
    eval_any wx (hE.next hb) (hN.next hb) hO hC pl cl xs (hx.next hb) hok hlen hV
  obtain ⟨hA, hR⟩ := two_new w (.cells (N12 k n s r t (.slice p q c)) 28) (.cells #[.int .i64 0, .int .i64 0, .string nul] 31)
  have hbW : Below w.heap.size w ((w.alloc (.cells (N12 k n s r t (.slice p q c)) 28)).alloc (.cells #[.int .i64 0, .int .i64 0, .string nul] 31)) := ((Below.refl _ _).alloc (Nat.le_refl _) _).alloc (by simp) _
  obtain ⟨⟨a0, a1, a2, a3, a4, a5, a6, a7, a8, a9, a10, a11⟩, -⟩ := fm.cells12 hA
  have HR : Hid (∀ wx, Below ((w.alloc (.cells (N12 k n s r t (.slice p q c)) 28)).alloc (.cells #[.int .i64 0, .int .i64 0, .string nul] 31)).heap.size ((w.alloc (.cells (N12 k n s r t (.slice p q c)) 28)).alloc (.cells #[.int .i64 0, .int .i64 0, .string nul] 31)) wx → wx.heap[w.heap.size + 1]? = some (.cells #[.int .i64 0, .int .i64 0, .string nul] 31 (0, 0)) ∧ Below w.heap.size w wx) := fun wx h => ⟨(h.block _ (fm.lt_blk hR)).trans hR, bnext hbW h hbW.size⟩
  have HB0 : Hid (Below w.heap.size w ((w.alloc (.cells (N12 k n s r t (.slice p q c)) 28)).alloc (.cells #[.int .i64 0, .int .i64 0, .string nul] 31))) := hbW
  clear hA hR hbW hE hN hO hC hx hok hlen hV
  go_enter Tryz.func14, Tryz.ntmps14
  go_wp2_with fail
  refine (HEV.out _ HB0.out).mono ?_
  clear a0 a1 a2 a3 a4 a5 a6 a7 a8 a9 a10 a11
  rintro e w1 ⟨rfl, hb1⟩
  obtain ⟨V1, hV1⟩ : ∃ V1, V1 = w1.alloc (.cells #[.int .i64 kr, .int .i64 mr, .string zr] 31) := ⟨_, rfl⟩
  have hbv : Below w1.heap.size w1 V1 := by rw [hV1]; exact (Below.refl _ _).alloc (Nat.le_refl _) _
  obtain ⟨hq1, hb4⟩ := HR.out V1 (bnext hb1 hbv hb1.size)
  have hv0 : V1.heap[w1.heap.size]? = some (.cells #[.int .i64 kr, .int .i64 mr, .string zr] 31 (0, 0)) := by rw [hV1]; exact heap_alloc_new _ _
  have HB : Hid (Below w.heap.size w V1) := hb4
  obtain ⟨v0, v1, v2⟩ := cells3v hv0
  obtain ⟨c0, c1, c2⟩ := cells3v hq1
  have f0 : ∀ o, V1.frozen? ⟨w.heap.size + 1, o, none⟩ = false := frz hq1
  have HQ1 : Hid (V1.heap[w.heap.size + 1]? = some (.cells #[.int .i64 0, .int .i64 0, .string nul] 31 (0, 0))) := hq1
  have HVV : Hid (w1.alloc (.cells #[.int .i64 kr, .int .i64 mr, .string zr] 31) = V1) := hV1.symm
  rw [hV1] at v0 v1 v2 c0 c1 c2 f0
  clear hq1 hb1 hb4 hbv hv0 HR HEV HB0 hV1
  go_wp2_with fail
  go_region
  all_goals
    go_wp2_with fail
    rw [HVV.out] at *
    refine fin3 (w := World.drew V1) (t := 31) HQ1.out (Q := bodyPost _ _ _ _ _) ?_
    clear c0 c1 c2 f0
    intro w4 hq4 hk4
    obtain ⟨d0, d1, d2⟩ := cells3v hq4
    exact bodyPost_ret (v := .tuple #[VV kr mr zr, .bool true]) (by simp [results, Tryz.results14, go_sem, d0, d1, d2]) rfl ⟨rfl, HB.out.drew.trans (hk4 _ (by omega))⟩
end Go.Proofs.YtoaejcppfmjhdaaGreatDoor.ev

/- Package eval: Eval as a whole. Conditions: the package variables as the program's text lays them; of the rest as each theorem says. -/
import Derived.Test.YtoebppmagkijjaaGreatDoorEq
import Derived.Test.YtoebppmagkijjaaGreatDoorEr
import Derived.Test.YtoebppmagkijjaaGreatDoorPq
namespace Go.Proofs.YtoebppmagkijjaaGreatDoor.fm
open Go.RowKit
theorem nd_kd {w : World} {P : Nat → Prop} {V : Value} {T0 : T} (h : Nd w P V T0) (k n : Int) (s : ByteArray) (r t : Rf) (v : Value) (hv : V = NV k n s r t v) : T0.kd = k := by
  cases h with
  | @mk k' n' s' r' t' p' m' c' us ts hk hl hs =>
    have e : (NV k' n' s' r' t' (.slice p' m' c')).cells.toList[0]? = (NV k n s r t v).cells.toList[0]? := by rw [hv]
    have e2 : (some (Value.int .i64 k') : Option Value) = some (.int .i64 k) := e
    injection e2 with e3
    injection e3
def Ckd (t : T) : Prop := ∃ x dp, W ink t x dp ∧ t.kd ≠ 6 ∧ t.cnt ≤ 200 ∧ x.length + 1 ≤ 200 ∧ dp ≤ 30
set_option maxRecDepth 100000 in
set_option maxHeartbeats 4000000 in
theorem check_yes (w : World) (hE : EnvW w) {P : Nat → Prop} (hP : ∀ b, P b → b < w.heap.size) {k n : Int} {s : ByteArray} {r t : Rf} {p : Option Addr} {q c : Nat} {T0 : T} (hN : Nd w P (NV k n s r t (.slice p q c)) T0) (hO : Ok T0) (h : Ckd T0) :
    Calls Tryz.prog 27 #[NV k n s r t (.slice p q c)] w fun e w' => e = .returned .nilIface ∧ Below w.heap.size w w' := by
  obtain ⟨x, dp, hw, h6, hc, hl, hd⟩ := h
  have hS := OB.start (Below.refl w.heap.size w) (N12 k n s r t (.slice p q c))
  have hb0 := hS.below
  have HP := print_ok (w.alloc (.cells (N12 k n s r t (.slice p q c)) 28)) (hE.next hb0) (P := P) (fun b hb2 => Nat.lt_of_lt_of_le (hP b hb2) hb0.size) hw (hN.mono (fun b hb => hb0.block b (hP b hb)) (fun _ h => h)) hO (by rw [← nd_kd hN k n s r t _ rfl]; exact h6) hc
  unfold prV at HP
  rw [if_pos ⟨hl, hd⟩] at HP
  obtain ⟨Z0, hZ0⟩ : ∃ Z0 : ByteArray, ⟨(61 :: x).toArray⟩ = Z0 := ⟨_, rfl⟩
  rw [hZ0] at HP
  clear hZ0 hw h6 hc hl hd hN hO hP hE
  obtain ⟨⟨a0, a1, a2, a3, a4, a5, a6, a7, a8, a9, a10, a11⟩, af⟩ := cells12 hS.a
  go_enter Tryz.func27, Tryz.ntmps27
  go_wp2_with fail
  refine HP.mono ?_
  rintro e w1 ⟨rfl, hb1⟩
  go_wp2_with fail
  go_ret
  exact ⟨rfl, bnext hb0 hb1 hb0.size⟩
end Go.Proofs.YtoebppmagkijjaaGreatDoor.fm
namespace Go.Proofs.YtoebppmagkijjaaGreatDoor.ev
open Go.RowKit
open fm (N12)
/-- A tree that lies in a world. -/
def In (wx : World) (v : Value) (t : fm.T) : Prop := fm.Nd wx (fun b => b < wx.heap.size) v t
theorem In.next {wx wy : World} {v : Value} {t : fm.T} (h : In wx v t) (hb : Below wx.heap.size wx wy) : In wy v t :=
  fm.Nd.mono h (fun b hq => hb.block b hq) (fun _ h => Nat.lt_of_lt_of_le h hb.size)
set_option maxRecDepth 100000 in
set_option maxHeartbeats 4000000 in
theorem eval_any {k n : Int} {s : ByteArray} {r t : fm.Rf} {p : Option Addr} {q c : Nat} {T0 : fm.T} (w : World) (hE : fm.EnvW w) (hN : In w (fm.NV k n s r t (.slice p q c)) T0) (hO : fm.Ok T0) (hC : fm.Ckd T0)
    (pl : Option Addr) (cl : Nat) (xs : List Sh) (hx : ShL w pl xs) (hok : ShOk xs) (hlen : xs.length ≤ 1000) {kr mr : Int} {zr : ByteArray} (hV : Ev (vals xs fun _ => none) T0 kr mr zr) :
    Calls Tryz.prog 9 #[fm.NV k n s r t (.slice p q c), .slice pl xs.length cl] w fun e w' => e = .returned (.tuple #[VV kr mr zr, .nilIface]) ∧ Below w.heap.size w w' := by
  have HCK : Hid (∀ wx, Below w.heap.size w wx → Calls Tryz.prog 27 #[fm.NV k n s r t (.slice p q c)] wx fun e w' => e = .returned .nilIface ∧ Below wx.heap.size wx w') := fun wx hb => by
    exact fm.check_yes wx (hE.next hb) (fun _ h => h) (hN.next hb) hO hC
  have HSH : Hid (∀ wx, Below w.heap.size w wx → Calls Tryz.prog 28 #[.slice pl xs.length cl] wx fun e w' => ∃ mb, e = .returned (.tuple #[.map (some mb), .nilIface]) ∧ mp.CM Tryz.prog 23 w' mb (vals xs fun _ => none) ∧ mb < w'.heap.size ∧ Below wx.heap.size wx w') := fun wx hb => by
    refine (sheetOf_any pl cl xs wx (hx.next hb) hok (by omega)).mono ?_
    rintro e w' ⟨rfl, h1, h2, h3⟩
    exact ⟨_, rfl, h1, h2, h3⟩
  have HWO : Hid (∀ wx mb, Below w.heap.size w wx → mp.CM Tryz.prog 23 wx mb (vals xs fun _ => none) → mb < wx.heap.size → Calls Tryz.prog 29 #[.map (some mb), fm.NV k n s r t (.slice p q c)] wx fun e w' => e = .returned (VV kr mr zr) ∧ Below wx.heap.size wx w') := fun wx mb hb hm hl => by
    have hE' := hE.next hb
    exact wo_ev hV wx _ _ mb (hN.next hb) ⟨hm, hl, hE'.m, by have := hE'.lt; omega⟩ wx (Below.refl _ _)
  obtain ⟨hA, hR⟩ := two_new w (.cells (N12 k n s r t (.slice p q c)) 28) (.cells #[.int .i64 0, .int .i64 0, .string nul] 31)
  have hbW : Below w.heap.size w ((w.alloc (.cells (N12 k n s r t (.slice p q c)) 28)).alloc (.cells #[.int .i64 0, .int .i64 0, .string nul] 31)) := ((Below.refl _ _).alloc (Nat.le_refl _) _).alloc (by simp) _
  obtain ⟨⟨a0, a1, a2, a3, a4, a5, a6, a7, a8, a9, a10, a11⟩, -⟩ := fm.cells12 hA
  have HR : Hid (∀ wx, Below ((w.alloc (.cells (N12 k n s r t (.slice p q c)) 28)).alloc (.cells #[.int .i64 0, .int .i64 0, .string nul] 31)).heap.size ((w.alloc (.cells (N12 k n s r t (.slice p q c)) 28)).alloc (.cells #[.int .i64 0, .int .i64 0, .string nul] 31)) wx → wx.heap[w.heap.size]? = some (.cells (N12 k n s r t (.slice p q c)) 28 (0, 0)) ∧ wx.heap[w.heap.size + 1]? = some (.cells #[.int .i64 0, .int .i64 0, .string nul] 31 (0, 0)) ∧ Below w.heap.size w wx) := fun wx h => ⟨(h.block _ (fm.lt_blk hA)).trans hA, (h.block _ (fm.lt_blk hR)).trans hR, bnext hbW h hbW.size⟩
  have HB0 : Hid (Below w.heap.size w ((w.alloc (.cells (N12 k n s r t (.slice p q c)) 28)).alloc (.cells #[.int .i64 0, .int .i64 0, .string nul] 31))) := hbW
  clear hA hR hbW hE hN hO hC hx hok hlen hV
  go_enter Tryz.func9, Tryz.ntmps9
  go_wp2_with fail
  refine (HCK.out _ HB0.out).mono ?_
  clear a0 a1 a2 a3 a4 a5 a6 a7 a8 a9 a10 a11
  rintro e w1 ⟨rfl, hb1⟩
  have HB1 : Hid (Below ((w.alloc (.cells (N12 k n s r t (.slice p q c)) 28)).alloc (.cells #[.int .i64 0, .int .i64 0, .string nul] 31)).heap.size ((w.alloc (.cells (N12 k n s r t (.slice p q c)) 28)).alloc (.cells #[.int .i64 0, .int .i64 0, .string nul] 31)) w1) := hb1
  clear hb1
  go_wp2_with fail
  refine (HSH.out _ (HR.out _ HB1.out).2.2).mono ?_
  rintro e w2 ⟨mb, rfl, hm, hlt, hb2⟩
  have HM : Hid (mp.CM Tryz.prog 23 w2 mb (vals xs fun _ => none) ∧ mb < w2.heap.size) := ⟨hm, hlt⟩
  have HB2 : Hid (Below ((w.alloc (.cells (N12 k n s r t (.slice p q c)) 28)).alloc (.cells #[.int .i64 0, .int .i64 0, .string nul] 31)).heap.size ((w.alloc (.cells (N12 k n s r t (.slice p q c)) 28)).alloc (.cells #[.int .i64 0, .int .i64 0, .string nul] 31)) w2) := bnext HB1.out hb2 HB1.out.size
  obtain ⟨⟨a0, a1, a2, a3, a4, a5, a6, a7, a8, a9, a10, a11⟩, -⟩ := fm.cells12 (HR.out _ HB2.out).1
  clear hm hlt hb2 HB1
  go_wp2_with fail
  refine (HWO.out _ mb (HR.out _ HB2.out).2.2 HM.out.1 HM.out.2).mono ?_
  clear a0 a1 a2 a3 a4 a5 a6 a7 a8 a9 a10 a11
  rintro e w3 ⟨rfl, hb3⟩
  obtain ⟨-, hq1, hb4⟩ := HR.out w3 (bnext HB2.out hb3 HB2.out.size)
  have HB : Hid (Below w.heap.size w w3) := hb4
  obtain ⟨c0, c1, c2⟩ := cells3v hq1
  have f0 : ∀ o, w3.frozen? ⟨w.heap.size + 1, o, none⟩ = false := frz hq1
  have HQ1 : Hid (w3.heap[w.heap.size + 1]? = some (.cells #[.int .i64 0, .int .i64 0, .string nul] 31 (0, 0))) := hq1
  clear hq1 hb3 hb4 HR HB2 HM HWO HSH HCK HB0
  go_wp2_with fail
  refine fin3 HQ1.out (Q := bodyPost _ _ _ _ _) ?_
  clear c0 c1 c2 f0
  intro w4 hq4 hk4
  obtain ⟨d0, d1, d2⟩ := cells3v hq4
  exact bodyPost_ret (v := .tuple #[VV kr mr zr, .nilIface]) (by simp [results, Tryz.results9, go_sem, d0, d1, d2]) rfl ⟨rfl, HB.out.trans (hk4 _ (by omega))⟩
set_option maxRecDepth 100000 in
set_option maxHeartbeats 4000000 in
theorem works_any {k n : Int} {s : ByteArray} {r t : fm.Rf} {p : Option Addr} {q c : Nat} {T0 : fm.T} (w : World) (hE : fm.EnvW w) (hN : In w (fm.NV k n s r t (.slice p q c)) T0) (hO : fm.Ok T0) (hC : fm.Ckd T0)
    (pl : Option Addr) (cl : Nat) (xs : List Sh) (hx : ShL w pl xs) (hok : ShOk xs) (hlen : xs.length ≤ 1000) {kr mr : Int} {zr : ByteArray} (hV : Ev (vals xs fun _ => none) T0 kr mr zr) :
    Calls Tryz.prog 14 #[fm.NV k n s r t (.slice p q c), .slice pl xs.length cl] w fun e w' => e = .returned (.tuple #[VV kr mr zr, .bool true]) ∧ Below w.heap.size w w' := by
  have HEV : Hid (∀ wx, Below w.heap.size w wx → Calls Tryz.prog 9 #[fm.NV k n s r t (.slice p q c), .slice pl xs.length cl] wx fun e w' => e = .returned (.tuple #[VV kr mr zr, .nilIface]) ∧ Below wx.heap.size wx w') := fun wx hb =>
    eval_any wx (hE.next hb) (hN.next hb) hO hC pl cl xs (hx.next hb) hok hlen hV
  obtain ⟨hA, hR⟩ := two_new w (.cells (N12 k n s r t (.slice p q c)) 28) (.cells #[.int .i64 0, .int .i64 0, .string nul] 31)
  have hbW : Below w.heap.size w ((w.alloc (.cells (N12 k n s r t (.slice p q c)) 28)).alloc (.cells #[.int .i64 0, .int .i64 0, .string nul] 31)) := ((Below.refl _ _).alloc (Nat.le_refl _) _).alloc (by simp) _
  obtain ⟨⟨a0, a1, a2, a3, a4, a5, a6, a7, a8, a9, a10, a11⟩, -⟩ := fm.cells12 hA
  have HR : Hid (∀ wx, Below ((w.alloc (.cells (N12 k n s r t (.slice p q c)) 28)).alloc (.cells #[.int .i64 0, .int .i64 0, .string nul] 31)).heap.size ((w.alloc (.cells (N12 k n s r t (.slice p q c)) 28)).alloc (.cells #[.int .i64 0, .int .i64 0, .string nul] 31)) wx → wx.heap[w.heap.size + 1]? = some (.cells #[.int .i64 0, .int .i64 0, .string nul] 31 (0, 0)) ∧ Below w.heap.size w wx) := fun wx h => ⟨(h.block _ (fm.lt_blk hR)).trans hR, bnext hbW h hbW.size⟩
  have HB0 : Hid (Below w.heap.size w ((w.alloc (.cells (N12 k n s r t (.slice p q c)) 28)).alloc (.cells #[.int .i64 0, .int .i64 0, .string nul] 31))) := hbW
  clear hA hR hbW hE hN hO hC hx hok hlen hV
  go_enter Tryz.func14, Tryz.ntmps14
  go_wp2_with fail
  refine (HEV.out _ HB0.out).mono ?_
  clear a0 a1 a2 a3 a4 a5 a6 a7 a8 a9 a10 a11
  rintro e w1 ⟨rfl, hb1⟩
  obtain ⟨V1, hV1⟩ : ∃ V1, V1 = w1.alloc (.cells #[.int .i64 kr, .int .i64 mr, .string zr] 31) := ⟨_, rfl⟩
  have hbv : Below w1.heap.size w1 V1 := by rw [hV1]; exact (Below.refl _ _).alloc (Nat.le_refl _) _
  obtain ⟨hq1, hb4⟩ := HR.out V1 (bnext hb1 hbv hb1.size)
  have hv0 : V1.heap[w1.heap.size]? = some (.cells #[.int .i64 kr, .int .i64 mr, .string zr] 31 (0, 0)) := by rw [hV1]; exact heap_alloc_new _ _
  have HB : Hid (Below w.heap.size w V1) := hb4
  obtain ⟨v0, v1, v2⟩ := cells3v hv0
  obtain ⟨c0, c1, c2⟩ := cells3v hq1
  have f0 : ∀ o, V1.frozen? ⟨w.heap.size + 1, o, none⟩ = false := frz hq1
  have HQ1 : Hid (V1.heap[w.heap.size + 1]? = some (.cells #[.int .i64 0, .int .i64 0, .string nul] 31 (0, 0))) := hq1
  have HVV : Hid (w1.alloc (.cells #[.int .i64 kr, .int .i64 mr, .string zr] 31) = V1) := hV1.symm
  rw [hV1] at v0 v1 v2 c0 c1 c2 f0
  clear hq1 hb1 hb4 hbv hv0 HR HEV HB0 hV1
  go_wp2_with fail
  go_region
  all_goals
    go_wp2_with fail
    rw [HVV.out] at *
    refine fin3 (w := World.drew V1) (t := 31) HQ1.out (Q := bodyPost _ _ _ _ _) ?_
    clear c0 c1 c2 f0
    intro w4 hq4 hk4
    obtain ⟨d0, d1, d2⟩ := cells3v hq4
    exact bodyPost_ret (v := .tuple #[VV kr mr zr, .bool true]) (by simp [results, Tryz.results14, go_sem, d0, d1, d2]) rfl ⟨rfl, HB.out.drew.trans (hk4 _ (by omega))⟩
end Go.Proofs.YtoebppmagkijjaaGreatDoor.ev

/- changed, where formulas are moved, and where rows come in and go. Conditions: as each theorem says. -/
import Derived.Test.YtimagcmmaffpjaaGreatDoorQf
import Derived.Test.YtimagcmmaffpjaaGreatDoorQg
import Derived.Test.YtimagcmmaffpjaaGreatDoorQh
import Derived.Test.YtimagcmmaffpjaaGreatDoorPq
import Derived.Test.YtimagcmmaffpjaaGreatDoorPs
import Derived.Laws.EntriesVeiled
namespace Go.Proofs.YtimagcmmaffpjaaGreatDoor.fm
open Go.RowKit
theorem mv_core (cols rows : Int) (bc br bf : Nat) (w : World) (hc : -9223372036854775808 ≤ cols ∧ cols ≤ 9223372036854775807) (hr : -9223372036854775808 ≤ rows ∧ rows ≤ 9223372036854775807) (h1 : w.cell? ⟨bc, 0, none⟩ = some (.int .i64 cols)) (h2 : w.cell? ⟨br, 0, none⟩ = some (.int .i64 rows)) (h3 : w.cell? ⟨bf, 0, none⟩ = some (fv 15 #[ptr bc, ptr br]))
    {Q : Nat → Prop} {v : Value} {t : T} (hN : Nd w Q v t) (hF : Fits (fun _ => True) t) (hB : Bd 200 t) :
    Calls Tryz.prog 13 #[v, .agg #[fv 15 #[ptr bc, ptr br], fv 26 #[ptr bf]]] w fun e w' => ∃ v', e = .returned v' ∧ Nd w' (Own w w') v' (chg (Cw (mvR cols rows)) t) ∧ Below w.heap.size w w' := by
  have hR : ∀ r, True → ∀ wx, Below w.heap.size w wx → Calls Tryz.prog 15 #[RV r, ptr bc, ptr br] wx fun e w' => e = .returned (.tuple #[RV (mvR cols rows r).1, .bool (mvR cols rows r).2]) ∧ Below wx.heap.size wx w' := fun r _ wx hb => mv_clo r cols rows bc br wx hc hr (cell_on hb (Nat.le_refl _) h1) (cell_on hb (Nat.le_refl _) h2)
  exact changed_mv (mvR cols rows) (fun _ => True) bc br bf w hR (fun a b _ _ wx hb => mv_box (mvR cols rows) a b bf bc br wx (cell_on hb (Nat.le_refl _) h3) (fun wy hy => hR a trivial wy (hb.trans (hy.mono hb.size))) (fun wy hy => hR b trivial wy (hb.trans (hy.mono hb.size)))) hN hF hB w (Below.refl _ _)
def ofF (row : Bool) : Nat := if row = true then 31 else 34
def caF (row : Bool) : Nat := if row = true then 32 else 35
/-- What rows, or columns, are, in their block. -/
def LN (w : World) (bl : Nat) (row : Bool) : Prop := w.cell? ⟨bl, 1, none⟩ = some (fv (ofF row) #[]) ∧ w.cell? ⟨bl, 2, none⟩ = some (fv (caF row) #[])
theorem LN.on {B : Nat} {w w' : World} {bl : Nat} {row : Bool} (h : LN w bl row) (hb : Below B w w') (hB : w.heap.size ≤ B) : LN w' bl row := ⟨cell_on hb hB h.1, cell_on hb hB h.2⟩
theorem in_clo (row : Bool) (r : Rf) (at' many : Int) (bl ba bm : Nat) (w : World) (hk : isK r) (hm : 0 ≤ many ∧ many ≤ 99) (hat : 1 ≤ at' ∧ at' ≤ 99) (hl : LN w bl row) (h3 : w.cell? ⟨ba, 0, none⟩ = some (.int .i64 at')) (h4 : w.cell? ⟨bm, 0, none⟩ = some (.int .i64 many)) :
    Calls Tryz.prog 36 #[RV r, ptr bl, ptr ba, ptr bm] w fun e w' => e = .returned (.tuple #[RV (inR row at' many r).1, .bool (inR row at' many r).2]) ∧ Below w.heap.size w w' := by
  cases row with
  | true => exact in_clo_true r at' many bl ba bm w hk hm hat hl.1 hl.2 h3 h4
  | false => exact in_clo_false r at' many bl ba bm w hk hm hat hl.1 hl.2 h3 h4
theorem de_clo (row : Bool) (r : Rf) (at' many : Int) (bl ba bm : Nat) (w : World) (hk : isK r) (hm : 0 ≤ many ∧ many ≤ 99) (hat : 1 ≤ at' ∧ at' ≤ 99) (hl : LN w bl row) (h3 : w.cell? ⟨ba, 0, none⟩ = some (.int .i64 at')) (h4 : w.cell? ⟨bm, 0, none⟩ = some (.int .i64 many)) (hok : (deR row at' many r).2 = true) :
    Calls Tryz.prog 37 #[RV r, ptr bl, ptr ba, ptr bm] w fun e w' => e = .returned (.tuple #[RV (deR row at' many r).1, .bool (deR row at' many r).2]) ∧ Below w.heap.size w w' := by
  cases row with
  | true => exact de_clo_true r at' many bl ba bm w hk hm hat hl.1 hl.2 h3 h4 hok
  | false => exact de_clo_false r at' many bl ba bm w hk hm hat hl.1 hl.2 h3 h4 hok
theorem in_core (row : Bool) (at' many : Int) (bl ba bm bf : Nat) (w : World) (hm : 0 ≤ many ∧ many ≤ 99) (hat : 1 ≤ at' ∧ at' ≤ 99) (hl : LN w bl row) (h3 : w.cell? ⟨ba, 0, none⟩ = some (.int .i64 at')) (h4 : w.cell? ⟨bm, 0, none⟩ = some (.int .i64 many)) (h5 : w.cell? ⟨bf, 0, none⟩ = some (fv 36 #[ptr bl, ptr ba, ptr bm]))
    {Q : Nat → Prop} {v : Value} {t : T} (hN : Nd w Q v t) (hF : Fits isK t) (hB : Bd 200 t) :
    Calls Tryz.prog 13 #[v, .agg #[fv 36 #[ptr bl, ptr ba, ptr bm], fv 26 #[ptr bf]]] w fun e w' => ∃ v', e = .returned v' ∧ Nd w' (Own w w') v' (chg (Cw (inR row at' many)) t) ∧ Below w.heap.size w w' := by
  have hR : ∀ r, isK r → ∀ wx, Below w.heap.size w wx → Calls Tryz.prog 36 #[RV r, ptr bl, ptr ba, ptr bm] wx fun e w' => e = .returned (.tuple #[RV (inR row at' many r).1, .bool (inR row at' many r).2]) ∧ Below wx.heap.size wx w' := fun r hk wx hb => in_clo row r at' many bl ba bm wx hk hm hat (hl.on hb (Nat.le_refl _)) (cell_on hb (Nat.le_refl _) h3) (cell_on hb (Nat.le_refl _) h4)
  exact changed_in (inR row at' many) isK bl ba bm bf w hR (fun a b ha hb' wx hb => in_box (inR row at' many) a b bf bl ba bm wx (cell_on hb (Nat.le_refl _) h5) (fun wy hy => hR a ha wy (hb.trans (hy.mono hb.size))) (fun wy hy => hR b hb' wy (hb.trans (hy.mono hb.size)))) hN hF hB w (Below.refl _ _)
theorem de_core (row : Bool) (at' many : Int) (bl ba bm bf bt : Nat) (w : World) (hm : 0 ≤ many ∧ many ≤ 99) (hat : 1 ≤ at' ∧ at' ≤ 99) (hl : LN w bl row) (h3 : w.cell? ⟨ba, 0, none⟩ = some (.int .i64 at')) (h4 : w.cell? ⟨bm, 0, none⟩ = some (.int .i64 many)) (h5 : w.cell? ⟨bf, 0, none⟩ = some (fv 37 #[ptr bl, ptr ba, ptr bm]))
    {Q : Nat → Prop} {v : Value} {t : T} (hN : Nd w Q v t) (hF : Fits (fun r => isK r ∧ (deR row at' many r).2 = true) t) (hB : Bd 200 t) :
    Calls Tryz.prog 13 #[v, .agg #[fv 37 #[ptr bl, ptr ba, ptr bm], fv 39 #[ptr bf, ptr bt]]] w fun e w' => ∃ v', e = .returned v' ∧ Nd w' (Own w w') v' (chg (Cw (deR row at' many)) t) ∧ Below w.heap.size w w' := by
  have hR : ∀ r, (isK r ∧ (deR row at' many r).2 = true) → ∀ wx, Below w.heap.size w wx → Calls Tryz.prog 37 #[RV r, ptr bl, ptr ba, ptr bm] wx fun e w' => e = .returned (.tuple #[RV (deR row at' many r).1, .bool (deR row at' many r).2]) ∧ Below wx.heap.size wx w' := fun r hk wx hb => de_clo row r at' many bl ba bm wx hk.1 hm hat (hl.on hb (Nat.le_refl _)) (cell_on hb (Nat.le_refl _) h3) (cell_on hb (Nat.le_refl _) h4) hk.2
  exact changed_de (deR row at' many) (fun r => isK r ∧ (deR row at' many r).2 = true) bl ba bm bf bt w hR (fun a b ha hb' wx hb => de_box (deR row at' many) a b bf bt bl ba bm wx (cell_on hb (Nat.le_refl _) h5) (fun wy hy => hR a ha wy (hb.trans (hy.mono hb.size))) (fun wy hy => hR b hb' wy (hb.trans (hy.mono hb.size))) ha.2 hb'.2) hN hF hB w (Below.refl _ _)
end Go.Proofs.YtimagcmmaffpjaaGreatDoor.fm
/- Check, bads, and what makes the functions that change a ref. Conditions: as each theorem says. -/
namespace Go.Proofs.YtimagcmmaffpjaaGreatDoor.fm
open Go.RowKit
theorem nd_kd {w : World} {P : Nat → Prop} {V : Value} {T0 : T} (h : Nd w P V T0) (k n : Int) (s : ByteArray) (r t : Rf) (v : Value) (hv : V = NV k n s r t v) : T0.kd = k := by
  cases h with
  | @mk k' n' s' r' t' p' m' c' us ts hk hl hs =>
    have e : (NV k' n' s' r' t' (.slice p' m' c')).cells.toList[0]? = (NV k n s r t v).cells.toList[0]? := by rw [hv]
    have e2 : (some (Value.int .i64 k') : Option Value) = some (.int .i64 k) := e
    injection e2 with e3
    injection e3
/-- What Check lets through. -/
def Ckd (t : T) : Prop := ∃ x dp, W ink t x dp ∧ t.kd ≠ 6 ∧ t.cnt ≤ 200 ∧ x.length + 1 ≤ 200 ∧ dp ≤ 30
theorem check_yes (w : World) (hE : EnvW w) {P : Nat → Prop} (hP : ∀ b, P b → b < w.heap.size) {k n : Int} {s : ByteArray} {r t : Rf} {p : Option Addr} {q c : Nat} {T0 : T} (hN : Nd w P (NV k n s r t (.slice p q c)) T0) (hO : Ok T0) (h : Ckd T0) :
    Calls Tryz.prog 6 #[NV k n s r t (.slice p q c)] w fun e w' => e = .returned .nilIface ∧ Below w.heap.size w w' := by
  obtain ⟨x, dp, hw, h6, hc, hl, hd⟩ := h
  have hS := OB.start (Below.refl w.heap.size w) (N12 k n s r t (.slice p q c))
  have hb0 := hS.below
  have HP := print_ok (w.alloc (.cells (N12 k n s r t (.slice p q c)) 28)) (hE.next hb0) (P := P) (fun b hb2 => Nat.lt_of_lt_of_le (hP b hb2) hb0.size) hw (hN.mono (fun b hb => hb0.block b (hP b hb)) (fun _ h => h)) hO (by rw [← nd_kd hN k n s r t _ rfl]; exact h6) hc
  unfold prV at HP
  rw [if_pos ⟨hl, hd⟩] at HP
  obtain ⟨Z0, hZ0⟩ : ∃ Z0 : ByteArray, ⟨(61 :: x).toArray⟩ = Z0 := ⟨_, rfl⟩
  rw [hZ0] at HP
  clear hZ0 hw h6 hc hl hd hN hO hP hE
  obtain ⟨⟨a0, a1, a2, a3, a4, a5, a6, a7, a8, a9, a10, a11⟩, af⟩ := cells12 hS.a
  go_enter Tryz.func6, Tryz.ntmps6
  go_wp2_with fail
  refine HP.mono ?_
  rintro e w1 ⟨rfl, hb1⟩
  go_wp2_with fail
  go_ret
  exact ⟨rfl, bnext hb0 hb1 hb0.size⟩
theorem check_no (w : World) (hE : EnvW w) {P : Nat → Prop} (hP : ∀ b, P b → b < w.heap.size) {k n : Int} {s : ByteArray} {r t : Rf} {p : Option Addr} {q c : Nat} {T0 : T} (hN : Nd w P (NV k n s r t (.slice p q c)) T0) (hO : Ok T0) (h : ¬ Ckd T0) :
    Calls Tryz.prog 6 #[NV k n s r t (.slice p q c)] w fun e w' => (∃ a : Int, e = .returned (.iface 40 (.int .i64 a))) ∧ Below w.heap.size w w' := by
  have hS := OB.start (Below.refl w.heap.size w) (N12 k n s r t (.slice p q c))
  have hb0 := hS.below
  have hN' := hN.mono (fun b hb => hb0.block b (hP b hb)) (fun _ h => h)
  have hkd := nd_kd hN k n s r t _ rfl
  have HP : Calls Tryz.prog 17 #[NV k n s r t (.slice p q c)] (w.alloc (.cells (N12 k n s r t (.slice p q c)) 28)) fun e w' => (∃ a : Int, e = .returned (.tuple #[.string nul, .iface 40 (.int .i64 a)])) ∧ Below (w.alloc (.cells (N12 k n s r t (.slice p q c)) 28)).heap.size (w.alloc (.cells (N12 k n s r t (.slice p q c)) 28)) w' := by
    by_cases h1 : T0.cnt ≤ 200 ∧ k ≠ 6 ∧ Wf T0
    · obtain ⟨hc, h6, x, dp, hw⟩ := h1
      have := print_ok _ (hE.next hb0) (P := P) (fun b hb2 => Nat.lt_of_lt_of_le (hP b hb2) hb0.size) hw hN' hO h6 hc
      unfold prV at this
      rw [if_neg (fun e => h ⟨x, dp, hw, by rw [hkd]; exact h6, hc, e.1, e.2⟩)] at this
      refine this.mono ?_
      rintro e w' ⟨rfl, hb'⟩
      exact ⟨⟨4, rfl⟩, hb'⟩
    · exact print_err _ hN' hO (by
        by_cases hc : T0.cnt ≤ 200
        · exact .inr (fun e => h1 ⟨hc, e.1, e.2⟩)
        · exact .inl hc)
  clear hN hO hP hE hN' h hkd
  obtain ⟨⟨a0, a1, a2, a3, a4, a5, a6, a7, a8, a9, a10, a11⟩, af⟩ := cells12 hS.a
  go_enter Tryz.func6, Tryz.ntmps6
  go_wp2_with fail
  refine HP.mono ?_
  rintro e w1 ⟨⟨a, rfl⟩, hb1⟩
  go_wp2_with fail
  go_ret
  exact ⟨⟨a, rfl⟩, bnext hb0 hb1 hb0.size⟩
theorem cnt_chg {C : Chg} {t : T} (h : Ok t) : (chg C t).cnt ≤ t.cnt := by
  induction h with
  | @mk k n s r t ts hn hl hs ih =>
    have hl : cntL (chgL C ts) ≤ cntL ts := by
      clear hs hl
      induction ts with
      | nil => simp [chgL]
      | cons u us ih2 =>
        have h1 := ih 0 u rfl
        have h2 := ih2 (fun i v hv => ih (i + 1) v hv)
        simp only [chgL, cntL]
        omega
    rw [chg_eq, cnt_eq]
    unfold chgN
    split
    · split
      · rw [cnt_eq]; simp [cntL]
      · rw [cnt_eq]; omega
    · split
      · split
        · rw [cnt_eq]; simp [cntL]
        · rw [cnt_eq]; omega
      · rw [cnt_eq]; omega
theorem bads_cnt {t : T} (h : Ok t) : t.bads ≤ t.cnt := by
  induction h with
  | @mk k n s r t ts hn hl hs ih =>
    have hl : badsL ts ≤ cntL ts := by
      clear hs hl
      induction ts with
      | nil => simp [badsL]
      | cons u us ih2 =>
        have h1 := ih 0 u rfl
        have h2 := ih2 (fun i v hv => ih (i + 1) v hv)
        simp only [badsL, cntL]
        omega
    rw [bads_eq, cnt_eq]
    split <;> omega
def bd0 (k n : Int) : Nat := if k = 4 ∧ n = 3 then 1 else 0
set_option maxRecDepth 100000 in
set_option maxHeartbeats 4000000 in
theorem bads_any {w : World} {P : Nat → Prop} {v : Value} {t : T} (h : Nd w P v t) : t.bads ≤ 1000 → Bd 9223372036854775807 t → ∀ w1, Below w.heap.size w w1 →
    Calls Tryz.prog 7 #[v] w1 fun e w' => e = .returned (.int .i64 ((t.bads : Nat) : Int)) ∧ Below w1.heap.size w1 w' := by
  induction h with
  | @mk k n s r t p m c us ts hk hl hs ih =>
  intro hbd hB w1 hb1
  have hm : m = ts.length := by rw [hk.1, hl]
  have hB1 : ts.length ≤ 9223372036854775807 := by cases hB with | mk h1 h2 => exact h1
  have hB2 : ∀ (i : Nat) u, ts[i]? = some u → Bd 9223372036854775807 u := by cases hB with | mk h1 h2 => exact h2
  have hS0 := OB.start hb1 (N12 k n s r t (.slice p m c))
  rw [bads_eq] at hbd ⊢
  clear hB
  have HK : Hid (Kids w P p m c us) := hk
  have HL : Hid (us.length = ts.length) := hl
  have HS : Hid (∀ (i : Nat) u t', us[i]? = some u → ts[i]? = some t' → Nd w P u t') := hs
  have HI : Hid (∀ (i : Nat) u t', us[i]? = some u → ts[i]? = some t' → t'.bads ≤ 1000 → Bd 9223372036854775807 t' → ∀ w1, Below w.heap.size w w1 → Calls Tryz.prog 7 #[u] w1 fun e w' => e = .returned (.int .i64 ((t'.bads : Nat) : Int)) ∧ Below w1.heap.size w1 w') := fun i u t' h1 h2 => ih i u t' h1 h2
  have HB2 : Hid (∀ (i : Nat) u, ts[i]? = some u → Bd 9223372036854775807 u) := hB2
  have HM : Hid (m = ts.length) := hm
  have hB3 : m ≤ 9223372036854775807 := by omega
  clear hl hk hs ih hB2 hB1 hm
  obtain ⟨z, hz⟩ : ∃ z : Nat, (if k = 4 ∧ n = 3 then 1 else 0) = z := ⟨_, rfl⟩
  rw [hz] at hbd ⊢
  have HZ : Hid ((if k = 4 ∧ n = 3 then 1 else 0) = z) := hz
  obtain ⟨C, hC⟩ : ∃ C : Nat → Nat, (fun j => z + badsL (ts.take j)) = C := ⟨_, rfl⟩
  have HC : Hid ((fun j => z + badsL (ts.take j)) = C) := hC
  have HC0 : Hid (C 0 = z) := by unfold Hid; rw [← hC]; simp [badsL]
  have HCm : Hid (C m = z + badsL ts) := by unfold Hid; rw [← hC]; simp only; rw [List.take_of_length_le (by rw [← HM.out]; exact Nat.le_refl _)]
  have HBD : Hid (z + badsL ts ≤ 1000) := hbd
  clear hC hz hbd
  obtain ⟨⟨a0, a1, a2, a3, a4, a5, a6, a7, a8, a9, a10, a11⟩, af⟩ := cells12 hS0.a
  go_enter Tryz.func7, Tryz.ntmps7
  obtain ⟨zb, hzb⟩ : ∃ zb : Bool, decide (k = 4 ∧ n = 3) = zb := ⟨_, rfl⟩
  have HZB : Hid (z = if zb = true then 1 else 0) := by
    unfold Hid
    rw [← HZ.out, ← hzb]
    by_cases h : k = 4 ∧ n = 3 <;> simp [h]
  have HZC : Hid (decide (k = 4 ∧ n = 3) = zb) := hzb
  clear hzb HZ
  go_upto_region 2 with fail
  generalize hw0 : w1.alloc _ = wa at *
  clear hw0
  go_cut [12] (fun s12 wx => s12 = .bool zb ∧ OB w w1 (N12 k n s r t (.slice p m c)) wx)
  case first =>
    clear HC0 HCm HBD HC
    by_cases h4 : k = 4
    · by_cases h3 : n = 3
      · have HE : Hid (zb = true) := by unfold Hid; rw [← HZC.out]; simp [h4, h3]
        clear HZC HZB
        go_wp2_with fail
        go_meet
        case rel => exact ⟨by rw [HE.out], hS0⟩
      · have HE : Hid (zb = false) := by unfold Hid; rw [← HZC.out]; simp [h3]
        clear HZC HZB
        have g3 : (n == 3) = false := by simp [h3]
        go_wp2_with fail
        go_meet
        case rel => exact ⟨by rw [HE.out], hS0⟩
    · have HE : Hid (zb = false) := by unfold Hid; rw [← HZC.out]; simp [h4]
      clear HZC HZB
      have g4 : (k == 4) = false := by simp [h4]
      go_wp2_with fail
      go_meet
      case rel => exact ⟨by rw [HE.out], hS0⟩
  case rest =>
  clear hS0 a0 a1 a2 a3 a4 a5 a6 a7 a8 a9 a10 a11 af HZC
  obtain ⟨rfl, hS0⟩ := hcut
  go_upto_if 12 with fail
  go_cut [3] (fun s3 wx => s3 = .int .i64 ((z : Nat) : Int) ∧ OB w w1 (N12 k n s r t (.slice p m c)) wx)
  case first =>
    clear HC0 HCm HBD HC
    cases zb
    · go_wp2_with fail
      go_meet
      case rel => exact ⟨by rw [HZB.out]; rfl, hS0⟩
    · go_wp2_with fail
      go_meet
      case rel => exact ⟨by rw [HZB.out]; rfl, hS0⟩
  case rest =>
  clear hS0 HZB
  obtain ⟨rfl, hS0⟩ := hcut
  go_wp2_with fail
  go_loopw [3, 4] (fun a i wr => ∃ j : Nat, i = .int .i64 j ∧ a = .int .i64 ((C j : Nat) : Int) ∧ j ≤ m ∧ OB w w1 (N12 k n s r t (.slice p m c)) wr) (fun _ i _ => m - (intOf i).toNat)
  case atStart => exact ⟨0, rfl, by rw [HC0.out], Nat.zero_le _, hS0⟩
  case round =>
    clear hS0
    obtain ⟨j, rfl, rfl, hj, hS⟩ := hrel
    obtain ⟨⟨a0, a1, a2, a3, a4, a5, a6, a7, a8, a9, a10, a11⟩, af⟩ := cells12 hS.a
    by_cases hlt : j < m
    · obtain ⟨g, o, u, t1, rfl, hg, hu, ht1, hc⟩ := kid_at HK.out HL.out HS.out j hlt
      have hN := HS.out j u t1 hu ht1
      have hCj1 : C (j + 1) = C j + t1.bads := by rw [← HC.out]; simp only; rw [bads_take ht1]; omega
      have hCj2 : C (j + 1) ≤ 1000 := by
        have h1 := badsL_drop ts (j + 1)
        have h2 := HBD.out
        rw [← HC.out]; simp only; omega
      have HR : Hid (∀ wx, Below w.heap.size w wx → Calls Tryz.prog 7 #[u] wx fun e w' => e = .returned (.int .i64 ((t1.bads : Nat) : Int)) ∧ Below wx.heap.size wx w') := fun wx hb => HI.out j u t1 hu ht1 (by omega) (HB2.out j t1 ht1) wx hb
      have e1 : ∀ jj x, u.cells.toList[jj]? = some x → wr.cell? ⟨g, o + j * 12 + jj, none⟩ = some x := fun jj x hx => by rw [hS.below.cell (p := ⟨g, _, none⟩) hg]; exact hc jj x hx
      obtain ⟨cj, hcj⟩ : ∃ cj, C j = cj := ⟨_, rfl⟩
      obtain ⟨bj, hbj⟩ : ∃ bj, t1.bads = bj := ⟨_, rfl⟩
      rw [hbj] at HR hCj1
      rw [hcj] at hCj1
      rw [hcj]
      have HJ1 : Hid (C (j + 1) = cj + bj) := hCj1
      have hs1 : cj + bj ≤ 1000 := by omega
      clear hCj1 hCj2 HI hc hcj hbj HC HCm HBD HC0
      cases hN with
      | @mk k1 n1 s1 ra rb p1 m1 q1 us1 ts1 _ _ _ =>
      have hlt' : (j : Int) < (m : Int) := by omega
      have hj' : (0 : Int) ≤ (j : Int) := by omega
      have x0 := e1 0 _ rfl
      have x1 := e1 1 _ rfl
      have x2 := e1 2 _ rfl
      have x3 := e1 3 _ rfl
      have x4 := e1 4 _ rfl
      have x5 := e1 5 _ rfl
      have x6 := e1 6 _ rfl
      have x7 := e1 7 _ rfl
      have x8 := e1 8 _ rfl
      have x9 := e1 9 _ rfl
      have x10 := e1 10 _ rfl
      have x11 := e1 11 _ rfl
      simp only [Nat.add_zero] at x0
      go_wp2_with fail
      refine (HR.out _ hS.below).mono ?_
      rintro e w3 ⟨rfl, hb3⟩
      go_wp2_with fail
      exact ⟨⟨j + 1, by simp, by rw [HJ1.out]; simp, hlt, hS.next hb3⟩, by simp [intOf]; omega⟩
    · have hjm : j = m := by omega
      subst hjm
      go_wp2_with fail
      go_ret
      exact ⟨by simp [HCm.out], hS.below1⟩
end Go.Proofs.YtimagcmmaffpjaaGreatDoor.fm
/- What makes the functions that change a ref, and what is refused ahead. Conditions: as each theorem says. -/
namespace Go.Proofs.YtimagcmmaffpjaaGreatDoor.fm
open Go.RowKit
def cntOf (row : Bool) : Int := if row = true then 99 else 26
abbrev l3 (row : Bool) : Array Value := #[.int .i64 (cntOf row), fv (ofF row) #[], fv (caF row) #[]]
theorem cells2f {w : World} {b : Nat} {a0 a1 : Value} {t : TypeId} (h : w.heap[b]? = some (.cells #[a0, a1] t (0, 0))) : (w.cell? ⟨b, 0, none⟩ = some a0 ∧ w.cell? ⟨b, 1, none⟩ = some a1) ∧ w.frozen? ⟨b, 0, none⟩ = false ∧ w.frozen? ⟨b, 1, none⟩ = false := by simp [World.cell?, World.frozen?, h]
theorem ln_of {w : World} {b : Nat} {row : Bool} (h : w.heap[b]? = some (.cells (l3 row) 57 (0, 0))) : LN w b row := ⟨by rw [cell_blk h]; rfl, by rw [cell_blk h]; rfl⟩
theorem lines_any (row : Bool) (w : World) : Calls Tryz.prog 18 #[.bool row] w fun e w' => e = .returned (.agg (l3 row)) ∧ Below w.heap.size w w' := by
  cases row with
  | true =>
    go_enter Tryz.func18, Tryz.ntmps18
    go_wp2_with fail
    exact bodyPost_ret (v := .agg (l3 true)) (by simp [results, Tryz.results18, go_sem, l3, cntOf, ofF, caF]) rfl ⟨rfl, (Below.refl _ _).alloc (Nat.le_refl _) _⟩
  | false =>
    go_enter Tryz.func18, Tryz.ntmps18
    go_wp2_with fail
    exact bodyPost_ret (v := .agg (l3 false)) (by simp [results, Tryz.results18, go_sem, l3, cntOf, ofF, caF]) rfl ⟨rfl, (Below.refl _ _).alloc (Nat.le_refl _) _⟩
theorem corner_any (K : Nat) (cs : Array Value) (w : World) : Calls Tryz.prog 14 #[fv K cs] w fun e w' => e = .returned (.agg #[fv K cs, fv 26 #[ptr w.heap.size]]) ∧ w'.cell? ⟨w.heap.size, 0, none⟩ = some (fv K cs) ∧ Below w.heap.size w w' := by
  go_enter Tryz.func14, Tryz.ntmps14
  go_wp2_with fail
  exact bodyPost_ret (v := .agg #[fv K cs, fv 26 #[ptr w.heap.size]]) (by simp [results, Tryz.results14, go_sem]) rfl ⟨rfl, by simp, ((Below.refl _ _).alloc (Nat.le_refl _) _).alloc (by simp) _⟩
set_option maxRecDepth 100000 in
set_option maxHeartbeats 4000000 in
theorem ins_any (row : Bool) (at' many : Int) (w : World) : Calls Tryz.prog 20 #[.agg (l3 row), .int .i64 at', .int .i64 many] w fun e w' => ∃ bf, e = .returned (.agg #[fv 36 #[ptr w.heap.size, ptr (w.heap.size + 1), ptr (w.heap.size + 1 + 1)], fv 26 #[ptr bf]]) ∧
      LN w' w.heap.size row ∧ w'.cell? ⟨w.heap.size + 1, 0, none⟩ = some (.int .i64 at') ∧ w'.cell? ⟨w.heap.size + 1 + 1, 0, none⟩ = some (.int .i64 many) ∧ w'.cell? ⟨bf, 0, none⟩ = some (fv 36 #[ptr w.heap.size, ptr (w.heap.size + 1), ptr (w.heap.size + 1 + 1)]) ∧ Below w.heap.size w w' := by
  have hmf : ∀ (fn : Fn) (first cap : Array Value) (w : World), (Instr.makeFunc fn first cap).run Tryz.prog w = .ok (.func fn first cap) w := fun _ _ _ _ => rfl
  have HB : Hid ((((((w.alloc (.cells (l3 row) 57)).alloc (.cells #[.int .i64 at'] 3)).alloc (.cells #[.int .i64 many] 3)).alloc (.cells #[.nilFunc, .nilFunc] 48))).heap[w.heap.size]? = some (.cells (l3 row) 57 (0, 0)) ∧ (((((w.alloc (.cells (l3 row) 57)).alloc (.cells #[.int .i64 at'] 3)).alloc (.cells #[.int .i64 many] 3)).alloc (.cells #[.nilFunc, .nilFunc] 48))).heap[w.heap.size + 1]? = some (.cells #[.int .i64 at'] 3 (0, 0)) ∧ (((((w.alloc (.cells (l3 row) 57)).alloc (.cells #[.int .i64 at'] 3)).alloc (.cells #[.int .i64 many] 3)).alloc (.cells #[.nilFunc, .nilFunc] 48))).heap[w.heap.size + 1 + 1]? = some (.cells #[.int .i64 many] 3 (0, 0)) ∧ (((((w.alloc (.cells (l3 row) 57)).alloc (.cells #[.int .i64 at'] 3)).alloc (.cells #[.int .i64 many] 3)).alloc (.cells #[.nilFunc, .nilFunc] 48))).heap[w.heap.size + 1 + 1 + 1]? = some (.cells #[.nilFunc, .nilFunc] 48 (0, 0))) := by
    obtain ⟨⟨h1, h2⟩, h3, h4⟩ := adr.four w (.cells (l3 row) 57) (.cells #[.int .i64 at'] 3) (.cells #[.int .i64 many] 3) (.cells #[.nilFunc, .nilFunc] 48)
    exact ⟨h1, h2, h3, h4⟩
  have HB0 : Hid (Below w.heap.size w ((((w.alloc (.cells (l3 row) 57)).alloc (.cells #[.int .i64 at'] 3)).alloc (.cells #[.int .i64 many] 3)).alloc (.cells #[.nilFunc, .nilFunc] 48)) ∧ (((((w.alloc (.cells (l3 row) 57)).alloc (.cells #[.int .i64 at'] 3)).alloc (.cells #[.int .i64 many] 3)).alloc (.cells #[.nilFunc, .nilFunc] 48))).heap.size = w.heap.size + 4) := ⟨((((Below.refl _ _).alloc (Nat.le_refl _) _).alloc (by simp) _).alloc (by simp; omega) _).alloc (by simp; omega) _, by simp⟩
  go_enter Tryz.func20, Tryz.ntmps20
  go_wp2_with fail
  refine (corner_any 36 #[ptr w.heap.size, ptr (w.heap.size + 1), ptr (w.heap.size + 1 + 1)] ((((w.alloc (.cells (l3 row) 57)).alloc (.cells #[.int .i64 at'] 3)).alloc (.cells #[.int .i64 many] 3)).alloc (.cells #[.nilFunc, .nilFunc] 48))).mono ?_
  rintro e w1 ⟨rfl, hcf, hb1⟩
  have hB := HB.out
  have hB0 := HB0.out
  obtain ⟨bf, hbf⟩ : ∃ bf, (((((w.alloc (.cells (l3 row) 57)).alloc (.cells #[.int .i64 at'] 3)).alloc (.cells #[.int .i64 many] 3)).alloc (.cells #[.nilFunc, .nilFunc] 48))).heap.size = bf := ⟨_, rfl⟩
  rw [hbf] at hcf
  simp only [hbf]
  generalize hw0 : ((((w.alloc (.cells (l3 row) 57)).alloc (.cells #[.int .i64 at'] 3)).alloc (.cells #[.int .i64 many] 3)).alloc (.cells #[.nilFunc, .nilFunc] 48)) = wa at *
  clear hw0 hmf HB HB0
  obtain ⟨h1, h2, h3, h4⟩ := hB
  have g1 := (hb1.block _ (lt_blk h1)).trans h1
  have g2 := (hb1.block _ (lt_blk h2)).trans h2
  have g3 := (hb1.block _ (lt_blk h3)).trans h3
  have g4 := (hb1.block _ (lt_blk h4)).trans h4
  have ⟨⟨r0, r1⟩, f0, f1⟩ := cells2f g4
  have hne : ¬ bf = w.heap.size + 1 + 1 + 1 := by omega
  have HB1 : Hid (Below w.heap.size w w1) := bnext hB0.1 hb1 hB0.1.size
  have hk : ∀ A B, Kp (· = w.heap.size + 1 + 1 + 1) w1 ((w1.setCell ⟨w.heap.size + 1 + 1 + 1, 0, none⟩ A).setCell ⟨w.heap.size + 1 + 1 + 1, 1, none⟩ B) := fun A B => ((Kp.refl (· = w.heap.size + 1 + 1 + 1) w1).setCell (Or.inl rfl) _).setCell (Or.inl rfl) _
  have HK : Hid _ := hk
  clear hk h1 h2 h3 h4 hb1 hB0
  go_wp2_with fail
  refine bodyPost_ret (v := .agg #[fv 36 #[ptr w.heap.size, ptr (w.heap.size + 1), ptr (w.heap.size + 1 + 1)], fv 26 #[ptr bf]]) (by simp [results, Tryz.results20, go_sem, r0, r1]) rfl ⟨bf, rfl, ?_⟩
  have hk := HK.out (fv 36 #[ptr w.heap.size, ptr (w.heap.size + 1), ptr (w.heap.size + 1 + 1)]) (fv 26 #[ptr bf])
  refine ⟨ln_of (hk.blk g1 (by omega)), by rw [cell_blk (hk.blk g2 (by omega))]; rfl, by rw [cell_blk (hk.blk g3 (by omega))]; rfl, ?_, HB1.out.trans (hk.toBelow HB1.out.size (fun n hn e => by omega))⟩
  rw [World.cell?_of_block (hk.block bf (lt_of_cell hcf) hne)]
  exact hcf
end Go.Proofs.YtimagcmmaffpjaaGreatDoor.fm
/- deletion, and checkLines. Conditions: as each theorem says. -/
namespace Go.Proofs.YtimagcmmaffpjaaGreatDoor.fm
open Go.RowKit
theorem six (w : World) (A B C D E F : Obj) : ((((((w.alloc A).alloc B).alloc C).alloc D).alloc E).alloc F).heap[w.heap.size]? = some A ∧ ((((((w.alloc A).alloc B).alloc C).alloc D).alloc E).alloc F).heap[w.heap.size + 1]? = some B ∧ ((((((w.alloc A).alloc B).alloc C).alloc D).alloc E).alloc F).heap[w.heap.size + 1 + 1]? = some C ∧ ((((((w.alloc A).alloc B).alloc C).alloc D).alloc E).alloc F).heap[w.heap.size + 1 + 1 + 1 + 1]? = some E := by
  obtain ⟨⟨h1, h2⟩, h3, h4⟩ := adr.four w A B C D
  refine ⟨?_, ?_, ?_, ?_⟩
  · rw [Below.heap_alloc _ _ _ (by simp <;> omega), Below.heap_alloc _ _ _ (by simp <;> omega)]; exact h1
  · rw [Below.heap_alloc _ _ _ (by simp <;> omega), Below.heap_alloc _ _ _ (by simp <;> omega)]; exact h2
  · rw [Below.heap_alloc _ _ _ (by simp <;> omega), Below.heap_alloc _ _ _ (by simp <;> omega)]; exact h3
  · rw [Below.heap_alloc _ _ _ (by simp), adr.heap_at _ _ _ (by simp)]
set_option maxRecDepth 100000 in
set_option maxHeartbeats 4000000 in
theorem del_any (row : Bool) (at' many : Int) (w : World) : Calls Tryz.prog 21 #[.agg (l3 row), .int .i64 at', .int .i64 many] w fun e w' => ∃ bf bt, e = .returned (.agg #[fv 37 #[ptr w.heap.size, ptr (w.heap.size + 1), ptr (w.heap.size + 1 + 1)], fv 39 #[ptr bf, ptr bt]]) ∧
      LN w' w.heap.size row ∧ w'.cell? ⟨w.heap.size + 1, 0, none⟩ = some (.int .i64 at') ∧ w'.cell? ⟨w.heap.size + 1 + 1, 0, none⟩ = some (.int .i64 many) ∧ w'.cell? ⟨bf, 0, none⟩ = some (fv 37 #[ptr w.heap.size, ptr (w.heap.size + 1), ptr (w.heap.size + 1 + 1)]) ∧ Below w.heap.size w w' := by
  have hmf : ∀ (fn : Fn) (first cap : Array Value) (w : World), (Instr.makeFunc fn first cap).run Tryz.prog w = .ok (.func fn first cap) w := fun _ _ _ _ => rfl
  go_enter Tryz.func21, Tryz.ntmps21
  go_wp2_with fail
  refine bodyPost_ret (v := .agg #[fv 37 #[ptr w.heap.size, ptr (w.heap.size + 1), ptr (w.heap.size + 1 + 1)], fv 39 #[ptr (w.heap.size + 1 + 1 + 1 + 1), ptr (w.heap.size + 1 + 1 + 1 + 1 + 1)]]) (by simp [results, Tryz.results21, go_sem]) rfl ⟨w.heap.size + 1 + 1 + 1 + 1, w.heap.size + 1 + 1 + 1 + 1 + 1, rfl, ?_⟩
  obtain ⟨h1, h2, h3, h4⟩ := six w (.cells (l3 row) 57) (.cells #[.int .i64 at'] 3) (.cells #[.int .i64 many] 3) (.cells #[fv 37 #[ptr w.heap.size, ptr (w.heap.size + 1), ptr (w.heap.size + 1 + 1)], fv 39 #[ptr (w.heap.size + 1 + 1 + 1 + 1), ptr (w.heap.size + 1 + 1 + 1 + 1 + 1)]] 48) (.cells #[fv 37 #[ptr w.heap.size, ptr (w.heap.size + 1), ptr (w.heap.size + 1 + 1)]] 45) (.cells #[fv 38 #[ptr w.heap.size, ptr (w.heap.size + 1)]] 72)
  refine ⟨ln_of h1, by rw [cell_blk h2]; rfl, by rw [cell_blk h3]; rfl, by rw [cell_blk h4]; rfl, ?_⟩
  exact ((((((Below.refl _ _).alloc (Nat.le_refl _) _).alloc (by simp) _).alloc (by simp; omega) _).alloc (by simp; omega) _).alloc (by simp; omega) _).alloc (by simp; omega) _
set_option maxRecDepth 100000 in
set_option maxHeartbeats 4000000 in
theorem lines_no (row : Bool) (at' many : Int) (w : World) (hE : EnvW w) {P : Nat → Prop} (hP : ∀ b, P b → b < w.heap.size) {k n : Int} {s : ByteArray} {r t : Rf} {p : Option Addr} {q c : Nat} {T0 : T} (hN : Nd w P (NV k n s r t (.slice p q c)) T0) (hO : Ok T0) (h : ¬ Ckd T0) :
    Calls Tryz.prog 19 #[NV k n s r t (.slice p q c), .agg (l3 row), .int .i64 at', .int .i64 many] w fun e w' => (∃ a : Int, e = .returned (.iface 40 (.int .i64 a))) ∧ Below w.heap.size w w' := by
  have hb0 : Below w.heap.size w ((w.alloc (.cells (N12 k n s r t (.slice p q c)) 28)).alloc (.cells (l3 row) 57)) := ((Below.refl _ _).alloc (Nat.le_refl _) _).alloc (by simp) _
  have HC := check_no ((w.alloc (.cells (N12 k n s r t (.slice p q c)) 28)).alloc (.cells (l3 row) 57)) (hE.next hb0) (P := P) (fun b h => Nat.lt_of_lt_of_le (hP b h) hb0.size) (hN.mono (fun b h => hb0.block b (hP b h)) (fun _ h => h)) hO h
  have hA : (((w.alloc (.cells (N12 k n s r t (.slice p q c)) 28)).alloc (.cells (l3 row) 57))).heap[w.heap.size]? = some (.cells (N12 k n s r t (.slice p q c)) 28 (0, 0)) := by rw [Below.heap_alloc _ _ _ (by simp), adr.heap_at _ _ _ rfl]
  obtain ⟨⟨a0, a1, a2, a3, a4, a5, a6, a7, a8, a9, a10, a11⟩, af⟩ := cells12 hA
  clear hN hO hP hE h hA
  go_enter Tryz.func19, Tryz.ntmps19
  go_wp2_with fail
  refine HC.mono ?_
  rintro e w1 ⟨⟨a, rfl⟩, hb1⟩
  go_wp2_with fail
  go_ret
  exact ⟨⟨a, rfl⟩, bnext hb0 hb1 hb0.size⟩
set_option maxRecDepth 100000 in
set_option maxHeartbeats 4000000 in
theorem lines_bad (row : Bool) (at' many : Int) (w : World) (hE : EnvW w) {P : Nat → Prop} (hP : ∀ b, P b → b < w.heap.size) {k n : Int} {s : ByteArray} {r t : Rf} {p : Option Addr} {q c : Nat} {T0 : T} (hN : Nd w P (NV k n s r t (.slice p q c)) T0) (hO : Ok T0) (h : Ckd T0) (hb : at' < 1 ∨ cntOf row < at' ∨ many < 0 ∨ cntOf row < many) :
    Calls Tryz.prog 19 #[NV k n s r t (.slice p q c), .agg (l3 row), .int .i64 at', .int .i64 many] w fun e w' => (∃ a : Int, e = .returned (.iface 40 (.int .i64 a))) ∧ Below w.heap.size w w' := by
  have hb0 : Below w.heap.size w ((w.alloc (.cells (N12 k n s r t (.slice p q c)) 28)).alloc (.cells (l3 row) 57)) := ((Below.refl _ _).alloc (Nat.le_refl _) _).alloc (by simp) _
  have HC := check_yes ((w.alloc (.cells (N12 k n s r t (.slice p q c)) 28)).alloc (.cells (l3 row) 57)) (hE.next hb0) (P := P) (fun b h => Nat.lt_of_lt_of_le (hP b h) hb0.size) (hN.mono (fun b h => hb0.block b (hP b h)) (fun _ h => h)) hO h
  have hA : (((w.alloc (.cells (N12 k n s r t (.slice p q c)) 28)).alloc (.cells (l3 row) 57))).heap[w.heap.size]? = some (.cells (N12 k n s r t (.slice p q c)) 28 (0, 0)) := by rw [Below.heap_alloc _ _ _ (by simp), adr.heap_at _ _ _ rfl]
  obtain ⟨⟨a0, a1, a2, a3, a4, a5, a6, a7, a8, a9, a10, a11⟩, af⟩ := cells12 hA
  have hL : (((w.alloc (.cells (N12 k n s r t (.slice p q c)) 28)).alloc (.cells (l3 row) 57))).heap[w.heap.size + 1]? = some (.cells (l3 row) 57 (0, 0)) := by rw [adr.heap_at _ _ _ (by simp)]
  have HL : Hid (∀ w1, Below (((w.alloc (.cells (N12 k n s r t (.slice p q c)) 28)).alloc (.cells (l3 row) 57))).heap.size ((w.alloc (.cells (N12 k n s r t (.slice p q c)) 28)).alloc (.cells (l3 row) 57)) w1 → w1.cell? ⟨w.heap.size + 1, 0, none⟩ = some (.int .i64 (cntOf row))) := fun w1 hb => by
    rw [cell_blk ((hb.block _ (lt_blk hL)).trans hL)]; rfl
  clear hN hO hP hE h hA hL
  go_enter Tryz.func19, Tryz.ntmps19
  go_wp2_with fail
  refine HC.mono ?_
  rintro e w1 ⟨rfl, hb1⟩
  have hL := HL.out w1 hb1
  clear a0 a1 a2 a3 a4 a5 a6 a7 a8 a9 a10 a11 af HC HL
  have HB : Hid (Below w.heap.size w w1) := bnext hb0 hb1 hb0.size
  clear hb0 hb1
  by_cases q1 : at' < 1
  · clear hb
    go_wp2_with fail
    go_ret
    exact ⟨⟨1, rfl⟩, HB.out⟩
  · by_cases q2 : cntOf row < at'
    · clear hb
      go_wp2_with fail
      go_ret
      exact ⟨⟨1, rfl⟩, HB.out⟩
    · by_cases q3 : many < 0
      · clear hb
        go_wp2_with fail
        go_ret
        exact ⟨⟨1, rfl⟩, HB.out⟩
      · have q4 : cntOf row < many := by omega
        clear hb
        go_wp2_with fail
        go_ret
        exact ⟨⟨1, rfl⟩, HB.out⟩
set_option maxRecDepth 100000 in
set_option maxHeartbeats 4000000 in
theorem lines_yes (row : Bool) (at' many : Int) (w : World) (hE : EnvW w) {P : Nat → Prop} (hP : ∀ b, P b → b < w.heap.size) {k n : Int} {s : ByteArray} {r t : Rf} {p : Option Addr} {q c : Nat} {T0 : T} (hN : Nd w P (NV k n s r t (.slice p q c)) T0) (hO : Ok T0) (h : Ckd T0) (hb : ¬ (at' < 1 ∨ cntOf row < at' ∨ many < 0 ∨ cntOf row < many)) :
    Calls Tryz.prog 19 #[NV k n s r t (.slice p q c), .agg (l3 row), .int .i64 at', .int .i64 many] w fun e w' => e = .returned .nilIface ∧ Below w.heap.size w w' := by
  have hb0 : Below w.heap.size w ((w.alloc (.cells (N12 k n s r t (.slice p q c)) 28)).alloc (.cells (l3 row) 57)) := ((Below.refl _ _).alloc (Nat.le_refl _) _).alloc (by simp) _
  have HC := check_yes ((w.alloc (.cells (N12 k n s r t (.slice p q c)) 28)).alloc (.cells (l3 row) 57)) (hE.next hb0) (P := P) (fun b h => Nat.lt_of_lt_of_le (hP b h) hb0.size) (hN.mono (fun b h => hb0.block b (hP b h)) (fun _ h => h)) hO h
  have hA : (((w.alloc (.cells (N12 k n s r t (.slice p q c)) 28)).alloc (.cells (l3 row) 57))).heap[w.heap.size]? = some (.cells (N12 k n s r t (.slice p q c)) 28 (0, 0)) := by rw [Below.heap_alloc _ _ _ (by simp), adr.heap_at _ _ _ rfl]
  obtain ⟨⟨a0, a1, a2, a3, a4, a5, a6, a7, a8, a9, a10, a11⟩, af⟩ := cells12 hA
  have hL : (((w.alloc (.cells (N12 k n s r t (.slice p q c)) 28)).alloc (.cells (l3 row) 57))).heap[w.heap.size + 1]? = some (.cells (l3 row) 57 (0, 0)) := by rw [adr.heap_at _ _ _ (by simp)]
  have HL : Hid (∀ w1, Below (((w.alloc (.cells (N12 k n s r t (.slice p q c)) 28)).alloc (.cells (l3 row) 57))).heap.size ((w.alloc (.cells (N12 k n s r t (.slice p q c)) 28)).alloc (.cells (l3 row) 57)) w1 → w1.cell? ⟨w.heap.size + 1, 0, none⟩ = some (.int .i64 (cntOf row))) := fun w1 hb => by
    rw [cell_blk ((hb.block _ (lt_blk hL)).trans hL)]; rfl
  clear hN hO hP hE h hA hL
  go_enter Tryz.func19, Tryz.ntmps19
  go_wp2_with fail
  refine HC.mono ?_
  rintro e w1 ⟨rfl, hb1⟩
  have hL := HL.out w1 hb1
  clear a0 a1 a2 a3 a4 a5 a6 a7 a8 a9 a10 a11 af HC HL
  have HB : Hid (Below w.heap.size w w1) := bnext hb0 hb1 hb0.size
  clear hb0 hb1
  have q1 : ¬ at' < 1 := by omega
  have q2 : ¬ cntOf row < at' := by omega
  have q3 : ¬ many < 0 := by omega
  have q4 : ¬ cntOf row < many := by omega
  clear hb
  go_wp2_with fail
  go_ret
  exact ⟨rfl, HB.out⟩
end Go.Proofs.YtimagcmmaffpjaaGreatDoor.fm

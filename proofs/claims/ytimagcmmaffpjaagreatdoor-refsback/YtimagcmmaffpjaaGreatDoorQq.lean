/- The law RefsBack, walked, where the node is let through. Conditions: the package variables as the program's text lays them; the node lies in memory as a tree; numbers of 64 bits. -/
import Derived.Test.YtimagcmmaffpjaaGreatDoorQr
namespace Go.Proofs.YtimagcmmaffpjaaGreatDoor.fm
open Go.RowKit
theorem bd_cnt {t : T} (h : Ok t) (N : Nat) : t.cnt ≤ N → Bd N t := by
  induction h with
  | @mk k n s r t ts hn hl hs ih =>
    intro hc
    rw [cnt_eq] at hc
    have h1 := cntL_len ts
    exact .mk (by omega) (fun i u hu => ih i u hu (by have := cntL_kid ts i u hu; omega))
theorem kd_pos {t : T} {x : List UInt8} {d : Nat} (h : W ink t x d) : t.kd ≠ 0 := by
  cases h <;> (intro e; cases e)
set_option maxRecDepth 100000 in
set_option maxHeartbeats 16000000 in
theorem law_yes (row : Bool) (at' many cols rows : Int) (w : World) (hc : -9223372036854775808 ≤ cols ∧ cols ≤ 9223372036854775807) (hr : -9223372036854775808 ≤ rows ∧ rows ≤ 9223372036854775807) (hE : EnvW w) {P : Nat → Prop} (hP : ∀ b, P b → b < w.heap.size) {k n : Int} {s : ByteArray} {r t : Rf} {p : Option Addr} {q c : Nat} {T0 : T} (hN : Nd w P (NV k n s r t (.slice p q c)) T0) (hO : Ok T0) (hck : Ckd T0) :
    Calls Tryz.prog 3 #[NV k n s r t (.slice p q c), .bool row, .int .i64 at', .int .i64 many, .int .i64 cols, .int .i64 rows] w fun e w' => e = .returned (.bool true) ∧ Below w.heap.size w w' := by
  have hS0 := OB.start (Below.refl w.heap.size w) (N12 k n s r t (.slice p q c))
  have HP := first_one _ (hE.next hS0.below)
  have HIN : Hid (∀ wx, Below w.heap.size w wx → EnvW wx ∧ Nd wx P (NV k n s r t (.slice p q c)) T0 ∧ ∀ b, P b → b < wx.heap.size) := fun wx hb => ⟨hE.next hb, hN.mono (fun b h => hb.block b (hP b h)) (fun _ h => h), fun b h => Nat.lt_of_lt_of_le (hP b h) hb.size⟩
  have hck' := hck
  obtain ⟨xx, dp, hW, h6, hcnt, -, -⟩ := hck'
  have hgd := gd_of hW
  have hk0 : k ≠ 0 := by rw [← nd_kd hN k n s r t _ rfl]; exact kd_pos hW
  have hB := bd_cnt hO 200 hcnt
  have hO1 : Ok (chg (Cw (inR row at' many)) T0) := ok_chg hO
  have hO2 : Ok (chg (Cw (mvR cols rows)) T0) := ok_chg hO
  have hc1 : (chg (Cw (inR row at' many)) T0).cnt ≤ 200 := Nat.le_trans (cnt_chg hO) hcnt
  have hc2 : (chg (Cw (mvR cols rows)) T0).cnt ≤ 200 := Nat.le_trans (cnt_chg hO) hcnt
  have hb01 := bads_cnt hO
  have hb11 := bads_cnt hO1
  have hb21 := bads_cnt hO2
  have HK0 : Hid (k ≠ 0) := hk0
  have HCK : Hid (∀ wx, Below w.heap.size w wx → Calls Tryz.prog 6 #[NV k n s r t (.slice p q c)] wx fun e w' => e = .returned .nilIface ∧ Below wx.heap.size wx w') := fun wx hb => by
    obtain ⟨e1, e2, e3⟩ := HIN.out wx hb
    exact check_yes wx e1 e3 e2 hO hck
  have HBN : Hid (∀ wx, Below w.heap.size w wx → Calls Tryz.prog 7 #[NV k n s r t (.slice p q c)] wx fun e w' => e = .returned (.int .i64 ((T0.bads : Nat) : Int)) ∧ Below wx.heap.size wx w') := fun wx hb => by
    obtain ⟨e1, e2, e3⟩ := HIN.out wx hb
    exact bads_any e2 (by omega) hO.bd wx (Below.refl _ _)
  have HM0 : Hid (∀ wx, Below w.heap.size w wx → Calls Tryz.prog 5 #[NV k n s r t (.slice p q c), .int .i64 0, .int .i64 0] wx fun e w' => ∃ (k2 n2 : Int) (s2 : ByteArray) (r2 t2 : Rf) (p2 : Option Addr) (m2 e2 : Nat), e = .returned (.tuple #[NV k2 n2 s2 r2 t2 (.slice p2 m2 e2), .nilIface]) ∧ Below wx.heap.size wx w' ∧ ∀ wy, Below w'.heap.size w' wy → Calls Tryz.prog 8 #[NV k2 n2 s2 r2 t2 (.slice p2 m2 e2), NV k n s r t (.slice p q c)] wy fun e w' => e = .returned (.bool true) ∧ Below wy.heap.size wy w') := fun wx hb => by
    obtain ⟨e1, e2, e3⟩ := HIN.out wx hb
    refine (moved_yes 0 0 wx ⟨by decide, by decide⟩ ⟨by decide, by decide⟩ e1 e3 e2 hO hck (fits_true _ hO) hB).mono ?_
    rintro e w' ⟨k2, n2, s2, r2, t2, p2, m2, e2, rfl, hN2, hb2⟩
    rw [cw_id (fun r hr => mv_id r hr) hgd] at hN2
    refine ⟨k2, n2, s2, r2, t2, p2, m2, e2, rfl, hb2, fun wy hy => ?_⟩
    have hwy : Below w.heap.size w wy := (hb.trans (hb2.mono hb.size)).trans (hy.mono (Nat.le_trans hb.size hb2.size))
    obtain ⟨f1, f2, f3⟩ := HIN.out wy hwy
    exact same_in ⟨Own wx w', hN2.mono (fun b h => hy.block b h.2) (fun _ h => h), fun b h => Nat.lt_of_lt_of_le h.2 hy.size⟩ ⟨P, f2, f3⟩ hB
  have HI9 : Hid ((at' < 1 ∨ cntOf row < at' ∨ many < 0 ∨ cntOf row < many) → ∀ wx, Below w.heap.size w wx → Calls Tryz.prog 9 #[NV k n s r t (.slice p q c), .bool row, .int .i64 at', .int .i64 many] wx fun e w' => (∃ a : Int, e = .returned (.tuple #[NV 0 0 nul .z .z (.slice none 0 0), .iface 40 (.int .i64 a)])) ∧ Below wx.heap.size wx w') := fun hg wx hb => by
    obtain ⟨e1, e2, e3⟩ := HIN.out wx hb
    exact inserted_no row at' many wx e1 e3 e2 hO (.inr hg)
  have HIY : Hid (¬ (at' < 1 ∨ cntOf row < at' ∨ many < 0 ∨ cntOf row < many) → ∀ wx, Below w.heap.size w wx → Calls Tryz.prog 9 #[NV k n s r t (.slice p q c), .bool row, .int .i64 at', .int .i64 many] wx fun e w' => ∃ (k2 n2 : Int) (s2 : ByteArray) (r2 t2 : Rf) (p2 : Option Addr) (m2 e2 : Nat), e = .returned (.tuple #[NV k2 n2 s2 r2 t2 (.slice p2 m2 e2), .nilIface]) ∧ Nd w' (Own wx w') (NV k2 n2 s2 r2 t2 (.slice p2 m2 e2)) (chg (Cw (inR row at' many)) T0) ∧ Below wx.heap.size wx w') := fun hg wx hb => by
    obtain ⟨e1, e2, e3⟩ := HIN.out wx hb
    exact inserted_yes row at' many wx e1 e3 e2 hO hck hg (fits_gd hgd) hB
  have HIB : Hid (∀ wx (k2 n2 : Int) (s2 : ByteArray) (r2 t2 : Rf) (p2 : Option Addr) (m2 e2 : Nat), In wx (NV k2 n2 s2 r2 t2 (.slice p2 m2 e2)) (chg (Cw (inR row at' many)) T0) → Calls Tryz.prog 7 #[NV k2 n2 s2 r2 t2 (.slice p2 m2 e2)] wx fun e w' => e = .returned (.int .i64 (((chg (Cw (inR row at' many)) T0).bads : Nat) : Int)) ∧ Below wx.heap.size wx w') := fun wx k2 n2 s2 r2 t2 p2 m2 e2 ⟨Q, g1, g2⟩ =>
    bads_any g1 (by omega) hO1.bd wx (Below.refl _ _)
  have HIC : Hid (∀ wx (k2 n2 : Int) (s2 : ByteArray) (r2 t2 : Rf) (p2 : Option Addr) (m2 e2 : Nat), Below w.heap.size w wx → In wx (NV k2 n2 s2 r2 t2 (.slice p2 m2 e2)) (chg (Cw (inR row at' many)) T0) → Ckd (chg (Cw (inR row at' many)) T0) → Calls Tryz.prog 6 #[NV k2 n2 s2 r2 t2 (.slice p2 m2 e2)] wx fun e w' => e = .returned .nilIface ∧ Below wx.heap.size wx w') := fun wx k2 n2 s2 r2 t2 p2 m2 e2 hb ⟨Q, g1, g2⟩ hh =>
    check_yes wx (HIN.out wx hb).1 g2 g1 hO1 hh
  have HICn : Hid (∀ wx (k2 n2 : Int) (s2 : ByteArray) (r2 t2 : Rf) (p2 : Option Addr) (m2 e2 : Nat), Below w.heap.size w wx → In wx (NV k2 n2 s2 r2 t2 (.slice p2 m2 e2)) (chg (Cw (inR row at' many)) T0) → ¬ Ckd (chg (Cw (inR row at' many)) T0) → Calls Tryz.prog 6 #[NV k2 n2 s2 r2 t2 (.slice p2 m2 e2)] wx fun e w' => (∃ a : Int, e = .returned (.iface 40 (.int .i64 a))) ∧ Below wx.heap.size wx w') := fun wx k2 n2 s2 r2 t2 p2 m2 e2 hb ⟨Q, g1, g2⟩ hh =>
    check_no wx (HIN.out wx hb).1 g2 g1 hO1 hh
  have HID : Hid (∀ wx (k2 n2 : Int) (s2 : ByteArray) (r2 t2 : Rf) (p2 : Option Addr) (m2 e2 : Nat), Below w.heap.size w wx → In wx (NV k2 n2 s2 r2 t2 (.slice p2 m2 e2)) (chg (Cw (inR row at' many)) T0) → Ckd (chg (Cw (inR row at' many)) T0) → ¬ (at' < 1 ∨ cntOf row < at' ∨ many < 0 ∨ cntOf row < many) → (chg (Cw (inR row at' many)) T0).bads = T0.bads → Calls Tryz.prog 10 #[NV k2 n2 s2 r2 t2 (.slice p2 m2 e2), .bool row, .int .i64 at', .int .i64 many] wx fun e w' => ∃ (k3 n3 : Int) (s3 : ByteArray) (r3 t3 : Rf) (p3 : Option Addr) (m3 e3 : Nat), e = .returned (.tuple #[NV k3 n3 s3 r3 t3 (.slice p3 m3 e3), .nilIface]) ∧ Below wx.heap.size wx w' ∧ ∀ wy, Below w'.heap.size w' wy → Calls Tryz.prog 8 #[NV k3 n3 s3 r3 t3 (.slice p3 m3 e3), NV k n s r t (.slice p q c)] wy fun e w' => e = .returned (.bool true) ∧ Below wy.heap.size wy w') := fun wx k2 n2 s2 r2 t2 p2 m2 e2 hb ⟨Q, g1, g2⟩ hh hg hbd => by
    have hib : ∀ rr rr', isK rr → opt (inR row at' many rr) = some rr' → isK rr' ∧ deR row at' many rr' = (rr, true) := fun rr rr' h1 h2 => in_back row at' many (by omega) rr rr' h1 h2
    refine (deleted_yes row at' many wx (HIN.out wx hb).1 g2 g1 hO1 hh hg (fits_chg (fun rr rr' h1 h2 => ⟨(hib rr rr' h1 h2).1, by rw [(hib rr rr' h1 h2).2]⟩) hgd) (bd_chg hB)).mono ?_
    rintro e w' ⟨k3, n3, s3, r3, t3, p3, m3, e3, rfl, hN3, hb3⟩
    rw [cw_back (fun rr rr' h1 h2 => by rw [(hib rr rr' h1 h2).2]; rfl) hgd hbd] at hN3
    refine ⟨k3, n3, s3, r3, t3, p3, m3, e3, rfl, hb3, fun wy hy => ?_⟩
    have hwy : Below w.heap.size w wy := (hb.trans (hb3.mono hb.size)).trans (hy.mono (Nat.le_trans hb.size hb3.size))
    obtain ⟨f1, f2, f3⟩ := HIN.out wy hwy
    exact same_in ⟨Own wx w', hN3.mono (fun b h => hy.block b h.2) (fun _ h => h), fun b h => Nat.lt_of_lt_of_le h.2 hy.size⟩ ⟨P, f2, f3⟩ hB
  have HIDn : Hid (∀ wx (k2 n2 : Int) (s2 : ByteArray) (r2 t2 : Rf) (p2 : Option Addr) (m2 e2 : Nat), Below w.heap.size w wx → In wx (NV k2 n2 s2 r2 t2 (.slice p2 m2 e2)) (chg (Cw (inR row at' many)) T0) → ¬ Ckd (chg (Cw (inR row at' many)) T0) → Calls Tryz.prog 10 #[NV k2 n2 s2 r2 t2 (.slice p2 m2 e2), .bool row, .int .i64 at', .int .i64 many] wx fun e w' => (∃ a : Int, e = .returned (.tuple #[NV 0 0 nul .z .z (.slice none 0 0), .iface 40 (.int .i64 a)])) ∧ Below wx.heap.size wx w') := fun wx k2 n2 s2 r2 t2 p2 m2 e2 hb ⟨Q, g1, g2⟩ hh =>
    deleted_no row at' many wx (HIN.out wx hb).1 g2 g1 hO1 (.inl hh)
  have HMV : Hid (∀ wx, Below w.heap.size w wx → Calls Tryz.prog 5 #[NV k n s r t (.slice p q c), .int .i64 cols, .int .i64 rows] wx fun e w' => ∃ (k2 n2 : Int) (s2 : ByteArray) (r2 t2 : Rf) (p2 : Option Addr) (m2 e2 : Nat), e = .returned (.tuple #[NV k2 n2 s2 r2 t2 (.slice p2 m2 e2), .nilIface]) ∧ Nd w' (Own wx w') (NV k2 n2 s2 r2 t2 (.slice p2 m2 e2)) (chg (Cw (mvR cols rows)) T0) ∧ Below wx.heap.size wx w') := fun wx hb => by
    obtain ⟨e1, e2, e3⟩ := HIN.out wx hb
    exact moved_yes cols rows wx hc hr e1 e3 e2 hO hck (fits_true _ hO) hB
  have HVB : Hid (∀ wx (k2 n2 : Int) (s2 : ByteArray) (r2 t2 : Rf) (p2 : Option Addr) (m2 e2 : Nat), In wx (NV k2 n2 s2 r2 t2 (.slice p2 m2 e2)) (chg (Cw (mvR cols rows)) T0) → Calls Tryz.prog 7 #[NV k2 n2 s2 r2 t2 (.slice p2 m2 e2)] wx fun e w' => e = .returned (.int .i64 (((chg (Cw (mvR cols rows)) T0).bads : Nat) : Int)) ∧ Below wx.heap.size wx w') := fun wx k2 n2 s2 r2 t2 p2 m2 e2 ⟨Q, g1, g2⟩ =>
    bads_any g1 (by omega) hO2.bd wx (Below.refl _ _)
  have HVC : Hid (∀ wx (k2 n2 : Int) (s2 : ByteArray) (r2 t2 : Rf) (p2 : Option Addr) (m2 e2 : Nat), Below w.heap.size w wx → In wx (NV k2 n2 s2 r2 t2 (.slice p2 m2 e2)) (chg (Cw (mvR cols rows)) T0) → Ckd (chg (Cw (mvR cols rows)) T0) → Calls Tryz.prog 6 #[NV k2 n2 s2 r2 t2 (.slice p2 m2 e2)] wx fun e w' => e = .returned .nilIface ∧ Below wx.heap.size wx w') := fun wx k2 n2 s2 r2 t2 p2 m2 e2 hb ⟨Q, g1, g2⟩ hh =>
    check_yes wx (HIN.out wx hb).1 g2 g1 hO2 hh
  have HVCn : Hid (∀ wx (k2 n2 : Int) (s2 : ByteArray) (r2 t2 : Rf) (p2 : Option Addr) (m2 e2 : Nat), Below w.heap.size w wx → In wx (NV k2 n2 s2 r2 t2 (.slice p2 m2 e2)) (chg (Cw (mvR cols rows)) T0) → ¬ Ckd (chg (Cw (mvR cols rows)) T0) → Calls Tryz.prog 6 #[NV k2 n2 s2 r2 t2 (.slice p2 m2 e2)] wx fun e w' => (∃ a : Int, e = .returned (.iface 40 (.int .i64 a))) ∧ Below wx.heap.size wx w') := fun wx k2 n2 s2 r2 t2 p2 m2 e2 hb ⟨Q, g1, g2⟩ hh =>
    check_no wx (HIN.out wx hb).1 g2 g1 hO2 hh
  have HVM : Hid (∀ wx (k2 n2 : Int) (s2 : ByteArray) (r2 t2 : Rf) (p2 : Option Addr) (m2 e2 : Nat), Below w.heap.size w wx → In wx (NV k2 n2 s2 r2 t2 (.slice p2 m2 e2)) (chg (Cw (mvR cols rows)) T0) → Ckd (chg (Cw (mvR cols rows)) T0) → (-99 ≤ cols ∧ cols ≤ 99) ∧ (-99 ≤ rows ∧ rows ≤ 99) → (chg (Cw (mvR cols rows)) T0).bads = T0.bads → Calls Tryz.prog 5 #[NV k2 n2 s2 r2 t2 (.slice p2 m2 e2), .int .i64 (-cols), .int .i64 (-rows)] wx fun e w' => ∃ (k3 n3 : Int) (s3 : ByteArray) (r3 t3 : Rf) (p3 : Option Addr) (m3 e3 : Nat), e = .returned (.tuple #[NV k3 n3 s3 r3 t3 (.slice p3 m3 e3), .nilIface]) ∧ Below wx.heap.size wx w' ∧ ∀ wy, Below w'.heap.size w' wy → Calls Tryz.prog 8 #[NV k3 n3 s3 r3 t3 (.slice p3 m3 e3), NV k n s r t (.slice p q c)] wy fun e w' => e = .returned (.bool true) ∧ Below wy.heap.size wy w') := fun wx k2 n2 s2 r2 t2 p2 m2 e2 hb ⟨Q, g1, g2⟩ hh hg hbd => by
    refine (moved_yes (-cols) (-rows) wx ⟨by omega, by omega⟩ ⟨by omega, by omega⟩ (HIN.out wx hb).1 g2 g1 hO2 hh (fits_true _ hO2) (bd_chg hB)).mono ?_
    rintro e w' ⟨k3, n3, s3, r3, t3, p3, m3, e3, rfl, hN3, hb3⟩
    rw [cw_back (fun rr rr' h1 h2 => mv_back cols rows hg.1 hg.2 rr rr' h1 h2) hgd hbd] at hN3
    refine ⟨k3, n3, s3, r3, t3, p3, m3, e3, rfl, hb3, fun wy hy => ?_⟩
    have hwy : Below w.heap.size w wy := (hb.trans (hb3.mono hb.size)).trans (hy.mono (Nat.le_trans hb.size hb3.size))
    obtain ⟨f1, f2, f3⟩ := HIN.out wy hwy
    exact same_in ⟨Own wx w', hN3.mono (fun b h => hy.block b h.2) (fun _ h => h), fun b h => Nat.lt_of_lt_of_le h.2 hy.size⟩ ⟨P, f2, f3⟩ hB
  have HVMn : Hid (∀ wx (k2 n2 : Int) (s2 : ByteArray) (r2 t2 : Rf) (p2 : Option Addr) (m2 e2 : Nat), Below w.heap.size w wx → In wx (NV k2 n2 s2 r2 t2 (.slice p2 m2 e2)) (chg (Cw (mvR cols rows)) T0) → ¬ Ckd (chg (Cw (mvR cols rows)) T0) → (-99 ≤ cols ∧ cols ≤ 99) ∧ (-99 ≤ rows ∧ rows ≤ 99) → Calls Tryz.prog 5 #[NV k2 n2 s2 r2 t2 (.slice p2 m2 e2), .int .i64 (-cols), .int .i64 (-rows)] wx fun e w' => (∃ a : Int, e = .returned (.tuple #[NV 0 0 nul .z .z (.slice none 0 0), .iface 40 (.int .i64 a)])) ∧ Below wx.heap.size wx w') := fun wx k2 n2 s2 r2 t2 p2 m2 e2 hb ⟨Q, g1, g2⟩ hh _ =>
    moved_no (-cols) (-rows) wx (HIN.out wx hb).1 g2 g1 hO2 hh
  clear hN hO hP hE hck HIN hW h6 hcnt hgd hk0 hB hO1 hO2 hc1 hc2 hb01 hb11 hb21
  generalize chg (Cw (inR row at' many)) T0 = T1 at *
  generalize chg (Cw (mvR cols rows)) T0 = T2 at *
  obtain ⟨z0, hz0⟩ : ∃ z0, T0.bads = z0 := ⟨_, rfl⟩
  rw [hz0] at HBN HID HVM
  clear hz0
  go_enter Tryz.func3, Tryz.ntmps3
  go_wp2_with fail
  refine HP.mono ?_
  rintro e w1 ⟨p1, m1, c1, rfl, hb1, hmv⟩
  have HMV : Hid (∀ wx, Below w1.heap.size w1 wx → Calls Tryz.prog 5 #[NV 5 0 nul r11 .z (.slice p1 m1 c1), .int .i64 1, .int .i64 1] wx fun e w'' => ∃ (p2 : Option Addr) (m2 c2 : Nat), e = .returned (.tuple #[NV 5 0 nul r22 .z (.slice p2 m2 c2), .nilIface]) ∧ Below wx.heap.size wx w'') := hmv
  clear hmv HP
  have hba : Below w1.heap.size w1 (w1.alloc (.cells (N12 5 0 nul r11 .z (.slice p1 m1 c1)) 28)) := (Below.refl _ _).alloc (Nat.le_refl _) _
  have hS1 := (hS0.next hb1).next hba
  obtain ⟨⟨a0, a1, a2, a3, a4, a5, a6, a7, a8, a9, a10, a11⟩, -⟩ := cells12 (blk_new w1 (.cells (N12 5 0 nul r11 .z (.slice p1 m1 c1)) 28))
  go_wp2_with fail
  refine (HMV.out _ hba).mono ?_
  rintro e w2 ⟨p2, m2, c2, rfl, hb2⟩
  have hbb : Below w2.heap.size w2 (w2.alloc (.cells (N12 5 0 nul r22 .z (.slice p2 m2 c2)) 28)) := (Below.refl _ _).alloc (Nat.le_refl _) _
  have hS2 := (hS1.next hb2).next hbb
  clear a0 a1 a2 a3 a4 a5 a6 a7 a8 a9 a10 a11 hb1 hb2 hba HMV hS0 hS1
  obtain ⟨⟨a0, a1, a2, a3, a4, a5, a6, a7, a8, a9, a10, a11⟩, -⟩ := cells12 (blk_new w2 (.cells (N12 5 0 nul r22 .z (.slice p2 m2 c2)) 28))
  obtain ⟨⟨d0, d1, d2, d3, d4, d5, d6, d7, d8, d9, d10, d11⟩, -⟩ := cells12 hS2.a
  go_wp2_with fail
  refine (HCK.out _ hS2.below).mono ?_
  rintro e w3 ⟨rfl, hb3⟩
  have hS3 := hS2.next hb3
  clear a0 a1 a2 a3 a4 a5 a6 a7 a8 a9 a10 a11 d0 d1 d2 d3 d4 d5 d6 d7 d8 d9 d10 d11 hS2 HCK hbb hb3
  obtain ⟨⟨d0, d1, d2, d3, d4, d5, d6, d7, d8, d9, d10, d11⟩, -⟩ := cells12 hS3.a
  go_wp2_with fail
  refine (HBN.out _ hS3.below).mono ?_
  rintro e w4 ⟨rfl, hb4⟩
  have hS4 := hS3.next hb4
  clear d0 d1 d2 d3 d4 d5 d6 d7 d8 d9 d10 d11 hS3 HBN hb4
  obtain ⟨⟨d0, d1, d2, d3, d4, d5, d6, d7, d8, d9, d10, d11⟩, -⟩ := cells12 hS4.a
  go_wp2_with fail
  refine (HM0.out _ hS4.below).mono ?_
  rintro e w5 ⟨k2, n2, s2, r2, t2, p2, m2, e2, rfl, hb5, hsm⟩
  have HSM : Hid (∀ wy, Below w5.heap.size w5 wy → Calls Tryz.prog 8 #[NV k2 n2 s2 r2 t2 (.slice p2 m2 e2), NV k n s r t (.slice p q c)] wy fun e w' => e = .returned (.bool true) ∧ Below wy.heap.size wy w') := hsm
  have hbc : Below w5.heap.size w5 (w5.alloc (.cells (N12 k2 n2 s2 r2 t2 (.slice p2 m2 e2)) 28)) := (Below.refl _ _).alloc (Nat.le_refl _) _
  have hS5 := (hS4.next hb5).next hbc
  have hm5 := blk_new w5 (.cells (N12 k2 n2 s2 r2 t2 (.slice p2 m2 e2)) 28)
  have hl5 : w.heap.size < w5.heap.size := lt_blk (hS4.next hb5).a
  clear d0 d1 d2 d3 d4 d5 d6 d7 d8 d9 d10 d11 hS4 HM0 hb5 hsm
  obtain ⟨⟨d0, d1, d2, d3, d4, d5, d6, d7, d8, d9, d10, d11⟩, -⟩ := cells12 hS5.a
  obtain ⟨⟨a0, a1, a2, a3, a4, a5, a6, a7, a8, a9, a10, a11⟩, -⟩ := cells12 hm5
  go_wp2_with fail
  refine (HSM.out _ hbc).mono ?_
  rintro e w6 ⟨rfl, hb6⟩
  have hL : LB w (N12 k n s r t (.slice p q c)) w5.heap.size (N12 k2 n2 s2 r2 t2 (.slice p2 m2 e2)) w6 := ⟨(hS5.next hb6).a, (hb6.block _ (lt_blk hm5)).trans hm5, hl5, (hS5.next hb6).below⟩
  generalize hbm : w5.heap.size = bm at *
  clear a0 a1 a2 a3 a4 a5 a6 a7 a8 a9 a10 a11 d0 d1 d2 d3 d4 d5 d6 d7 d8 d9 d10 d11 hS5 hm5 hl5 hbc hb6 HSM hbm
  go_upto_region 15 with fail
  go_cut [20] (fun s20 wx => R15 w (N12 k n s r t (.slice p q c)) bm (¬ (at' < 1 ∨ cntOf row < at' ∨ many < 0 ∨ cntOf row < many)) T1 s20 wx)
  case first =>
    obtain ⟨⟨d0, d1, d2, d3, d4, d5, d6, d7, d8, d9, d10, d11⟩, -⟩ := cells12 hL.a
    by_cases hrg : (at' < 1 ∨ cntOf row < at' ∨ many < 0 ∨ cntOf row < many)
    · have HX := HI9.out hrg _ hL.below
      clear hrg
      go_wp2_with fail
      refine HX.mono ?_
      rintro e w7 ⟨⟨a, rfl⟩, hb7⟩
      have hL7 := hL.next hb7
      clear d0 d1 d2 d3 d4 d5 d6 d7 d8 d9 d10 d11
      obtain ⟨⟨a0, a1, a2, a3, a4, a5, a6, a7, a8, a9, a10, a11⟩, af⟩ := cells12 hL7.m
      go_wp2_with fail
      go_meet
      case rel =>
        refine fin12 hL7.m (Q := R15 w (N12 k n s r t (.slice p q c)) bm (¬ (at' < 1 ∨ cntOf row < at' ∨ many < 0 ∨ cntOf row < many)) T1 (.iface 40 (.int .i64 a))) ?_
        intro w8 hq8 hk8
        exact ⟨0, 0, nul, .z, .z, none, 0, 0, hL7.set hk8 hq8, .inl ⟨a, rfl⟩⟩
    · have HX := HIY.out hrg _ hL.below
      have HG : Hid (¬ (at' < 1 ∨ cntOf row < at' ∨ many < 0 ∨ cntOf row < many)) := hrg
      clear hrg
      go_wp2_with fail
      refine HX.mono ?_
      rintro e w7 ⟨k3, n3, s3, r3, t3, p3, m3, e3, rfl, hN7, hb7⟩
      have hL7 := hL.next hb7
      have hlt := lt_blk hL.m
      clear d0 d1 d2 d3 d4 d5 d6 d7 d8 d9 d10 d11
      obtain ⟨⟨a0, a1, a2, a3, a4, a5, a6, a7, a8, a9, a10, a11⟩, af⟩ := cells12 hL7.m
      go_wp2_with fail
      go_meet
      case rel =>
        refine fin12 hL7.m (Q := R15 w (N12 k n s r t (.slice p q c)) bm (¬ (at' < 1 ∨ cntOf row < at' ∨ many < 0 ∨ cntOf row < many)) T1 .nilIface) ?_
        intro w8 hq8 hk8
        exact ⟨k3, n3, s3, r3, t3, p3, m3, e3, hL7.set hk8 hq8, .inr ⟨rfl, HG.out, in_set hN7 hk8 hlt⟩⟩
  case rest =>
  clear hL HI9 HIY
  obtain ⟨k2, n2, s2, r2, t2, p2, m2, e2, hL, hs20⟩ := hcut
  have HS20 : Hid _ := hs20
  clear hs20
  go_upto_region 16 with fail
  go_cut [89] (fun s89 wx => R16 w (N12 k n s r t (.slice p q c)) bm (¬ (at' < 1 ∨ cntOf row < at' ∨ many < 0 ∨ cntOf row < many)) T1 z0 s89 wx)
  case first =>
    rcases HS20.out with ⟨a, rfl⟩ | ⟨rfl, hok, hI⟩
    · clear HS20
      go_wp2_with fail
      go_meet
      case rel => exact ⟨false, k2, n2, s2, r2, t2, p2, m2, e2, rfl, hL, fun e => by cases e⟩
    · have HX := HIB.out _ k2 n2 s2 r2 t2 p2 m2 e2 hI
      have HOK : Hid (¬ (at' < 1 ∨ cntOf row < at' ∨ many < 0 ∨ cntOf row < many)) := hok
      have HII : Hid (In wc (NV k2 n2 s2 r2 t2 (.slice p2 m2 e2)) T1) := hI
      clear HS20 hok hI
      obtain ⟨⟨a0, a1, a2, a3, a4, a5, a6, a7, a8, a9, a10, a11⟩, -⟩ := cells12 hL.m
      by_cases hz : T1.bads = z0
      · rw [hz] at HX
        have HZ : Hid (T1.bads = z0) := hz
        clear hz
        go_wp2_with fail
        refine HX.mono ?_
        rintro e w7 ⟨rfl, hb7⟩
        go_wp2_with fail
        go_meet
        case rel => exact ⟨true, k2, n2, s2, r2, t2, p2, m2, e2, rfl, hL.next hb7, fun _ => ⟨HOK.out, HZ.out, HII.out.next hb7⟩⟩
      · have g1 : (((T1.bads : Nat) : Int) == ((z0 : Nat) : Int)) = false := by simp; omega
        generalize T1.bads = z1 at *
        clear hz
        go_wp2_with fail
        refine HX.mono ?_
        rintro e w7 ⟨rfl, hb7⟩
        go_wp2_with fail
        go_meet
        case rel => exact ⟨false, k2, n2, s2, r2, t2, p2, m2, e2, rfl, hL.next hb7, fun e => by cases e⟩
  case rest =>
  clear hL HIB HS20
  obtain ⟨zb, k2, n2, s2, r2, t2, p2, m2, e2, rfl, hL, hI⟩ := hcut
  have HI : Hid (zb = true → ¬ (at' < 1 ∨ cntOf row < at' ∨ many < 0 ∨ cntOf row < many) ∧ T1.bads = z0 ∧ In wc (NV k2 n2 s2 r2 t2 (.slice p2 m2 e2)) T1) := hI
  clear hI
  go_upto_if 89 with fail
  go_cut [] (fun wx => R89 w (N12 k n s r t (.slice p q c)) bm wx)
  case first =>
    cases zb
    · clear HI
      go_wp2_with fail
      go_meet
      case rel => exact ⟨k2, n2, s2, r2, t2, p2, m2, e2, hL⟩
    · obtain ⟨hok, hbd, hI⟩ := HI.out rfl
      clear HI
      obtain ⟨⟨a0, a1, a2, a3, a4, a5, a6, a7, a8, a9, a10, a11⟩, -⟩ := cells12 hL.m
      by_cases hck1 : Ckd T1
      · have HX := HIC.out _ k2 n2 s2 r2 t2 p2 m2 e2 hL.below hI hck1
        have HY : Hid (∀ wy, Below wc.heap.size wc wy → Calls Tryz.prog 10 #[NV k2 n2 s2 r2 t2 (.slice p2 m2 e2), .bool row, .int .i64 at', .int .i64 many] wy fun e w' => ∃ (k3 n3 : Int) (s3 : ByteArray) (r3 t3 : Rf) (p3 : Option Addr) (m3 e3 : Nat), e = .returned (.tuple #[NV k3 n3 s3 r3 t3 (.slice p3 m3 e3), .nilIface]) ∧ Below wy.heap.size wy w' ∧ ∀ wz, Below w'.heap.size w' wz → Calls Tryz.prog 8 #[NV k3 n3 s3 r3 t3 (.slice p3 m3 e3), NV k n s r t (.slice p q c)] wz fun e w' => e = .returned (.bool true) ∧ Below wz.heap.size wz w') := fun wy hy => HID.out wy k2 n2 s2 r2 t2 p2 m2 e2 (hL.next hy).below (hI.next hy) hck1 hok hbd
        clear hok hbd hI hck1 HIC HICn HID HIDn
        go_wp2_with fail
        refine HX.mono ?_
        rintro e w7 ⟨rfl, hb7⟩
        have hL7 := hL.next hb7
        clear a0 a1 a2 a3 a4 a5 a6 a7 a8 a9 a10 a11
        obtain ⟨⟨a0, a1, a2, a3, a4, a5, a6, a7, a8, a9, a10, a11⟩, -⟩ := cells12 hL7.m
        go_wp2_with fail
        refine (HY.out _ hb7).mono ?_
        rintro e w8 ⟨k3, n3, s3, r3, t3, p3, m3, e3, rfl, hb8, hsm⟩
        have HSM : Hid (∀ wz, Below w8.heap.size w8 wz → Calls Tryz.prog 8 #[NV k3 n3 s3 r3 t3 (.slice p3 m3 e3), NV k n s r t (.slice p q c)] wz fun e w' => e = .returned (.bool true) ∧ Below wz.heap.size wz w') := hsm
        have hba8 : Below w8.heap.size w8 (w8.alloc (.cells (N12 k3 n3 s3 r3 t3 (.slice p3 m3 e3)) 28)) := (Below.refl _ _).alloc (Nat.le_refl _) _
        have hL8 := (hL7.next hb8).next hba8
        clear a0 a1 a2 a3 a4 a5 a6 a7 a8 a9 a10 a11 hsm
        obtain ⟨⟨d0, d1, d2, d3, d4, d5, d6, d7, d8, d9, d10, d11⟩, -⟩ := cells12 hL8.a
        obtain ⟨⟨a0, a1, a2, a3, a4, a5, a6, a7, a8, a9, a10, a11⟩, -⟩ := cells12 (blk_new w8 (.cells (N12 k3 n3 s3 r3 t3 (.slice p3 m3 e3)) 28))
        go_wp2_with fail
        refine (HSM.out _ hba8).mono ?_
        rintro e w9 ⟨rfl, hb9⟩
        have hL9 := hL8.next hb9
        clear a0 a1 a2 a3 a4 a5 a6 a7 a8 a9 a10 a11 d0 d1 d2 d3 d4 d5 d6 d7 d8 d9 d10 d11
        go_wp2_with fail
        go_meet
        case rel => exact ⟨k2, n2, s2, r2, t2, p2, m2, e2, hL9⟩
      · have HX := HICn.out _ k2 n2 s2 r2 t2 p2 m2 e2 hL.below hI hck1
        have HY : Hid (∀ wy, Below wc.heap.size wc wy → Calls Tryz.prog 10 #[NV k2 n2 s2 r2 t2 (.slice p2 m2 e2), .bool row, .int .i64 at', .int .i64 many] wy fun e w' => (∃ a : Int, e = .returned (.tuple #[NV 0 0 nul .z .z (.slice none 0 0), .iface 40 (.int .i64 a)])) ∧ Below wy.heap.size wy w') := fun wy hy => HIDn.out wy k2 n2 s2 r2 t2 p2 m2 e2 (hL.next hy).below (hI.next hy) hck1
        clear hok hbd hI hck1 HIC HICn HID HIDn
        go_wp2_with fail
        refine HX.mono ?_
        rintro e w7 ⟨⟨x7, rfl⟩, hb7⟩
        have hL7 := hL.next hb7
        clear a0 a1 a2 a3 a4 a5 a6 a7 a8 a9 a10 a11
        obtain ⟨⟨a0, a1, a2, a3, a4, a5, a6, a7, a8, a9, a10, a11⟩, -⟩ := cells12 hL7.m
        go_wp2_with fail
        refine (HY.out _ hb7).mono ?_
        rintro e w8 ⟨⟨x8, rfl⟩, hb8⟩
        have hba8 : Below w8.heap.size w8 (w8.alloc (.cells NZ 28)) := (Below.refl _ _).alloc (Nat.le_refl _) _
        have hL8 := (hL7.next hb8).next hba8
        clear a0 a1 a2 a3 a4 a5 a6 a7 a8 a9 a10 a11
        obtain ⟨⟨d0, d1, d2, d3, d4, d5, d6, d7, d8, d9, d10, d11⟩, -⟩ := cells12 hL8.a
        obtain ⟨⟨a0, a1, a2, a3, a4, a5, a6, a7, a8, a9, a10, a11⟩, -⟩ := cells12 (blk_new w8 (.cells NZ 28))
        have HZZ := same_zero (n := n) (s := s) (r := r) (t := t) (v := .slice p q c) HK0.out (w8.alloc (.cells NZ 28))
        go_wp2_with fail
        refine HZZ.mono ?_
        rintro e w9 ⟨rfl, hb9⟩
        have hL9 := hL8.next hb9
        clear a0 a1 a2 a3 a4 a5 a6 a7 a8 a9 a10 a11 d0 d1 d2 d3 d4 d5 d6 d7 d8 d9 d10 d11
        go_wp2_with fail
        go_meet
        case rel => exact ⟨k2, n2, s2, r2, t2, p2, m2, e2, hL9⟩
  case rest =>
  clear hL HI HIC HICn HID HIDn
  apply_assumption
  exact tail22 cols rows w hc hr T2 z0 bm wc HK0 hcut HMV HVB HVC HVCn HVM HVMn
end Go.Proofs.YtimagcmmaffpjaaGreatDoor.fm

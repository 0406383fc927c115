/- What the law RefsBack asks first, and what Same says of no node. Conditions: as each theorem says. -/
import Derived.Test.YtimagcmmaffpjaaGreatDoorQn
import Derived.Test.YtimagcmmaffpjaaGreatDoorFz
import Derived.Test.YtimagcmmaffpjaaGreatDoorPa
namespace Go.Proofs.YtimagcmmaffpjaaGreatDoor.fm
open Go.RowKit
abbrev r11 : Rf := ⟨1, 1, false, false⟩
abbrev r22 : Rf := ⟨2, 2, false, false⟩
abbrev tA1 : T := .nd 5 0 nul r11 .z []
theorem w_A1 : W ink tA1 [65, 49] 0 := by
  have h : W ink tA1 (ink.ref r11) 0 := .ref (show adr.isC 1 1 = true by decide)
  have e : ink.ref r11 = [65, 49] := by
    show dollar false ++ UInt8.ofNat (64 + (1 : Int).toNat) :: (dollar false ++ Lib.decDigits (1 : Int).toNat) = _
    rw [show (1 : Int).toNat = 1 from rfl, adr.dec_small (by decide)]
    rfl
  rw [e] at h
  exact h
theorem fact_A1 : parse lexP ⟨#[61, 65, 49]⟩ = .ok tA1 0 := back_one w_A1 (by decide) (by decide) (by decide)
theorem ok_A1 : Ok tA1 := .mk (by decide) (Nat.zero_le _) (fun i u hu => by simp at hu)
theorem ckd_A1 : Ckd tA1 := ⟨_, _, w_A1, by decide, by rw [cnt_eq]; simp [cntL], by decide, by decide⟩
theorem fits_true (t : T) (h : Ok t) : Fits (fun _ => True) t := by
  induction h with
  | mk hn hl hs ih => exact .mk (fun _ => trivial) (fun _ => ⟨trivial, trivial⟩) ih
theorem chg_A1 : chg (Cw (mvR 1 1)) tA1 = .nd 5 0 nul r22 .z [] := by
  rw [chg_eq]
  unfold chgN
  rw [if_pos rfl]
  have e : (Cw (mvR 1 1)).ref r11 = some r22 := by
    show opt (mvR 1 1 r11) = some r22
    have e : mvR 1 1 r11 = (r22, true) := by
      unfold mvR adr.shR adr.sum1
      decide
    rw [e]
    rfl
  rw [e]
  simp [chgL]
theorem first_one (w : World) (hE : EnvW w) : Calls Tryz.prog 4 #[.string ⟨#[61, 65, 49]⟩] w fun e w' => ∃ (p : Option Addr) (m c : Nat), e = .returned (.tuple #[NV 5 0 nul r11 .z (.slice p m c), .int .i64 0, .nilIface]) ∧ Below w.heap.size w w' ∧
      ∀ wx, Below w'.heap.size w' wx → Calls Tryz.prog 5 #[NV 5 0 nul r11 .z (.slice p m c), .int .i64 1, .int .i64 1] wx fun e w'' => ∃ (p2 : Option Addr) (m2 c2 : Nat), e = .returned (.tuple #[NV 5 0 nul r22 .z (.slice p2 m2 c2), .nilIface]) ∧ Below wx.heap.size wx w'' := by
  refine (parse_any _ w hE.f (by decide) _ fact_A1).mono ?_
  rintro e w' ⟨v, rfl, hv, hb'⟩
  have hv' := hv
  cases hv' with
  | @mk K N S9 Ra Rb p9 q9 c9 us ts hk hl hs =>
    refine ⟨p9, q9, c9, rfl, hb', fun wx hb => ?_⟩
    have hN : Nd wx (Own w w') (NV 5 0 nul r11 .z (.slice p9 q9 c9)) tA1 := hv.mono (fun b hb2 => hb.block b hb2.2) (fun _ h => h)
    refine (moved_yes 1 1 wx ⟨by decide, by decide⟩ ⟨by decide, by decide⟩ ((hE.next hb').next hb) (P := Own w w') (fun b h => Nat.lt_of_lt_of_le h.2 hb.size) hN ok_A1 ckd_A1 (fits_true _ ok_A1) (.mk (Nat.zero_le _) (fun i u hu => by simp at hu))).mono ?_
    rintro e w2 ⟨k2, n2, s2, r2, t2, p2, m2, e2, he, hN2, hb2⟩
    obtain ⟨v2, hv2⟩ : ∃ v2, NV k2 n2 s2 r2 t2 (.slice p2 m2 e2) = v2 := ⟨_, rfl⟩
    rw [hv2] at he hN2
    rw [chg_A1] at hN2
    subst he
    clear hv2
    cases hN2 with
    | mk hk2 hl2 hs2 => exact ⟨_, _, _, rfl, hb2⟩
set_option maxRecDepth 100000 in
set_option maxHeartbeats 4000000 in
theorem same_zero {k n : Int} {s : ByteArray} {r t : Rf} {v : Value} (hk : k ≠ 0) (w : World) :
    Calls Tryz.prog 8 #[NV 0 0 nul .z .z (.slice none 0 0), NV k n s r t v] w fun e w' => e = .returned (.bool false) ∧ Below w.heap.size w w' := by
  have hb0 : Below w.heap.size w ((w.alloc (.cells (N12 0 0 nul .z .z (.slice none 0 0)) 28)).alloc (.cells (N12 k n s r t v) 28)) := ((Below.refl _ _).alloc (Nat.le_refl _) _).alloc (by simp) _
  obtain ⟨hA, hB⟩ := two2 w (.cells (N12 0 0 nul .z .z (.slice none 0 0)) 28) (.cells (N12 k n s r t v) 28)
  obtain ⟨⟨a0, a1, a2, a3, a4, a5, a6, a7, a8, a9, a10, a11⟩, -⟩ := cells12 hA
  obtain ⟨⟨b0, b1, b2, b3, b4, b5, b6, b7, b8, b9, b10, b11⟩, -⟩ := cells12 hB
  have g1 : ((0 : Int) == k) = false := by simp; omega
  have g2 : ((0 : Int) != k) = true := by simp; omega
  have g3 : (k == (0 : Int)) = false := by simp; omega
  clear hA hB
  go_enter Tryz.func8, Tryz.ntmps8
  go_wp2_with fail
  go_ret
  exact ⟨rfl, hb0⟩
end Go.Proofs.YtimagcmmaffpjaaGreatDoor.fm
/- The law RefsBack, walked. Conditions: the package variables as the program's text lays them; the node lies in memory as a tree; numbers of 64 bits. -/
namespace Go.Proofs.YtimagcmmaffpjaaGreatDoor.fm
open Go.RowKit
/-- The node's block, and that of m. -/
structure LB (w : World) (cs : Array Value) (bm : Nat) (ms : Array Value) (wx : World) : Prop where
  a : wx.heap[w.heap.size]? = some (.cells cs 28 (0, 0))
  m : wx.heap[bm]? = some (.cells ms 28 (0, 0))
  lt : w.heap.size < bm
  below : Below w.heap.size w wx
section
variable {w wx : World} {cs ms : Array Value} {bm : Nat}
theorem LB.next {wy : World} (h : LB w cs bm ms wx) (hb : Below wx.heap.size wx wy) : LB w cs bm ms wy :=
  ⟨(hb.block _ (lt_blk h.a)).trans h.a, (hb.block _ (lt_blk h.m)).trans h.m, h.lt, bnext h.below hb h.below.size⟩
theorem LB.set {wy : World} {ms' : Array Value} (h : LB w cs bm ms wx) (hk : Kp (· = bm) wx wy) (hm : wy.heap[bm]? = some (.cells ms' 28 (0, 0))) : LB w cs bm ms' wy :=
  ⟨hk.blk h.a (by have := h.lt; omega), hm, h.lt, h.below.trans (hk.toBelow h.below.size (fun n hn e => by have := h.lt; omega))⟩
end
/-- A tree that lies in a world. -/
def In (wx : World) (v : Value) (t : T) : Prop := ∃ Q : Nat → Prop, Nd wx Q v t ∧ ∀ b, Q b → b < wx.heap.size
theorem In.next {wx wy : World} {v : Value} {t : T} (h : In wx v t) (hb : Below wx.heap.size wx wy) : In wy v t := by
  obtain ⟨Q, h1, h2⟩ := h
  exact ⟨Q, h1.mono (fun b hq => hb.block b (h2 b hq)) (fun _ h => h), fun b hq => Nat.lt_of_lt_of_le (h2 b hq) hb.size⟩
/-- What was made by a call is there, though a block that was there ahead of it is written. -/
theorem in_set {wi w' wy : World} {v : Value} {t : T} {bm : Nat} (h : Nd w' (Own wi w') v t) (hk : Kp (· = bm) w' wy) (hm : bm < wi.heap.size) : In wy v t :=
  ⟨Own wi w', h.mono (fun b hb => hk.block b hb.2 (by have := hb.1; omega)) (fun _ h => h), fun b hb => Nat.lt_of_lt_of_le hb.2 hk.size⟩
theorem same_in {wx : World} {v v' : Value} {t : T} (h : In wx v t) (h' : In wx v' t) (hB : Bd 200 t) : Calls Tryz.prog 8 #[v, v'] wx fun e w' => e = .returned (.bool true) ∧ Below wx.heap.size wx w' := by
  obtain ⟨Q, h1, h2⟩ := h
  obtain ⟨Q', h1', h2'⟩ := h'
  exact same_any h1 hB _ h1' wx (Below.refl _ _)
set_option maxRecDepth 100000 in
set_option maxHeartbeats 8000000 in
theorem law_no (row : Bool) (at' many cols rows : Int) (w : World) (hE : EnvW w) {P : Nat → Prop} (hP : ∀ b, P b → b < w.heap.size) {k n : Int} {s : ByteArray} {r t : Rf} {p : Option Addr} {q c : Nat} {T0 : T} (hN : Nd w P (NV k n s r t (.slice p q c)) T0) (hO : Ok T0) (hck : ¬ Ckd T0) :
    Calls Tryz.prog 3 #[NV k n s r t (.slice p q c), .bool row, .int .i64 at', .int .i64 many, .int .i64 cols, .int .i64 rows] w fun e w' => e = .returned (.bool true) ∧ Below w.heap.size w w' := by
  have hS0 := OB.start (Below.refl w.heap.size w) (N12 k n s r t (.slice p q c))
  have HP := first_one _ (hE.next hS0.below)
  have HIN : Hid (∀ wx, Below w.heap.size w wx → EnvW wx ∧ Nd wx P (NV k n s r t (.slice p q c)) T0 ∧ ∀ b, P b → b < wx.heap.size) := fun wx hb => ⟨hE.next hb, hN.mono (fun b h => hb.block b (hP b h)) (fun _ h => h), fun b h => Nat.lt_of_lt_of_le (hP b h) hb.size⟩
  have HCK : Hid (∀ wx, Below w.heap.size w wx → Calls Tryz.prog 6 #[NV k n s r t (.slice p q c)] wx fun e w' => (∃ a : Int, e = .returned (.iface 40 (.int .i64 a))) ∧ Below wx.heap.size wx w') := fun wx hb => by
    obtain ⟨e1, e2, e3⟩ := HIN.out wx hb
    exact check_no wx e1 e3 e2 hO hck
  clear hN hO hP hE hck HIN
  go_enter Tryz.func3, Tryz.ntmps3
  go_wp2_with fail
  refine HP.mono ?_
  rintro e w1 ⟨p1, m1, c1, rfl, hb1, hmv⟩
  have HMV : Hid (∀ wx, Below w1.heap.size w1 wx → Calls Tryz.prog 5 #[NV 5 0 nul r11 .z (.slice p1 m1 c1), .int .i64 1, .int .i64 1] wx fun e w'' => ∃ (p2 : Option Addr) (m2 c2 : Nat), e = .returned (.tuple #[NV 5 0 nul r22 .z (.slice p2 m2 c2), .nilIface]) ∧ Below wx.heap.size wx w'') := hmv
  clear hmv HP
  have hba : Below w1.heap.size w1 (w1.alloc (.cells (N12 5 0 nul r11 .z (.slice p1 m1 c1)) 28)) := (Below.refl _ _).alloc (Nat.le_refl _) _
  have hS1 := (hS0.next hb1).next hba
  obtain ⟨⟨a0, a1, a2, a3, a4, a5, a6, a7, a8, a9, a10, a11⟩, -⟩ := cells12 (blk_new w1 (.cells (N12 5 0 nul r11 .z (.slice p1 m1 c1)) 28))
  go_wp2_with fail
  refine (HMV.out _ hba).mono ?_
  rintro e w2 ⟨p2, m2, c2, rfl, hb2⟩
  have hbb : Below w2.heap.size w2 (w2.alloc (.cells (N12 5 0 nul r22 .z (.slice p2 m2 c2)) 28)) := (Below.refl _ _).alloc (Nat.le_refl _) _
  have hS2 := (hS1.next hb2).next hbb
  clear a0 a1 a2 a3 a4 a5 a6 a7 a8 a9 a10 a11 hb1 hb2 hba HMV hS0 hS1
  obtain ⟨⟨a0, a1, a2, a3, a4, a5, a6, a7, a8, a9, a10, a11⟩, -⟩ := cells12 (blk_new w2 (.cells (N12 5 0 nul r22 .z (.slice p2 m2 c2)) 28))
  obtain ⟨⟨d0, d1, d2, d3, d4, d5, d6, d7, d8, d9, d10, d11⟩, -⟩ := cells12 hS2.a
  go_wp2_with fail
  refine (HCK.out _ hS2.below).mono ?_
  rintro e w3 ⟨⟨a, rfl⟩, hb3⟩
  have hS3 := hS2.next hb3
  go_wp2_with fail
  go_ret
  exact ⟨rfl, hS3.below⟩
end Go.Proofs.YtimagcmmaffpjaaGreatDoor.fm

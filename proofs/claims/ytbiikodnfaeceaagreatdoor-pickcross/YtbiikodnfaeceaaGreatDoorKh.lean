
/- Package pick: Cross, by what eachOnce answers. Conditions: as each theorem says. -/
import Derived.Test.YtbiikodnfaeceaaGreatDoorKe
import Derived.Laws.EntriesVeiled
import Derived.Test.YtbiikodnfaeceaaGreatDoorKm
import Derived.Test.YtbiikodnfaeceaaGreatDoorHa
import Derived.Deep.CutBlock

/- Package pick: the sum of the group that has a key. Conditions: as each theorem says. -/
namespace Go.Proofs.YtbiikodnfaeceaaGreatDoor.so
open Go.RowKit Go.Sort Go.Shelf
/-- Groups as memory has them. -/
theorem GS.lies {T : Tb} {n : Nat} {c : Nat → Int} {k : Nat} {w : World} {v : Value} {gs : List Gp} {wx : World} (h : GS T n c k w v gs wx) (hl : 0 < gs.length) : ∃ g cc, v = .slice (some ⟨g, 0, none⟩) gs.length cc ∧ g < wx.heap.size ∧ ∀ i x, gs[i]? = some x → wx.cell? ⟨g, i * 5, none⟩ = some (.slice x.p n x.cap) ∧ wx.cell? ⟨g, i * 5 + 1, none⟩ = some (.int .i64 (x.pt.length : Nat)) ∧ wx.cell? ⟨g, i * 5 + 2, none⟩ = some (.int .i64 (gsum T k x.pt).k) ∧ wx.cell? ⟨g, i * 5 + 3, none⟩ = some (.int .i64 (gsum T k x.pt).n) ∧ wx.cell? ⟨g, i * 5 + 4, none⟩ = some (.string (gsum T k x.pt).s) := by
  rcases h.own.2 with ⟨rfl, h0⟩ | ⟨g, cap, cur, rfl, hb, hg, hc, hm, hz, ht⟩
  · omega
  · refine ⟨g, cap, rfl, (Array.getElem?_eq_some_iff.1 hg).1, fun i x hx => ?_⟩
    have hi : i < gs.length := (List.getElem?_eq_some_iff.1 hx).1
    have key : ∀ j, j < 5 → wx.cell? ⟨g, i * 5 + j, none⟩ = (g5 T n k x)[j]? := fun j hj => by
      have e : (cur.toList.take (gs.length * 5))[i * 5 + j]? = (grps T n k gs)[i * 5 + j]? := by rw [ht]
      rw [List.getElem?_take, if_pos (by omega), Array.getElem?_toList, grps_at hx j hj] at e
      simp only [World.cell?, hg]
      exact e
    exact ⟨key 0 (by omega), key 1 (by omega), key 2 (by omega), key 3 (by omega), key 4 (by omega)⟩
abbrev GV5 (p : Option Addr) (n c : Nat) (cnt rk rn : Int) (rs : ByteArray) : Value := .agg #[.slice p n c, .int .i64 cnt, .int .i64 rk, .int .i64 rn, .string rs]
set_option maxRecDepth 100000 in
set_option maxHeartbeats 4000000 in
theorem under1_any (p1 : Option Addr) (c1 : Nat) (a : Nat → Vl) (cnt rk rn : Int) (rs : ByteArray) (p2 : Option Addr) (c2 : Nat) (b : Nat → Vl) (n : Nat) (hn : n ≤ 12) (bi bk' : Nat) (w : World) (h1 : VM w p1 n a) (h2 : VM w p2 n b) (hi : Bx w bi (fhk bk')) (hx : Bx w bk' (.slice p2 n c2)) :
    Calls Tryz.prog 44 #[GV5 p1 n c1 cnt rk rn rs, .pointer (some ⟨bi, 0, none⟩)] w fun e w' => e = .returned (.bool (eqK a b n)) ∧ Bw w w' := by
  have HB0 : Hid (Bw w (w.alloc (.cells #[.slice p1 n c1, .int .i64 cnt, .int .i64 rk, .int .i64 rn, .string rs] 38))) := Bw.al _ _
  have hk := hasKey1_any p1 c1 a p2 c2 b n hn bk' _ (h1.next HB0.out) (h2.next HB0.out) (hx.next HB0.out)
  obtain ⟨y0, -⟩ := hi.next HB0.out
  have hnew := heap_alloc_new w (.cells #[.slice p1 n c1, .int .i64 cnt, .int .i64 rk, .int .i64 rn, .string rs] 38)
  have y1 : (w.alloc (.cells #[.slice p1 n c1, .int .i64 cnt, .int .i64 rk, .int .i64 rn, .string rs] 38)).cell? ⟨w.heap.size, 0, none⟩ = some (.slice p1 n c1) := by simp only [World.cell?, hnew]; rfl
  clear h1 h2 hi hx hnew
  go_enter Tryz.func44, Tryz.ntmps44
  go_wp2_with fail
  refine hk.mono ?_
  clear hk y0 y1
  rintro e w1 ⟨rfl, hb1⟩
  have HB1 : Hid (Bw w w1) := HB0.out.tr hb1
  clear hb1 HB0
  go_wp2_with fail
  go_ret
  exact ⟨rfl, HB1.out⟩
set_option maxRecDepth 100000 in
set_option maxHeartbeats 4000000 in
theorem indexG_any (T : Tb) (n : Nat) (c : Nat → Int) (k : Nat) (W : World) (pg : Option Addr) (gl cg : Nat) (gs : List Gp) (HGL : Hid (gs.length = gl)) (hgl : gl ≤ 60) (p2 : Option Addr) (c2 : Nat) (b : Nat → Vl) (hn : n ≤ 12) (bi bk' : Nat) (w : World) (hG : GS T n c k W (.slice pg gl cg) gs w) (h2 : VM w p2 n b) (hi : Bx w bi (fhk bk')) (hx : Bx w bk' (.slice p2 n c2)) :
    Calls Tryz.prog 43 #[.slice pg gl cg, .func (.func 44) #[] #[.pointer (some ⟨bi, 0, none⟩)]] w fun e w' => (∃ x : Int, e = .returned (.int .i64 x) ∧ ((x = -1 ∧ ∀ y ∈ gs, eqK (gkey T c y) b n = false) ∨ (∃ j y, gs[j]? = some y ∧ x = (j : Nat) ∧ eqK (gkey T c y) b n = true))) ∧ Bw w w' := by
  have HG : Hid (GS T n c k W (.slice pg gl cg) gs w) := hG
  have HF : Hid (∀ y cnt rk rn rs wx, y ∈ gs → Bw w wx → Calls Tryz.prog 44 #[GV5 y.p n y.cap cnt rk rn rs, .pointer (some ⟨bi, 0, none⟩)] wx fun e w' => e = .returned (.bool (eqK (gkey T c y) b n)) ∧ Bw wx w') := fun y cnt rk rn rs wx hy hb => under1_any y.p y.cap (gkey T c y) cnt rk rn rs p2 c2 b n hn bi bk' wx ((hG.keys y hy).1.next hb) (h2.next hb) (hi.next hb) (hx.next hb)
  clear hG h2 hi hx
  go_enter Tryz.func43, Tryz.ntmps43
  go_wp2_with fail
  go_loopw [8] (fun i wr => ∃ j : Nat, i = .int .i64 j ∧ j ≤ gl ∧ Hid (Bw w wr) ∧ Hid (∀ i y, i < j → gs[i]? = some y → eqK (gkey T c y) b n = false)) (fun i _ => gl - (intOf i).toNat)
  case atStart => exact ⟨0, rfl, Nat.zero_le _, Below.refl _ _, fun i y hi => absurd hi (Nat.not_lt_zero _)⟩
  case round =>
    obtain ⟨j, rfl, hj, HB, HD⟩ := hrel
    by_cases hlt : j < gl
    · have hlt' : (j : Int) < (gl : Int) := by omega
      have hj0 : (0 : Int) ≤ (j : Int) := by omega
      obtain ⟨y, hy⟩ : ∃ y, gs[j]? = some y := ⟨_, List.getElem?_eq_getElem (by rw [HGL.out]; exact hlt)⟩
      obtain ⟨g, cc, e, hg, h3⟩ := (HG.out.next HB.out).lies (by rw [HGL.out]; omega)
      injection e with e el e'
      clear el
      subst e e'
      obtain ⟨y0, y1, y2, y3, y4⟩ := h3 j y hy
      have HW := fun cnt rk rn rs => HF.out y cnt rk rn rs wr (List.mem_of_getElem? hy) HB.out
      have HY : Hid (gs[j]? = some y) := hy
      obtain ⟨E, hE⟩ : ∃ E, eqK (gkey T c y) b n = E := ⟨_, rfl⟩
      have HE : Hid (eqK (gkey T c y) b n = E) := hE
      simp only [hE] at HW
      generalize gsum T k y.pt = R at *
      obtain ⟨rk, rn, rs⟩ := R
      dsimp only at y2 y3 y4
      generalize y.pt.length = ln at *
      have HW2 := HW (ln : Nat) rk rn rs
      clear HW
      generalize y.p = py at *
      generalize y.cap = cy at *
      clear hE hy h3 hg
      cases E with
      | true =>
        go_wp2_with fail
        refine HW2.mono ?_
        rintro e w1 ⟨rfl, hb1⟩
        have HB1 : Hid (Bw w w1) := HB.out.tr hb1
        clear hb1 HW2 y0 y1 y2 y3 y4 HB
        go_wp2_with fail
        go_ret
        exact ⟨⟨j, rfl, .inr ⟨j, y, HY.out, rfl, HE.out⟩⟩, HB1.out⟩
      | false =>
        go_wp2_with fail
        refine HW2.mono ?_
        rintro e w1 ⟨rfl, hb1⟩
        have HB1 : Hid (Bw w w1) := HB.out.tr hb1
        clear hb1 HW2 y0 y1 y2 y3 y4 HB
        go_wp2_with fail
        exact ⟨⟨j + 1, by simp, hlt, HB1, fun i x hi hx => by
          by_cases e : i = j
          · subst e
            have : x = y := Option.some.inj (hx.symm.trans HY.out)
            rw [this]; exact HE.out
          · exact HD.out i x (by omega) hx⟩, by simp [intOf]; omega⟩
    · have hj2 : ¬ (j : Int) < (gl : Int) := by omega
      go_wp2_with fail
      go_ret
      exact ⟨⟨-1, rfl, .inl ⟨rfl, fun y hy => by
        obtain ⟨i, hi, e⟩ := List.getElem_of_mem hy
        exact HD.out i y (by have := HGL.out; omega) (by rw [List.getElem?_eq_getElem hi, e])⟩⟩, HB.out⟩
end Go.Proofs.YtbiikodnfaeceaaGreatDoor.so

/- Package pick: sumUnder. Conditions: as each theorem says. -/
namespace Go.Proofs.YtbiikodnfaeceaaGreatDoor.so
open Go.RowKit Go.Sort Go.Shelf
/-- What sumUnder answers. -/
def SUO (T : Tb) (n : Nat) (c : Nat → Int) (k : Nat) (gs : List Gp) (b : Nat → Vl) (w : World) (e : Ending) (w' : World) : Prop :=
  ∃ R : Vl, e = .returned (V R.k R.n R.s) ∧ ((∃ y ∈ gs, eqK (gkey T c y) b n = true ∧ R = gsum T k y.pt) ∨ ((∀ y ∈ gs, eqK (gkey T c y) b n = false) ∧ R = ⟨1, 0, nul⟩)) ∧ Bw w w'
set_option maxRecDepth 100000 in
set_option maxHeartbeats 8000000 in
theorem sumUnder_any (T : Tb) (n : Nat) (c : Nat → Int) (k : Nat) (W : World) (pg : Option Addr) (gl cg : Nat) (gs : List Gp) (HGL : Hid (gs.length = gl)) (hgl : gl ≤ 60) (p2 : Option Addr) (c2 : Nat) (b : Nat → Vl) (hn : n ≤ 12) (w : World) (hG : GS T n c k W (.slice pg gl cg) gs w) (h2 : VM w p2 n b) :
    Calls Tryz.prog 26 #[.slice pg gl cg, .slice p2 n c2] w fun e w' => SUO T n c k gs b w e w' := by
  have hq0 := heap_alloc_new w (.cells #[.int .i64 0, .int .i64 0, .string nul] 36)
  have HQ0 : Hid ((w.alloc (.cells #[.int .i64 0, .int .i64 0, .string nul] 36)).heap[w.heap.size]? = some (.cells #[.int .i64 0, .int .i64 0, .string nul] 36 (0, 0))) := hq0
  have HB0 : Hid (Bw w (w.alloc (.cells #[.int .i64 0, .int .i64 0, .string nul] 36))) := Bw.al _ _
  have HG : Hid (GS T n c k W (.slice pg gl cg) gs w) := hG
  have HV : Hid (VM w p2 n b) := h2
  have HIX : Hid (∀ bi bk' wx, Bw w wx → Bx wx bi (fhk bk') → Bx wx bk' (.slice p2 n c2) → Calls Tryz.prog 43 #[.slice pg gl cg, .func (.func 44) #[] #[.pointer (some ⟨bi, 0, none⟩)]] wx fun e w' => (∃ x : Int, e = .returned (.int .i64 x) ∧ ((x = -1 ∧ ∀ y ∈ gs, eqK (gkey T c y) b n = false) ∨ (∃ j y, gs[j]? = some y ∧ x = (j : Nat) ∧ eqK (gkey T c y) b n = true))) ∧ Bw wx w') := fun bi bk' wx hb h1 h3 => indexG_any T n c k W pg gl cg gs HGL hgl p2 c2 b hn bi bk' wx (hG.next hb) (h2.next hb) h1 h3
  have HSN : Hid (∀ wx, Calls Tryz.prog 38 #[.slice none 0 0] wx fun e w' => e = .returned (V 1 0 nul) ∧ Bw wx w') := fun wx => esum_any none 0 0 (by omega) (fun _ => ⟨0, 0, nul⟩) wx (.inl rfl) (fun i hi => absurd hi (Nat.not_lt_zero _))
  clear hq0 hG h2
  go_enter Tryz.func26, Tryz.ntmps26
  go_upto_region 1 with fail
  generalize w.alloc (.cells #[.int .i64 0, .int .i64 0, .string nul] 36) = w0 at *
  go_wp2_with fail
  refine (hasKey_any p2 n c2 _).mono ?_
  rintro e w1 ⟨rfl, rfl⟩
  have HK1 : Hid (Bx ((w0.alloc (.cells #[.slice p2 n c2] 34)).alloc (.cells #[fhk w0.heap.size] 69)) (w0.alloc (.cells #[.slice p2 n c2] 34)).heap.size (fhk w0.heap.size)) := bx_new _ _ _
  have HK2 : Hid (Bx ((w0.alloc (.cells #[.slice p2 n c2] 34)).alloc (.cells #[fhk w0.heap.size] 69)) w0.heap.size (.slice p2 n c2)) := (bx_new _ _ _).next (Bw.al _ _)
  have HB1 : Hid (Bw w0 ((w0.alloc (.cells #[.slice p2 n c2] 34)).alloc (.cells #[fhk w0.heap.size] 69))) := (Bw.al _ _).tr (Bw.al _ _)
  have HQ1 : Hid (((w0.alloc (.cells #[.slice p2 n c2] 34)).alloc (.cells #[fhk w0.heap.size] 69)).heap[w.heap.size]? = some (.cells #[.int .i64 0, .int .i64 0, .string nul] 36 (0, 0))) := bk HQ0.out HB1.out
  have HB2 : Hid (Bw w ((w0.alloc (.cells #[.slice p2 n c2] 34)).alloc (.cells #[fhk w0.heap.size] 69))) := HB0.out.tr HB1.out
  go_upto_region 2 with fail
  have hsz : (w0.alloc (.cells #[.slice p2 n c2] 34)).heap.size = w0.heap.size + 1 := by simp
  rw [hsz] at HK1
  clear hsz HB0 HB1 HQ0
  generalize (w0.alloc (.cells #[.slice p2 n c2] 34)).alloc (.cells #[fhk w0.heap.size] 69) = w1 at *
  generalize w0.heap.size + 1 = bi at *
  generalize w0.heap.size = bk' at *
  have hix := HIX.out bi bk' w1 HB2.out HK1.out HK2.out
  clear HIX HK1 HK2
  go_upto_region 3 with fail
  refine hix.mono ?_
  clear hix
  rintro e w2 ⟨⟨x, rfl, hx⟩, hb2⟩
  have HX : Hid ((x = -1 ∧ ∀ y ∈ gs, eqK (gkey T c y) b n = false) ∨ (∃ j y, gs[j]? = some y ∧ x = (j : Nat) ∧ eqK (gkey T c y) b n = true)) := hx
  have HB3 : Hid (Bw w w2) := HB2.out.tr hb2
  have HQ3 : Hid (w2.heap[w.heap.size]? = some (.cells #[.int .i64 0, .int .i64 0, .string nul] 36 (0, 0))) := bk HQ1.out hb2
  clear hx hb2 HB2 HQ1
  rcases HX.out with ⟨rfl, hno⟩ | ⟨j, y, hy, rfl, hyes⟩
  · have HNO : Hid (∀ y ∈ gs, eqK (gkey T c y) b n = false) := hno
    clear hno HX
    go_wp2_with fail
    refine (HSN.out _).mono ?_
    rintro e w4 ⟨rfl, hb4⟩
    have HB4 : Hid (Bw w w4) := HB3.out.tr hb4
    have HQ4 : Hid (w4.heap[w.heap.size]? = some (.cells #[.int .i64 0, .int .i64 0, .string nul] 36 (0, 0))) := bk HQ3.out hb4
    clear hb4 HB3 HQ3
    obtain ⟨c0, c1, c2'⟩ := ocells3 HQ4.out
    have f0 := ofrz HQ4.out
    go_wp2_with fail
    refine ofin3 HQ4.out (Q := bodyPost _ _ _ _ _) ?_
    clear c0 c1 c2' f0
    intro w9 hq9 hk9
    obtain ⟨d0, d1, d2⟩ := ocells3 hq9
    exact bodyPost_ret (v := V 1 0 nul) (by simp [results, Tryz.results26, go_sem, d0, d1, d2]) rfl ⟨⟨1, 0, nul⟩, rfl, .inr ⟨HNO.out, rfl⟩, HB4.out.trans (hk9 _ (Nat.le_refl _))⟩
  · have HYE : Hid (eqK (gkey T c y) b n = true) := hyes
    have HYM : Hid (y ∈ gs) := List.mem_of_getElem? hy
    have hjl : j < gl := by rw [← HGL.out]; exact (List.getElem?_eq_some_iff.1 hy).1
    have hj1 : (j : Int) < (gl : Int) := by omega
    have hj0 : (0 : Int) ≤ (j : Int) := by omega
    have hjn : ¬ (j : Int) < 0 := by omega
    obtain ⟨g, cc, e, hg, h3⟩ := (HG.out.next HB3.out).lies (by rw [HGL.out]; omega)
    injection e with e el e'
    clear el
    subst e e'
    obtain ⟨-, -, y2, y3, y4⟩ := h3 j y hy
    obtain ⟨R, hR⟩ : ∃ R, gsum T k y.pt = R := ⟨_, rfl⟩
    have HR : Hid (gsum T k y.pt = R) := hR
    rw [hR] at y2 y3 y4
    obtain ⟨rk, rn, rs⟩ := R
    dsimp only at y2 y3 y4
    clear hR h3 hg hy hyes HX
    obtain ⟨c0, c1, c2'⟩ := ocells3 HQ3.out
    have f0 := ofrz HQ3.out
    go_wp2_with fail
    refine ofin3 HQ3.out (Q := bodyPost _ _ _ _ _) ?_
    clear c0 c1 c2' f0 y2 y3 y4
    intro w9 hq9 hk9
    obtain ⟨d0, d1, d2⟩ := ocells3 hq9
    exact bodyPost_ret (v := V rk rn rs) (by simp [results, Tryz.results26, go_sem, d0, d1, d2]) rfl ⟨⟨rk, rn, rs⟩, rfl, .inl ⟨y, HYM.out, HYE.out, HR.out.symm⟩, HB3.out.trans (hk9 _ (Nat.le_refl _))⟩
end Go.Proofs.YtbiikodnfaeceaaGreatDoor.so

/- The sum under two values is that of the rows that have both; lines of values that grow. Nothing is walked here. Conditions: as each theorem says. -/
namespace Go.Proofs.YtbiikodnfaeceaaGreatDoor.so
open Go.RowKit Go.Sort Go.Shelf
/-- The sum of a column in the rows that have two values. -/
def suV (T : Tb) (kb ko k : Nat) (a b : Vl) : Vl := sumV (((List.range T.q).filter fun i => vlEq (T.v i kb) a && vlEq (T.v i ko) b).map fun i => T.v i k) []
/-- Two columns. -/
def c2F (kb ko : Nat) (i : Nat) : Int := if i = 0 then (kb : Int) else (ko : Int)
def k2F (a b : Vl) (i : Nat) : Vl := if i = 0 then a else b
theorem eqK2 {x y : Nat → Vl} : eqK x y 2 = true ↔ (x 0).cmp (y 0) = 0 ∧ (x 1).cmp (y 1) = 0 := by
  rw [eqK_true]
  constructor
  · intro h; exact ⟨h 0 (by omega), h 1 (by omega)⟩
  · rintro ⟨h0, h1⟩ i hi
    have : i = 0 ∨ i = 1 := by omega
    rcases this with rfl | rfl
    · exact h0
    · exact h1
theorem alT2 {T : Tb} {kb ko i j : Nat} : alT T 2 (c2F kb ko) i j = true ↔ (T.v i kb).cmp (T.v j kb) = 0 ∧ (T.v i ko).cmp (T.v j ko) = 0 := by
  unfold alT
  rw [alk_true]
  constructor
  · intro h; exact ⟨h 0 (by omega), h 1 (by omega)⟩
  · rintro ⟨h0, h1⟩ u hu
    have : u = 0 ∨ u = 1 := by omega
    rcases this with rfl | rfl
    · exact h0
    · exact h1
theorem under_is {T : Tb} {kb ko k : Nat} {Z : List Nat} {gs : List Gp} {a b R : Vl} (hS : StN T 2 (c2F kb ko) (fun _ => false) Z) (hp : Pt (alT T 2 (c2F kb ko)) Z (gs.map Gp.pt)) (hkb : ∀ i, i < T.q → (T.v i kb).ok = true) (hko : ∀ i, i < T.q → (T.v i ko).ok = true) (ha : a.ok = true) (hb : b.ok = true)
    (h : (∃ y ∈ gs, eqK (gkey T (c2F kb ko) y) (k2F a b) 2 = true ∧ R = gsum T k y.pt) ∨ ((∀ y ∈ gs, eqK (gkey T (c2F kb ko) y) (k2F a b) 2 = false) ∧ R = ⟨1, 0, nul⟩)) : R = suV T kb ko k a b := by
  have hm : ∀ i, i ∈ Z ↔ i < T.q := fun i => by rw [hS.1.mem_iff, List.mem_range]
  obtain ⟨f1, f2⟩ := part_facts hp hS.2
  have hps := parts_is hS hp
  have hkey : ∀ y ∈ gs, (y.pt.headD 0 < T.q) ∧ y.pt = lkL T 2 (c2F kb ko) (y.pt.headD 0) T.q := fun y hy => by
    have hpm : y.pt ∈ gs.map Gp.pt := List.mem_map.2 ⟨y, hy, rfl⟩
    have h1 : y.pt.headD 0 ∈ (gs.map Gp.pt).map (fun pt => pt.headD 0) := List.mem_map.2 ⟨y.pt, hpm, rfl⟩
    rw [f2] at h1
    refine ⟨(hm _).1 (List.mem_filter.1 h1).1, ?_⟩
    rw [hps] at hpm
    obtain ⟨i, hi, e⟩ := List.mem_map.1 hpm
    have hi2 := List.mem_filter.1 hi
    have hhd := lkL_head (T := T) (n := 2) (c := c2F kb ko) (m := T.q) ((hm i).1 hi2.1) (by simpa using hi2.2)
    rw [← e, hhd]
  have hg : ∀ y, (gkey T (c2F kb ko) y 0 = T.v (y.pt.headD 0) kb) ∧ gkey T (c2F kb ko) y 1 = T.v (y.pt.headD 0) ko := fun y => ⟨by unfold gkey c2F; simp, by unfold gkey c2F; simp⟩
  rcases h with ⟨y, hy, he, rfl⟩ | ⟨hno, rfl⟩
  · obtain ⟨hq, hl⟩ := hkey y hy
    rw [eqK2, (hg y).1, (hg y).2] at he
    have ea : T.v (y.pt.headD 0) kb = a := (Vl.cmp_zero (hkb _ hq) ha).1 he.1
    have eb : T.v (y.pt.headD 0) ko = b := (Vl.cmp_zero (hko _ hq) hb).1 he.2
    unfold gsum suV
    rw [hl]
    unfold lkL
    congr 2
    refine List.filter_congr fun i hi => ?_
    have hiq := List.mem_range.1 hi
    rw [Bool.eq_iff_iff, alT2, Bool.and_eq_true, vlEq_iff, vlEq_iff, ← ea, ← eb, Vl.cmp_zero (hkb i hiq) (hkb _ hq), Vl.cmp_zero (hko i hiq) (hko _ hq)]
  · have hnil : (List.range T.q).filter (fun i => vlEq (T.v i kb) a && vlEq (T.v i ko) b) = [] := by
      rw [List.filter_eq_nil_iff]
      intro i hi e
      have hiq := List.mem_range.1 hi
      rw [Bool.and_eq_true, vlEq_iff, vlEq_iff] at e
      have hiZ : i ∈ (gs.map Gp.pt).flatten := by rw [hp.flat]; exact (hm i).2 hiq
      obtain ⟨pt, hpt, hip⟩ := List.mem_flatten.1 hiZ
      obtain ⟨y, hy, rfl⟩ := List.mem_map.1 hpt
      have h1 := ((f1 y.pt hpt).2 i).1 hip
      have h2 := alT2.1 h1.2
      have h3 := hno y hy
      have : eqK (gkey T (c2F kb ko) y) (k2F a b) 2 = true := by
        rw [eqK2, (hg y).1, (hg y).2]
        refine ⟨?_, ?_⟩
        · show (T.v (y.pt.headD 0) kb).cmp a = 0
          rw [← e.1]; exact Vl.zero_sym h2.1
        · show (T.v (y.pt.headD 0) ko).cmp b = 0
          rw [← e.2]; exact Vl.zero_sym h2.2
      rw [this] at h3
      cases h3
    unfold suV
    rw [hnil]
    rfl
/-- A line of values, and where it lies. -/
structure Ln where
  p : Option Addr
  cap : Nat
  vs : List Vl
def lns (l : List Ln) : List Value := l.map fun x => .slice x.p x.vs.length x.cap
/-- A list of lines of one's own, and all that stood stands. -/
structure LS (w : World) (v : Value) (ls : List Ln) (wx : World) : Prop where
  own : wx.ownsRow w.heap.size 34 1 v ls.length (lns ls)
  below : Bw w wx
  each : ∀ x ∈ ls, VM wx x.p x.vs.length (nthV x.vs) ∧ KA v x.vs.length x.p wx
theorem LS.nil (w : World) : LS w (.slice none 0 0) [] w := ⟨⟨rfl, .inl ⟨rfl, rfl⟩⟩, Below.refl _ _, fun _ hg => absurd hg List.not_mem_nil⟩
theorem LS.next {w : World} {v : Value} {ls : List Ln} {wx wy : World} (h : LS w v ls wx) (hb : Bw wx wy) : LS w v ls wy :=
  ⟨own_next h.own hb, h.below.tr hb, fun g hg => ⟨(h.each g hg).1.next hb, (h.each g hg).2.next hb⟩⟩
theorem infoL : (Tryz.prog.info? 34).map (fun i => (i.zero, i.size, i.bytes)) = some (some (.slice none 0 0), 1, 24) := by kernel_rfl
theorem LS.one {w : World} {v : Value} {ls : List Ln} {wx : World} (h : LS w v ls wx) (hl : ls.length < 1000000) (y : Ln) (hy : VM wx y.p y.vs.length (nthV y.vs)) (hk : KA v y.vs.length y.p wx) :
    ∃ g cc w', (Builtin.append_ #[22, 22] 22 #[v, .slice (some ⟨wx.heap.size, 0, none⟩) 1 1]).run Tryz.prog (wx.alloc (.cells #[.slice y.p y.vs.length y.cap] 34)) = .ok (.slice (some ⟨g, 0, none⟩) (ls.length + 1) cc) w' ∧ LS w (.slice (some ⟨g, 0, none⟩) (ls.length + 1) cc) (ls ++ [y]) w' := by
  obtain ⟨i0, hi, hz0, hz1, hz2⟩ := info_parts infoL
  have hmax : maxLen = 9223372036854775807 := rfl
  have h1 := h.next (Bw.al wx (.cells #[.slice y.p y.vs.length y.cap] 34))
  obtain ⟨g, cc, w', r1, r2, r3, r4, r5⟩ := run_append_lies (P := Tryz.prog) (w := wx.alloc (.cells #[.slice y.p y.vs.length y.cap] 34)) 22 22 w.heap.size 34 i0 (.slice none 0 0) 1 24 Tryz.underlying22 hi hz0 hz1 hz2 rfl (by decide) v ls.length (lns ls) h1.own ⟨wx.heap.size, 0, none⟩ 1 1 [.slice y.p y.vs.length y.cap] rfl (World.news_of_block (heap_alloc_new wx _)) (by simp [Value.oneCell']) (by decide) (by omega) (by omega) h1.below.size _ rfl
  have hsz : wx.heap.size < w'.heap.size := by have := r3.size; simp at this; omega
  have key : ∀ n p, KA v n p wx → ∀ r, VM wx p n r → VM w' p n r ∧ KA (.slice (some ⟨g, 0, none⟩) (ls.length + 1) cc) n p w' := fun n p hp r hr => by
    rcases hp with h0 | ⟨b, rfl, hb, hne⟩
    · exact ⟨.inl h0, .inl h0⟩
    · refine ⟨hr.blk (.inr ⟨b, rfl, by omega, ?_⟩), .inr ⟨b, rfl, by omega, ?_⟩⟩
      · rw [r3.block b (by simp; omega) (fun e => hne e.symm)]
        exact Below.heap_alloc _ _ _ hb
      · intro e
        have eg : g = b := by simpa [Value.ownBlock] using e
        rcases r4 with r4 | r4
        · exact hne (by rw [r4, eg])
        · simp at r4; omega
  refine ⟨g, cc, w', r1, ⟨?_, h1.below.grown r3 h1.below.size (fun q hq => (h1.own.lt q hq).1), fun x hx => ?_⟩⟩
  · have e : lns (ls ++ [y]) = lns ls ++ [.slice y.p y.vs.length y.cap] := by simp [lns]
    rw [e, List.length_append]
    exact r2
  · rcases List.mem_append.1 hx with hx | hx
    · exact key _ _ (h.each x hx).2 _ (h.each x hx).1
    · rw [List.mem_singleton] at hx
      subst hx
      exact key _ _ hk _ hy
theorem LS.form {w : World} {v : Value} {ls : List Ln} {wx : World} (h : LS w v ls wx) : ∃ p cc, v = .slice p ls.length cc := by
  rcases h.own.2 with ⟨rfl, h0⟩ | ⟨g, cap, cur, rfl, -⟩
  · exact ⟨none, 0, by rw [h0]⟩
  · exact ⟨_, _, rfl⟩
theorem LS.lies {w : World} {v : Value} {ls : List Ln} {wx : World} (h : LS w v ls wx) (hl : 0 < ls.length) : ∃ g cc, v = .slice (some ⟨g, 0, none⟩) ls.length cc ∧ g < wx.heap.size ∧ ∀ i x, ls[i]? = some x → wx.cell? ⟨g, i, none⟩ = some (.slice x.p x.vs.length x.cap) := by
  rcases h.own.2 with ⟨rfl, h0⟩ | ⟨g, cap, cur, rfl, hb, hg, hc, hm, hz, ht⟩
  · omega
  · refine ⟨g, cap, rfl, (Array.getElem?_eq_some_iff.1 hg).1, fun i x hx => ?_⟩
    have hi : i < ls.length := (List.getElem?_eq_some_iff.1 hx).1
    have e : (cur.toList.take (ls.length * 1))[i]? = (lns ls)[i]? := by rw [ht]
    rw [List.getElem?_take, if_pos (by omega), Array.getElem?_toList] at e
    unfold lns at e
    rw [List.getElem?_map, hx] at e
    simp only [World.cell?, hg]
    exact e
end Go.Proofs.YtbiikodnfaeceaaGreatDoor.so
namespace Go.Proofs.YtbiikodnfaeceaaGreatDoor.so
open Go.RowKit Go.Sort Go.Shelf
/-- What eachOnce answers. -/
def ECO (T : Tb) (k : Nat) (w : World) (e : Ending) (w' : World) : Prop := ∃ hs pv cv, e = .returned (.slice pv hs.length cv) ∧ Hds T k hs ∧ VM w' pv hs.length (nthV hs) ∧ Bw w w'
def cF (xb xo : Int) (i : Nat) : Int := if i = 0 then xb else xo
theorem cF_nat (kb ko : Nat) : cF (kb : Int) (ko : Int) = c2F kb ko := rfl
/-- What Cross answers where nothing is wrong. -/
def CRY (T : Tb) (kb ko k : Nat) (vx vy vz : Value) (w' : World) : Prop := ∃ hx hy px cx py cy W ls, vx = .slice px hx.length cx ∧ vy = .slice py hy.length cy ∧ Hds T kb hx ∧ Hds T ko hy ∧ VM w' px hx.length (nthV hx) ∧ VM w' py hy.length (nthV hy) ∧ LS W vz ls w' ∧ ls.map Ln.vs = hx.map fun a => hy.map fun b => suV T kb ko k a b
/-- What Cross answers. -/
def CRO (T : Tb) (xb xo x : Int) (w : World) (e : Ending) (w' : World) : Prop := ∃ er vx vy vz, e = .returned (.tuple #[vx, vy, vz, errV er]) ∧ GF T 2 (cF xb xo) x er ∧ (er ≠ 0 → vx = .slice none 0 0 ∧ vy = .slice none 0 0 ∧ vz = .slice none 0 0) ∧ (er = 0 → CRY T xb.toNat xo.toNat x.toNat vx vy vz w') ∧ Bw w w'
theorem Hds.le {T : Tb} {k : Nat} {hs : List Vl} (h : Hds T k hs) : hs.length ≤ T.q := by
  have hnd : ∀ {l : List Vl}, l.Pairwise (fun a b => a.cmp b < 0) → ∀ {m : List Vl}, (∀ x ∈ l, x ∈ m) → l.length ≤ m.length := by
    intro l
    induction l with
    | nil => intro _ m _; simp
    | cons a l ih =>
      intro hp m hm
      have hc := List.pairwise_cons.1 hp
      obtain ⟨s, t, rfl⟩ := List.append_of_mem (hm a (by simp))
      have := ih hc.2 (m := s ++ t) (fun x hx => by
        have h1 := hm x (List.mem_cons_of_mem _ hx)
        rcases List.mem_append.1 h1 with h2 | h2
        · exact List.mem_append_left _ h2
        · rcases List.mem_cons.1 h2 with rfl | h2
          · have := hc.1 x hx; have := Vl.cmp_self x; omega
          · exact List.mem_append_right _ h2)
      simp at this ⊢
      omega
  have := hnd h.1 (m := (List.range T.q).map fun i => T.v i k) (fun x hx => by
    obtain ⟨i, hi, e⟩ := (h.2 x).1 hx
    exact List.mem_map.2 ⟨i, List.mem_range.2 hi, e⟩)
  simpa using this
theorem vm_pair {w : World} {g : Nat} {a b : Vl} (h : w.heap[g]? = some (.cells #[.int .i64 a.k, .int .i64 a.n, .string a.s, .int .i64 b.k, .int .i64 b.n, .string b.s] 36 (0, 0))) : VM w (some ⟨g, 0, none⟩) 2 (k2F a b) := by
  refine .inr ⟨g, 0, rfl, lt_of_blk h, fun i hi => ?_⟩
  have : i = 0 ∨ i = 1 := by omega
  rcases this with rfl | rfl
  · exact ⟨by simp only [World.cell?, h]; rfl, by simp only [World.cell?, h]; rfl, by simp only [World.cell?, h]; rfl⟩
  · exact ⟨by simp only [World.cell?, h]; rfl, by simp only [World.cell?, h]; rfl, by simp only [World.cell?, h]; rfl⟩
theorem nthV_at {l : List Vl} {i : Nat} {x : Vl} (h : l[i]? = some x) : nthV l i = x := by unfold nthV; rw [List.getD_eq_getElem?_getD, h]; rfl
set_option maxRecDepth 1000000 in
set_option maxHeartbeats 16000000 in
theorem cross_any (T : Tb) (p : Option Addr) (cp : Nat) (xb xo x : Int) (w : World) (hT : TM w p T) (hq : T.q ≤ 9223372036854775807) (hL : ∀ i, i < T.q → T.L i ≤ 9223372036854775807) (h64 : ∀ i, i < T.q → ∀ j, j < T.L i → B64 (T.v i j).n)
    (hEO : Snd T → ∀ (k : Nat) wx, colOk T (k : Int) → TM wx p T → Calls Tryz.prog 25 #[.slice p T.q cp, .int .i64 (k : Int)] wx fun e w' => ECO T k wx e w') :
    Calls Tryz.prog 12 #[.slice p T.q cp, .int .i64 xb, .int .i64 xo, .int .i64 x] w fun e w' => CRO T xb xo x w e w' := by
  have HT : Hid (TM w p T) := hT
  have hnew := heap_alloc_new w (.cells #[.int .i64 xb, .int .i64 xo] 3)
  have hgr := group_any T p cp (some ⟨w.heap.size, 0, none⟩) 2 2 (cF xb xo) x (w.alloc (.cells #[.int .i64 xb, .int .i64 xo] 3)) (hT.next (Bw.al _ _)) (.inr ⟨w.heap.size, 0, rfl, by simp, fun i hi => by
    have : i = 0 ∨ i = 1 := by omega
    rcases this with rfl | rfl
    · simp only [World.cell?, hnew]; rfl
    · simp only [World.cell?, hnew]; rfl⟩) hq (by omega) hL h64
  have HB0 : Hid (Bw w (w.alloc (.cells #[.int .i64 xb, .int .i64 xo] 3))) := Bw.al _ _
  have HEO : Hid (Snd T → ∀ (k : Nat) wx, colOk T (k : Int) → TM wx p T → Calls Tryz.prog 25 #[.slice p T.q cp, .int .i64 (k : Int)] wx fun e w' => ECO T k wx e w') := hEO
  obtain ⟨q, eq⟩ : ∃ q, T.q = q := ⟨_, rfl⟩
  have HEQ : Hid (T.q = q) := eq
  rw [eq] at hgr HEO ⊢
  clear hT hq hL h64 hEO hnew eq
  go_enter Tryz.func12, Tryz.ntmps12
  go_upto_region 2 with fail
  refine hgr.mono ?_
  clear hgr
  rintro e w1 ⟨⟨er, vg, rfl, hgf, -, hyes⟩, hb1⟩
  have HGF : Hid (GF T 2 (cF xb xo) x er) := hgf
  have HY : Hid (er = 0 → ∃ W Z gs, Bw (w.alloc (.cells #[.int .i64 xb, .int .i64 xo] 3)) W ∧ StN T 2 (cF xb xo) (fun _ => false) Z ∧ Pt (alT T 2 (cF xb xo)) Z (gs.map Gp.pt) ∧ GS T 2 (cF xb xo) x.toNat W vg gs w1) := hyes
  have HB1 : Hid (Bw w w1) := HB0.out.tr hb1
  clear hgf hyes hb1 HB0
  by_cases he : er = 0
  · subst he
    rw [errV_0]
    obtain ⟨hS, -, hco, hcx⟩ := HGF.out.zero
    have hcb : colOk T xb := hco 0 (by omega)
    have hco' : colOk T xo := hco 1 (by omega)
    obtain ⟨kb, rfl⟩ : ∃ k : Nat, xb = (k : Int) := ⟨xb.toNat, by have := hcb.1; omega⟩
    obtain ⟨ko, rfl⟩ : ∃ k : Nat, xo = (k : Int) := ⟨xo.toNat, by have := hco'.1; omega⟩
    obtain ⟨k, rfl⟩ : ∃ k : Nat, x = (k : Int) := ⟨x.toNat, by have := hcx.1; omega⟩
    obtain ⟨W, Z, gs, -, hst, hpt, hgs⟩ := HY.out rfl
    rw [Int.toNat_natCast] at hgs
    rw [cF_nat] at hst hpt hgs
    obtain ⟨pg, cg, eg⟩ := hgs.form
    have hok : ∀ {kk : Nat}, colOk T (kk : Int) → ∀ i, i < T.q → (T.v i kk).ok = true := fun {kk} hk i hi => hS.ok i hi kk (by have := (hS.col hk hi).2.2.1; simpa using this)
    have HUI : Hid (∀ a b R, a.ok = true → b.ok = true → ((∃ y ∈ gs, eqK (gkey T (c2F kb ko) y) (k2F a b) 2 = true ∧ R = gsum T k y.pt) ∨ ((∀ y ∈ gs, eqK (gkey T (c2F kb ko) y) (k2F a b) 2 = false) ∧ R = ⟨1, 0, nul⟩)) → R = suV T kb ko k a b) := fun a b R ha hb h => under_is hst hpt (hok hcb) (hok hco') ha hb h
    have HOK : Hid ((∀ hs, Hds T kb hs → ∀ v ∈ hs, v.ok = true) ∧ ∀ hs, Hds T ko hs → ∀ v ∈ hs, v.ok = true) := ⟨fun hs h v hv => by obtain ⟨i, hi, e⟩ := (h.2 v).1 hv; rw [← e]; exact hok hcb i hi, fun hs h v hv => by obtain ⟨i, hi, e⟩ := (h.2 v).1 hv; rw [← e]; exact hok hco' i hi⟩
    have hgl60 : gs.length ≤ 60 := by
      have h1 := hpt.flat
      have h2 : ∀ (l : List (List Nat)), (∀ x ∈ l, 1 ≤ x.length) → l.length ≤ l.flatten.length := by
        intro l
        induction l with
        | nil => intro _; simp
        | cons a l ih => intro h; have := ih (fun x hx => h x (by simp [hx])); have := h a (by simp); rw [List.flatten_cons, List.length_append, List.length_cons]; omega
      have h3 := h2 _ hpt.ne
      rw [h1, List.length_map, hst.1.length_eq, List.length_range] at h3
      have := hS.few
      omega
    have e1 := HEO.out hS kb w1 hcb (HT.out.next HB1.out)
    have HE2 : Hid (∀ wx, Bw w wx → Calls Tryz.prog 25 #[.slice p q cp, .int .i64 (ko : Int)] wx fun e w' => ECO T ko wx e w') := fun wx hb => HEO.out hS ko wx hco' (HT.out.next hb)
    have HGS : Hid (GS T 2 (c2F kb ko) k W vg gs w1) := hgs
    have HQ60 : Hid (T.q ≤ 60) := hS.few
    subst eg
    obtain ⟨gl, hgl⟩ : ∃ gl, gs.length = gl := ⟨_, rfl⟩
    have HGL : Hid (gs.length = gl) := hgl
    rw [hgl] at HGS hgl60 ⊢
    clear hS hco hcx hcb hco' hst hpt hgs hok hgl HY HEO
    go_upto_region 5 with fail
    refine e1.mono ?_
    clear e1
    rintro e w2 ⟨hx, px, cx, rfl, hhx, hvx, hb2⟩
    have HHX : Hid (Hds T kb hx) := hhx
    have HVX : Hid (VM w2 px hx.length (nthV hx)) := hvx
    have HB2 : Hid (Bw w w2) := HB1.out.tr hb2
    have HG2 : Hid (GS T 2 (c2F kb ko) k W (.slice pg gl cg) gs w2) := HGS.out.next hb2
    have e2 := HE2.out w2 HB2.out
    clear hhx hvx hb2 HB1 HGS HE2
    go_upto_region 5 with fail
    refine e2.mono ?_
    clear e2
    rintro e w3 ⟨hy, py, cy, rfl, hhy, hvy, hb3⟩
    have HHY : Hid (Hds T ko hy) := hhy
    have HVY : Hid (VM w3 py hy.length (nthV hy)) := hvy
    have HVX3 : Hid (VM w3 px hx.length (nthV hx)) := HVX.out.next hb3
    have HB3 : Hid (Bw w w3) := HB2.out.tr hb3
    have HG3 : Hid (GS T 2 (c2F kb ko) k W (.slice pg gl cg) gs w3) := HG2.out.next hb3
    have hxl := hhy.le
    have hxl' := HHX.out.le
    have hq60 := HQ60.out
    clear hhy hvy hb3 HB2 HG2 HVX
    obtain ⟨nx, hnx⟩ : ∃ nx, hx.length = nx := ⟨_, rfl⟩
    obtain ⟨ny, hny⟩ : ∃ ny, hy.length = ny := ⟨_, rfl⟩
    have HNX : Hid (hx.length = nx) := hnx
    have HNY : Hid (hy.length = ny) := hny
    rw [hnx] at HVX3 hxl' ⊢
    rw [hny] at HVY hxl ⊢
    have hnx60 : nx ≤ 60 := by omega
    have hny60 : ny ≤ 60 := by omega
    clear hnx hny hxl hxl' hq60
    go_wp2_with fail
    go_loopw [16, 42] (fun s16 s42 wr => ∃ (i : Nat) (ls : List Ln), s42 = .int .i64 i ∧ i ≤ nx ∧ Hid (LS w3 s16 ls wr) ∧ Hid (ls.map Ln.vs = (hx.take i).map fun a => hy.map fun b => suV T kb ko k a b) ∧ Hid (ls.length = i)) (fun _ s42 _ => nx - (intOf s42).toNat)
    case atStart => exact ⟨0, [], rfl, Nat.zero_le _, LS.nil _, rfl, rfl⟩
    case round =>
      obtain ⟨i, ls, rfl, hi, HLS, HLM, HLL⟩ := hrel
      by_cases hlt : i < nx
      · have hlt' : (i : Int) < (nx : Int) := by omega
        have hi0 : (0 : Int) ≤ (i : Int) := by omega
        obtain ⟨a, ha⟩ : ∃ a, hx[i]? = some a := ⟨_, List.getElem?_eq_getElem (by rw [HNX.out]; exact hlt)⟩
        have HAO : Hid (a.ok = true) := HOK.out.1 hx HHX.out a (List.mem_of_getElem? ha)
        have HTA : Hid (hx.take (i + 1) = hx.take i ++ [a]) := by
          show _ = _
          rw [List.take_succ_eq_append_getElem (by rw [HNX.out]; exact hlt), (List.getElem?_eq_some_iff.1 ha).2]
        rcases HVX3.out.next HLS.out.below with h | ⟨g1, o1, rfl, hg1, h3⟩
        · omega
        obtain ⟨y0, y1, y2⟩ := h3 i hlt
        rw [nthV_at ha] at y0 y1 y2
        clear h3 hg1 ha
        obtain ⟨F, hF⟩ : ∃ F : Vl → Vl, (fun b => suV T kb ko k a b) = F := ⟨_, rfl⟩
        have HF : Hid ((fun b => suV T kb ko k a b) = F) := hF
        have HUA : Hid (∀ b R, b.ok = true → ((∃ y ∈ gs, eqK (gkey T (c2F kb ko) y) (k2F a b) 2 = true ∧ R = gsum T k y.pt) ∨ ((∀ y ∈ gs, eqK (gkey T (c2F kb ko) y) (k2F a b) 2 = false) ∧ R = ⟨1, 0, nul⟩)) → R = F b) := fun b R hb h => by rw [← hF]; exact HUI.out a b R HAO.out hb h
        have HK2 : Hid (∀ b, k2F a b = k2F a b) := fun _ => rfl
        clear hF
        obtain ⟨ak, an, az⟩ := a
        dsimp only at y0 y1 y2
        have HBA : Hid ((wr.alloc (.cells #[.int .i64 ak, .int .i64 an, .string az] 36)).heap[wr.heap.size]? = some (.cells #[.int .i64 ak, .int .i64 an, .string az] 36 (0, 0))) := heap_alloc_new _ _
        have HBW : Hid (Bw wr (wr.alloc (.cells #[.int .i64 ak, .int .i64 an, .string az] 36))) := Bw.al _ _
        go_upto_region 9 with fail
        clear y0 y1 y2
        obtain ⟨ba, hba⟩ : ∃ ba, wr.heap.size = ba := ⟨_, rfl⟩
        have HBS : Hid (wr.heap.size = ba) := hba
        rw [hba] at HBA ⊢
        clear hba
        have HBX : Hid (Bw w3 (wr.alloc (.cells #[.int .i64 ak, .int .i64 an, .string az] 36))) := HLS.out.below.tr HBW.out
        have HAS : Hid ((wr.alloc (.cells #[.int .i64 ak, .int .i64 an, .string az] 36)).heap.size = ba + 1) := by show _ = _; rw [World.size_alloc, HBS.out]
        generalize wr.alloc (.cells #[.int .i64 ak, .int .i64 an, .string az] 36) = wa at *
        generalize wr = wo at *
        obtain ⟨ps, cs, e16⟩ := HLS.out.form
        rw [HLL.out] at e16
        subst e16
        go_wp2_with fail
        go_loopw [19, 48] (fun s19 s48 wr => ∃ j : Nat, s48 = .int .i64 j ∧ j ≤ ny ∧ Hid (VV wa s19 ((hy.take j).map F) wr)) (fun _ s48 _ => ny - (intOf s48).toNat)
        case atStart => exact ⟨0, rfl, Nat.zero_le _, VV.nil _⟩
        case round =>
          obtain ⟨j, rfl, hj, HVV⟩ := hrel
          by_cases hlj : j < ny
          · have hlj' : (j : Int) < (ny : Int) := by omega
            have hj0 : (0 : Int) ≤ (j : Int) := by omega
            obtain ⟨b, hb⟩ : ∃ b, hy[j]? = some b := ⟨_, List.getElem?_eq_getElem (by rw [HNY.out]; exact hlj)⟩
            have HBO : Hid (b.ok = true) := HOK.out.2 hy HHY.out b (List.mem_of_getElem? hb)
            have HTB : Hid ((hy.take (j + 1)).map F = (hy.take j).map F ++ [F b]) := by
              show _ = _
              rw [List.take_succ_eq_append_getElem (by rw [HNY.out]; exact hlj), (List.getElem?_eq_some_iff.1 hb).2, List.map_append]
              rfl
            have hlen : ((hy.take j).map F).length = j := by rw [List.length_map, List.length_take, HNY.out]; omega
            rcases HVY.out.next (HBX.out.tr HVV.out.below) with h | ⟨g2, o2, rfl, hg2, h3⟩
            · omega
            obtain ⟨y0, y1, y2⟩ := h3 j hlj
            rw [nthV_at hb] at y0 y1 y2
            clear h3 hg2 hb
            obtain ⟨bk', bn, bz⟩ := b
            dsimp only at y0 y1 y2
            have HBB : Hid ((wr.alloc (.cells #[.int .i64 bk', .int .i64 bn, .string bz] 36)).heap[wr.heap.size]? = some (.cells #[.int .i64 bk', .int .i64 bn, .string bz] 36 (0, 0))) := heap_alloc_new _ _
            have HVB : Hid (VV wa u19 ((hy.take j).map F) (wr.alloc (.cells #[.int .i64 bk', .int .i64 bn, .string bz] 36))) := HVV.out.next (Bw.al _ _)
            go_upto_region 13 with fail
            clear y0 y1 y2 HVV
            obtain ⟨bb, hbb⟩ : ∃ bb, wr.heap.size = bb := ⟨_, rfl⟩
            rw [hbb] at HBB ⊢
            clear hbb
            generalize wr.alloc (.cells #[.int .i64 bk', .int .i64 bn, .string bz] 36) = wb at *
            have HBA2 : Hid (wb.heap[ba]? = some (.cells #[.int .i64 ak, .int .i64 an, .string az] 36 (0, 0))) := bk HBA.out HVB.out.below
            obtain ⟨pv, cv, e19, -⟩ := HVB.out.vm
            rw [hlen] at e19
            subst e19
            obtain ⟨⟨a0, a1, a2⟩, -⟩ := cells3 HBA2.out
            obtain ⟨⟨b0, b1, b2⟩, -⟩ := cells3 HBB.out
            have hw6 := heap_alloc_new wb (.cells #[.int .i64 ak, .int .i64 an, .string az, .int .i64 bk', .int .i64 bn, .string bz] 36)
            have HBC : Hid (Bw wb (wb.alloc (.cells #[.int .i64 ak, .int .i64 an, .string az, .int .i64 bk', .int .i64 bn, .string bz] 36))) := Bw.al _ _
            have HSU := sumUnder_any T 2 (c2F kb ko) k W pg gl cg gs HGL hgl60 (some ⟨wb.heap.size, 0, none⟩) 2 (k2F ⟨ak, an, az⟩ ⟨bk', bn, bz⟩) (by omega) _ (HG3.out.next ((HBX.out.tr HVB.out.below).tr HBC.out)) (vm_pair (a := ⟨ak, an, az⟩) (b := ⟨bk', bn, bz⟩) hw6)
            have HSU2 : Hid (Calls Tryz.prog 26 #[.slice pg gl cg, .slice (some ⟨wb.heap.size, 0, none⟩) 2 2] (wb.alloc (.cells #[.int .i64 ak, .int .i64 an, .string az, .int .i64 bk', .int .i64 bn, .string bz] 36)) fun e w' => SUO T 2 (c2F kb ko) k gs (k2F ⟨ak, an, az⟩ ⟨bk', bn, bz⟩) (wb.alloc (.cells #[.int .i64 ak, .int .i64 an, .string az, .int .i64 bk', .int .i64 bn, .string bz] 36)) e w') := HSU
            clear hw6 HSU
            go_wp2_with fail
            refine HSU2.out.mono ?_
            clear HSU2
            rintro e w5 ⟨R, rfl, hR, hb5⟩
            have hRF := HUA.out _ R HBO.out hR
            have HV5 : Hid (VV wa (.slice pv j cv) ((hy.take j).map F) w5) := HVB.out.next (HBC.out.tr hb5)
            clear hR hb5 HBC HVB a0 a1 a2 b0 b1 b2 HBA2 HBB
            obtain ⟨g6, cc6, w6, hr, hV6⟩ := HV5.out.one (by rw [hlen]; omega) R
            rw [hlen] at hr hV6
            have HV6 : Hid (VV wa (.slice (some ⟨g6, 0, none⟩) (j + 1) cc6) ((hy.take (j + 1)).map F) w6) := by show VV _ _ _ _; rw [HTB.out, ← hRF]; exact hV6
            clear hV6 hRF HV5 hlen
            obtain ⟨rk, rn, rs⟩ := R
            dsimp only at hr
            have HRR : Hid ((Builtin.append_ #[34, 34] 34 #[.slice pv j cv, .slice (some ⟨w5.heap.size, 0, none⟩) 1 1]).run Tryz.prog (w5.alloc (.cells #[.int .i64 rk, .int .i64 rn, .string rs] 36)) = .ok (.slice (some ⟨g6, 0, none⟩) (j + 1) cc6) w6) := hr
            clear hr
            go_wp2_with (first | (at_builtin; refine wpList_append_eq rfl _ _ 34 rfl _ _ _ _ rfl rfl HRR.out ?_))
            exact ⟨⟨j + 1, by simp, hlj, HV6⟩, by simp [intOf]; omega⟩
          · have hlj' : ¬ (j : Int) < (ny : Int) := by omega
            have hjn : j = ny := by omega
            subst hjn
            have HV7 : Hid (VV wa u19 (hy.map F) wr) := by have := HVV.out; rwa [List.take_of_length_le (by rw [HNY.out]; omega)] at this
            have hlen : (hy.map F).length = j := by rw [List.length_map, HNY.out]
            obtain ⟨pv, cv, e19, hvm, hat⟩ := HV7.out.vm2
            rw [hlen] at e19
            have hl7 := HLS.out.next (HBW.out.tr HV7.out.below)
            obtain ⟨gg, cc, w8, hr, hL8⟩ := hl7.one (by rw [HLL.out]; omega) ⟨pv, cv, hy.map F⟩ hvm (by
              rcases hat with h0 | ⟨g9, e9, h1, h2⟩
              · exact .inl h0
              · refine .inr ⟨g9, e9, h2, fun eo => ?_⟩
                have h5 := (HLS.out.own.lt g9 eo).2
                have h6 := HAS.out
                have h7 := HBS.out
                omega)
            rw [HLL.out] at hr hL8
            dsimp only at hr
            rw [hlen] at hr
            have HL8 : Hid (LS w3 (.slice (some ⟨gg, 0, none⟩) (i + 1) cc) (ls ++ [⟨pv, cv, hy.map F⟩]) w8) := hL8
            have HM8 : Hid ((ls ++ [(⟨pv, cv, hy.map F⟩ : Ln)]).map Ln.vs = (hx.take (i + 1)).map fun a => hy.map fun b => suV T kb ko k a b) := by
              show _ = _
              rw [HTA.out, List.map_append, List.map_append, HLM.out, List.map_cons, List.map_nil, List.map_cons, List.map_nil, HF.out]
            have HN8 : Hid ((ls ++ [(⟨pv, cv, hy.map F⟩ : Ln)]).length = i + 1) := by show _ = _; rw [List.length_append, HLL.out]; rfl
            subst e19
            have HRR : Hid ((Builtin.append_ #[22, 22] 22 #[.slice ps i cs, .slice (some ⟨wr.heap.size, 0, none⟩) 1 1]).run Tryz.prog (wr.alloc (.cells #[.slice pv j cv] 34)) = .ok (.slice (some ⟨gg, 0, none⟩) (i + 1) cc) w8) := hr
            clear hr hL8 hl7 hvm hat hlen HVV HV7
            go_wp2_with (first | (at_builtin; refine wpList_append_eq rfl _ _ 22 rfl _ _ _ _ rfl rfl HRR.out ?_))
            exact ⟨⟨i + 1, ls ++ [⟨pv, cv, hy.map F⟩], by simp, hlt, HL8, HM8, HN8⟩, by simp [intOf]; omega⟩
      · have hlt' : ¬ (i : Int) < (nx : Int) := by omega
        have hin : i = nx := by omega
        subst hin
        have HFI : Hid (ls.map Ln.vs = hx.map fun a => hy.map fun b => suV T kb ko k a b) := by have := HLM.out; rwa [List.take_of_length_le (by rw [HNX.out]; omega)] at this
        have HZZ : Hid (CRY T kb ko k (.slice px i cx) (.slice py ny cy) u16 wr) := ⟨hx, hy, px, cx, py, cy, w3, ls, by rw [HNX.out], by rw [HNY.out], HHX.out, HHY.out, by rw [HNX.out]; exact HVX3.out.next HLS.out.below, by rw [HNY.out]; exact HVY.out.next HLS.out.below, HLS.out, HFI.out⟩
        have HBF : Hid (Bw w wr) := HB3.out.tr HLS.out.below
        go_wp2_with fail
        exact bodyPost_ret (v := .tuple #[.slice px i cx, .slice py ny cy, u16, .nilIface]) (by simp [results, Tryz.results12, go_sem]) rfl ⟨0, _, _, _, by rw [errV_0], HGF.out, fun h => absurd rfl h, fun _ => HZZ.out, HBF.out⟩
  · have HNE : Hid (er ≠ 0) := he
    have HEV : Hid (errV er = _) := errV_of he
    rw [errV_of he]
    go_wp2_with fail
    exact bodyPost_ret (v := .tuple #[.slice none 0 0, .slice none 0 0, .slice none 0 0, errV er]) (by rw [errV_of he]; simp [results, Tryz.results12, go_sem]) rfl ⟨er, _, _, _, rfl, HGF.out, fun _ => ⟨rfl, rfl, rfl⟩, fun h => absurd h HNE.out, HB1.out⟩
end Go.Proofs.YtbiikodnfaeceaaGreatDoor.so


/- Package book: first. Conditions: as each theorem says. -/
import Derived.Test.YtokfijkhflfioaaGreatDoorBkh
import Derived.Test.YtokfijkhflfioaaGreatDoorBkd
import Derived.BigQuiet
import Derived.Laws.ResultCell
import Derived.Laws.Rows
namespace Go.Proofs.YtokfijkhflfioaaGreatDoor.fw
open Go.RowKit Go.Sort
/-- What first answers: an entry, and how many bytes it has; none. -/
def FsO (l : List UInt8) : Value := match ent l with
  | none => .tuple #[.agg #[.int .i64 0, .int .i64 0, .string nul], .int .i64 0]
  | some (c, r, t) => .tuple #[.agg #[.int .i64 (c.toNat : Int), .int .i64 (r.toNat : Int), .string (txt t)], .int .i64 ((t.length + 5 : Nat) : Int)]
theorem fs_short {l : List UInt8} (h : l.length < 3) : FsO l = .tuple #[.agg #[.int .i64 0, .int .i64 0, .string nul], .int .i64 0] := by
  unfold FsO
  match l with
  | [] => rfl
  | [_] => rfl
  | [_, _] => rfl
  | _ :: _ :: _ :: _ => exact absurd h (by simp only [List.length_cons]; omega)
theorem fs_cut {c r n : UInt8} {b : List UInt8} (h : b.length < n.toNat + 2) : FsO (c :: r :: n :: b) = .tuple #[.agg #[.int .i64 0, .int .i64 0, .string nul], .int .i64 0] := by
  unfold FsO ent
  simp only
  rw [if_neg (by omega)]
theorem sm2_two {s : Nat} (hs : s < 65536) (x y : UInt8) : [x, y] = [UInt8.ofNat (s % 256), UInt8.ofNat (s / 256)] ↔ (s : Int) = (x.toNat : Int) + (y.toNat : Int) * 256 := by
  have h1 : (UInt8.ofNat (s % 256)).toNat = s % 256 := by rw [UInt8.toNat_ofNat']; omega
  have h2 : (UInt8.ofNat (s / 256)).toNat = s / 256 := by rw [UInt8.toNat_ofNat']; omega
  constructor
  · intro h
    simp only [List.cons.injEq, and_true] at h
    obtain ⟨rfl, rfl⟩ := h
    rw [h1, h2]
    omega
  · intro h
    have hx := x.toNat_lt
    have hy := y.toNat_lt
    have e1 : x = UInt8.ofNat (s % 256) := UInt8.toNat_inj.1 (by rw [h1]; omega)
    have e2 : y = UInt8.ofNat (s / 256) := UInt8.toNat_inj.1 (by rw [h2]; omega)
    rw [← e1, ← e2]
theorem take2 {b : List UInt8} {n : Nat} {x y : UInt8} (hx : b[n]? = some x) (hy : b[n + 1]? = some y) : (b.drop n).take 2 = [x, y] := by
  obtain ⟨h1, e1⟩ := List.getElem?_eq_some_iff.1 hx
  obtain ⟨h2, e2⟩ := List.getElem?_eq_some_iff.1 hy
  rw [List.drop_eq_getElem_cons h1, List.drop_eq_getElem_cons h2, e1, e2]
  rfl
theorem fs_other {c r n x y : UInt8} {b : List UInt8} {s : Nat} (hx : b[n.toNat]? = some x) (hy : b[n.toNat + 1]? = some y) (hs : smN (c :: r :: n :: b.take n.toNat) = s) (h : ¬ (s : Int) = (x.toNat : Int) + (y.toNat : Int) * 256) : FsO (c :: r :: n :: b) = .tuple #[.agg #[.int .i64 0, .int .i64 0, .string nul], .int .i64 0] := by
  unfold FsO ent
  simp only
  rw [if_neg]
  rintro ⟨-, h2⟩
  rw [take2 hx hy] at h2
  unfold sm2 at h2
  rw [hs] at h2
  exact h ((sm2_two (by have := smN_lt (c :: r :: n :: b.take n.toNat); omega) x y).1 h2)
theorem fs_yes {c r n x y : UInt8} {b : List UInt8} {s : Nat} (hx : b[n.toNat]? = some x) (hy : b[n.toNat + 1]? = some y) (hs : smN (c :: r :: n :: b.take n.toNat) = s) (h : (s : Int) = (x.toNat : Int) + (y.toNat : Int) * 256) :
    FsO (c :: r :: n :: b) = .tuple #[.agg #[.int .i64 (c.toNat : Int), .int .i64 (r.toNat : Int), .string (txt (b.take n.toNat))], .int .i64 ((n.toNat : Int) + 5)] := by
  have hl := (List.getElem?_eq_some_iff.1 hy).1
  unfold FsO ent
  simp only
  rw [if_pos ⟨by omega, by rw [take2 hx hy]; unfold sm2; rw [hs]; exact (sm2_two (by have := smN_lt (c :: r :: n :: b.take n.toNat); omega) x y).2 h⟩]
  simp only
  rw [List.length_take, Nat.min_eq_left (by omega)]
  rfl
/-- The text of some bytes that lie somewhere. -/
theorem BM.text {w : World} {l : List UInt8} {p : Option Addr} {n c : Nat} (h : BM w (.slice p n c) l) {g o : Nat} (hp : p = some ⟨g, o, none⟩) (a k c' : Nat) (hk : a + k ≤ l.length) (m : Nat) :
    (convert 29 9 (.slice (some ⟨g, o + a, none⟩) k c')).run Tryz.prog (w.drewN m) = .ok (.string (txt ((l.drop a).take k))) (w.drewN m) := by
  obtain ⟨p', c2, e, hc⟩ := h
  cases e
  subst hp
  have hlk : ((l.drop a).take k).length = k := by rw [List.length_take, List.length_drop]; omega
  have h1 := run_convert_bytes_back (P := Tryz.prog) (w.drewN m) 29 9 5 ⟨g, o + a, none⟩ c' ((l.drop a).take k) Tryz.underlying29 Tryz.underlying5 Tryz.underlying9 (fun j hj => by
    rw [hlk] at hj
    obtain ⟨g2, o2, e2, h2⟩ := hc (a + j) _ (List.getElem?_eq_getElem (by omega))
    cases e2
    have hadd : (⟨g, o + a, none⟩ : Addr).add j = ⟨g, o + (a + j), none⟩ := by unfold Addr.add; split <;> simp_all [Nat.add_assoc]
    rw [hadd, List.getElem_take, List.getElem_drop]
    exact h2)
  rw [hlk] at h1
  exact h1
theorem res_first (tmps : Array Value) (w : World) (g : Nat) (a b c x : Value) (hp : tmps.getD 2 undef = .pointer (some ⟨g, 0, none⟩)) (hu : tmps.getD 3 undef = x) (hg : w.heap[g]? = some (.cells #[a, b, c] 25)) :
    (results Tryz.f26 tmps).run Tryz.prog w = .ok (.tuple #[.agg #[a, b, c], x]) w := by
  rw [results_cell_tmp (p := 2) (u := 3) (ty := 25) rfl, hp, hu]
  simp [asAddr, run_loadVar_row w g 25 25 #[a, b, c] (0, 0) _ hg Tryz.underlying25 rfl (by kernel_rfl), Result.andThen]
theorem set3 {wx : World} {g : Nat} {a b c : Value} {t : TypeId} (h : wx.heap[g]? = some (.cells #[a, b, c] t)) (a' b' c' : Value) : (((wx.setCell ⟨g, 0, none⟩ a').setCell ⟨g, 1, none⟩ b').setCell ⟨g, 2, none⟩ c').heap[g]? = some (.cells #[a', b', c'] t) := by
  have h1 := heap_setCell_same wx g 0 _ _ a' h
  have h2 := heap_setCell_same _ g 1 _ _ b' h1
  exact heap_setCell_same _ g 2 _ _ c' h2
theorem set3_bw {w wx : World} {g : Nat} (h : Bw w wx) (hg : w.heap.size ≤ g) (a' b' c' : Value) : Bw w (((wx.setCell ⟨g, 0, none⟩ a').setCell ⟨g, 1, none⟩ b').setCell ⟨g, 2, none⟩ c') :=
  ((h.setCell (p := ⟨g, 0, none⟩) hg _).setCell (p := ⟨g, 1, none⟩) hg _).setCell (p := ⟨g, 2, none⟩) hg _
abbrev SF (w : World) (g a b : Nat) (x y : UInt8) (wx : World) : Prop := wx.cell? ⟨g, a, none⟩ = some (.int .u8 (x.toNat : Int)) ∧ wx.cell? ⟨g, b, none⟩ = some (.int .u8 (y.toNat : Int)) ∧ Bw w wx
theorem bm_set {w : World} {v : Value} {xs : List UInt8} (h : BM w v xs) (B i : Nat) (u : Value) (hB : ∀ g o, v = .slice (some ⟨g, o, none⟩) xs.length (match v with | .slice _ _ c => c | _ => 0) → g ≠ B) : BM (w.setCell ⟨B, i, none⟩ u) v xs := by
  obtain ⟨p, c, rfl, h⟩ := h
  refine ⟨p, c, rfl, fun j x hx => ?_⟩
  obtain ⟨g, o, rfl, h1⟩ := h j x hx
  exact ⟨g, o, rfl, by rw [World.cell?_setCell_far w ⟨B, i, none⟩ ⟨g, o + j, none⟩ u (fun e => hB g o rfl e.symm)]; exact h1⟩
abbrev S3 (B g a k cc : Nat) (l : List UInt8) (c r : UInt8) (t : ByteArray) (wx : World) : Prop := wx.cell? ⟨g, a, none⟩ = some (.int .u8 (c.toNat : Int)) ∧ wx.cell? ⟨g, a + 1, none⟩ = some (.int .u8 (r.toNat : Int)) ∧
  (∀ c', (convert 29 9 (.slice (some ⟨g, a + 3, none⟩) k c')).run Tryz.prog wx = .ok (.string t) wx) ∧ Hid (BM wx (.slice (some ⟨g, a, none⟩) l.length cc) l ∧ g ≠ B)
theorem s3_of {B g a k cc : Nat} {l : List UInt8} {c r : UInt8} {wx : World} (h : BM wx (.slice (some ⟨g, a, none⟩) l.length cc) l) (hc : l[0]? = some c) (hr : l[1]? = some r) (hk : 3 + k ≤ l.length) (hB : g ≠ B) : S3 B g a k cc l c r (txt ((l.drop 3).take k)) wx := by
  have h2 := h
  obtain ⟨p, c', e, h3⟩ := h
  cases e
  refine ⟨?_, ?_, fun c' => h2.text rfl 3 k c' hk 0, ⟨h2, hB⟩⟩
  · obtain ⟨g2, o2, e, h4⟩ := h3 0 c hc
    cases e
    exact h4
  · obtain ⟨g2, o2, e, h4⟩ := h3 1 r hr
    cases e
    exact h4
theorem s3_set {B g a k cc : Nat} {l : List UInt8} {c r : UInt8} {wx : World} {t : ByteArray} (h : S3 B g a k cc l c r t wx) (hc : l[0]? = some c) (hr : l[1]? = some r) (hk : 3 + k ≤ l.length) (ht : t = txt ((l.drop 3).take k)) (u v z : Value) : S3 B g a k cc l c r t (((wx.setCell ⟨B, 0, none⟩ u).setCell ⟨B, 1, none⟩ v).setCell ⟨B, 2, none⟩ z) := by
  have hB : ∀ g2 o2, (.slice (some ⟨g, a, none⟩) l.length cc : Value) = .slice (some ⟨g2, o2, none⟩) l.length cc → g2 ≠ B := fun g2 o2 e => by
    cases e
    exact h.2.2.2.out.2
  subst ht
  exact s3_of (bm_set (bm_set (bm_set h.2.2.2.out.1 B 0 u hB) B 1 v hB) B 2 z hB) hc hr hk h.2.2.2.out.2
theorem sfb {w : World} {g a b : Nat} {x y : UInt8} {wx : World} (h : SF w g a b x y wx) : Bw w wx := h.2.2
set_option maxRecDepth 1000000 in
set_option maxHeartbeats 8000000 in
theorem first_any (p : Option Addr) (cc : Nat) (l : List UInt8) (w : World) (hv : BM w (.slice p l.length cc) l) (hcc : l.length ≤ cc) (hl : l.length ≤ 281474976710656) : Calls Tryz.prog 26 #[.slice p l.length cc] w fun e w' => e = .returned (FsO l) ∧ Bw w w' := by
  have HV : Hid (BM w (.slice p l.length cc) l) := hv
  clear hv
  by_cases h3 : l.length < 3
  · rw [fs_short h3]
    have h3' : (l.length : Int) < 3 := by omega
    go_enter Tryz.func26, Tryz.ntmps26
    go_wp2_with fail
    exact bodyPost_ret (res_first _ _ w.heap.size _ _ _ _ rfl rfl (heap_alloc_new w _)) rfl ⟨rfl, Bw.al w _⟩
  · obtain ⟨c, r, n, b, rfl⟩ : ∃ c r n b, l = c :: r :: n :: b := by
      match l, h3 with
      | [], h => exact absurd (by simp) h
      | [_], h => exact absurd (by simp) h
      | [_, _], h => exact absurd (by simp) h
      | c :: r :: n :: b, _ => exact ⟨c, r, n, b, rfl⟩
    clear h3
    obtain ⟨m, hm⟩ : ∃ m, b.length = m := ⟨_, rfl⟩
    have hlen : (c :: r :: n :: b).length = m + 3 := by rw [← hm]; rfl
    have HLEN : Hid ((c :: r :: n :: b).length = m + 3) := hlen
    have hm9 : (m : Int) ≤ 281474976710656 := by omega
    have hm0 : (0 : Int) ≤ (m : Int) := by omega
    obtain ⟨p2, c2, e2, hc⟩ := HV.out
    cases e2
    obtain ⟨g, o, rfl, y0⟩ := hc 0 c rfl
    have y1 : w.cell? ⟨g, o + 1, none⟩ = some (.int .u8 (r.toNat : Int)) := by
      obtain ⟨g2, o2, e, h⟩ := hc 1 r rfl
      cases e
      exact h
    have y2 : w.cell? ⟨g, o + 2, none⟩ = some (.int .u8 (n.toNat : Int)) := by
      obtain ⟨g2, o2, e, h⟩ := hc 2 n rfl
      cases e
      exact h
    have hn9 : (n.toNat : Int) < 256 := by have := n.toNat_lt; omega
    have hn0 : (0 : Int) ≤ (n.toNat : Int) := by omega
    have hg : g < w.heap.size := World.block_lt_of_cell? w _ y0
    rw [hlen]
    obtain ⟨k, hk⟩ : ∃ k, n.toNat = k := ⟨_, rfl⟩
    by_cases hcut : m < k + 2
    · rw [fs_cut (by rw [hm, hk]; exact hcut)]
      rw [hk] at y2 hn9 hn0
      have hcut' : (m : Int) + 3 < 3 + (k : Int) + 2 := by omega
      clear hc hm hlen
      go_enter Tryz.func26, Tryz.ntmps26
      go_wp2_with fail
      go_quiet (fail)
      go_wp2_with fail
      exact bodyPost_ret (res_first _ _ w.heap.size _ _ _ _ rfl rfl (set3 (heap_alloc_new w _) _ _ _)) rfl ⟨rfl, set3_bw ((Bw.al w _).tr (drawn_bw _ _)) (Nat.le_refl _) _ _ _⟩
    · have hy2 := y2
      rw [hk] at y2 hn9 hn0
      obtain ⟨x, hx⟩ : ∃ x, b[k]? = some x := ⟨_, List.getElem?_eq_getElem (by omega)⟩
      obtain ⟨y, hy⟩ : ∃ y, b[k + 1]? = some y := ⟨_, List.getElem?_eq_getElem (by omega)⟩
      have z0 : w.cell? ⟨g, o + (3 + k), none⟩ = some (.int .u8 (x.toNat : Int)) := by
        obtain ⟨g2, o2, e, h⟩ := hc (3 + k) x (by rw [show 3 + k = k + 3 by omega]; exact hx)
        cases e
        exact h
      have z1 : w.cell? ⟨g, o + (3 + k + 1), none⟩ = some (.int .u8 (y.toNat : Int)) := by
        obtain ⟨g2, o2, e, h⟩ := hc (3 + k + 1) y (by rw [show 3 + k + 1 = k + 1 + 3 by omega]; exact hy)
        cases e
        exact h
      obtain ⟨sm, hs⟩ : ∃ sm, smN (c :: r :: n :: b.take k) = sm := ⟨_, rfl⟩
      have HSum : Hid (∀ wx, Bw w wx → Calls Tryz.prog 33 #[.slice (some ⟨g, o, none⟩) (3 + k) cc] wx fun e w' => e = .returned (.int .i64 (sm : Int)) ∧ w' = wx) := fun wx hb => by
        have hB : BM wx (.slice (some ⟨g, o, none⟩) (3 + k) cc) (c :: r :: n :: b.take k) := by
          have hB0 := HV.out.next hb
          obtain ⟨p3, c3, e3, h3⟩ := hB0
          cases e3
          refine ⟨_, _, by simp only [List.length_cons, List.length_take]; rw [Nat.min_eq_left (by omega)]; rw [show k + 1 + 1 + 1 = 3 + k by omega], fun i z hz => ?_⟩
          refine h3 i z ?_
          have e : c :: r :: n :: b.take k = (c :: r :: n :: b).take (k + 3) := rfl
          rw [e, List.getElem?_take] at hz
          split at hz
          · exact hz
          · cases hz
        have := sum_any _ _ wx hB (by simp only [List.length_cons, List.length_take]; omega)
        rw [hs] at this
        exact this
      have hx9 : (x.toNat : Int) < 256 := by have := x.toNat_lt; omega
      have hy9 : (y.toNat : Int) < 256 := by have := y.toNat_lt; omega
      have hx0 : (0 : Int) ≤ (x.toNat : Int) := by omega
      have hy0 : (0 : Int) ≤ (y.toNat : Int) := by omega
      have hcut' : ¬ (m : Int) + 3 < 3 + (k : Int) + 2 := by omega
      have HFs : Hid (FsO (c :: r :: n :: b) = if (sm : Int) = (x.toNat : Int) + (y.toNat : Int) * 256 then .tuple #[.agg #[.int .i64 (c.toNat : Int), .int .i64 (r.toNat : Int), .string (txt (b.take k))], .int .i64 ((k : Int) + 5)] else .tuple #[.agg #[.int .i64 0, .int .i64 0, .string nul], .int .i64 0]) := by
        show _ = _
        split
        · rename_i h
          rw [fs_yes (by rw [hk]; exact hx) (by rw [hk]; exact hy) (by rw [hk]; exact hs) h, hk]
        · rename_i h
          rw [fs_other (by rw [hk]; exact hx) (by rw [hk]; exact hy) (by rw [hk]; exact hs) h]
      have HTx : Hid (∀ wx j c', Bw w wx → (convert 29 9 (.slice (some ⟨g, o + 3, none⟩) k c')).run Tryz.prog (wx.drewN j) = .ok (.string (txt (b.take k))) (wx.drewN j)) := fun wx j c' hb => (HV.out.next hb).text rfl 3 k c' (by rw [HLEN.out]; omega) j
      have HSO : Hid (∀ wx, Bw w wx → SF w g (o + (3 + k)) (o + (3 + k + 1)) x y wx) := fun wx hb => ⟨by rw [hb.cell (p := ⟨g, _, none⟩) hg]; exact z0, by rw [hb.cell (p := ⟨g, _, none⟩) hg]; exact z1, hb⟩
      have hb1 : Bw w (w.alloc (.cells #[.int .i64 0, .int .i64 0, .string nul] 25)) := Bw.al w _
      have h0d := HSO.out _ (hb1.tr (Below.refl _ _).drew)
      have hw1 : IntKind.i64.wrap (3 + (k : Int) + 2) = 3 + (k : Int) + 2 := Go.IntWalk.i64_in _ (by omega)
      have hw2 : IntKind.i64.wrap (3 + (k : Int) + 1) = 3 + (k : Int) + 1 := Go.IntWalk.i64_in _ (by omega)
      have hw3 : (3 + (k : Int)).toNat = 3 + k := by omega
      have hw4 : (3 + (k : Int) + 1).toNat = 3 + k + 1 := by omega
      have hw5 : (0 : Int) ≤ 3 + (k : Int) := by omega
      have hw6 : 3 + (k : Int) ≤ (cc : Int) := by rw [hlen] at hcc; omega
      have hw7 : 3 + (k : Int) < (m : Int) + 3 := by omega
      have hw8 : 3 + (k : Int) + 1 < (m : Int) + 3 := by omega
      have hw9 : (0 : Int) ≤ 3 + (k : Int) + 1 := by omega
      have hw10 : (3 : Int) ≤ 3 + (k : Int) := by omega
      have hd1 : decide ((m : Int) + 3 < 3 + (k : Int) + 2) = false := decide_eq_false (by omega)
      clear hc hm hlen hy2 hs hx hy
      go_enter Tryz.func26, Tryz.ntmps26
      go_wp2_with fail
      go_region_held3 (fun wx => SF w g (o + (3 + k)) (o + (3 + k + 1)) x y wx) (first | exact h0d | assumption | exact HSO.out _ ((sfb (by assumption)).tr (by assumption))) (first | (go_at_call 33; refine (HSum.out _ (sfb (by assumption))).mono ?_; rintro e w2 ⟨rfl, rfl⟩))
      have hv1 : IntKind.i64.wrap (x.toNat : Int) = (x.toNat : Int) := Go.IntWalk.i64_in _ (by omega)
      have hv2 : IntKind.i64.wrap (y.toNat : Int) = (y.toNat : Int) := Go.IntWalk.i64_in _ (by omega)
      have hv3 : IntKind.i64.wrap ((y.toNat : Int) * 256) = (y.toNat : Int) * 256 := Go.IntWalk.i64_in _ (by omega)
      have hv4 : IntKind.i64.wrap ((x.toNat : Int) + (y.toNat : Int) * 256) = (x.toNat : Int) + (y.toNat : Int) * 256 := Go.IntWalk.i64_in _ (by omega)
      rw [hv1, hv2, hv3, hv4]
      obtain ⟨W2, hW2⟩ : ∃ W2, W2 = (w.alloc (.cells #[.int .i64 0, .int .i64 0, .string nul] 25)).drew := ⟨_, rfl⟩
      have HB2 : Hid (Bw w W2) := by
        show Bw _ _
        rw [hW2]
        exact hb1.tr (Below.refl _ _).drew
      have HG2 : Hid (W2.heap[w.heap.size]? = some (.cells #[.int .i64 0, .int .i64 0, .string nul] 25)) := by
        show _ = _
        rw [hW2]
        exact heap_alloc_new w _
      rw [← hW2]
      clear hW2 y0 y1 y2 z0 z1 hv1 hv2 hv3 hv4 h0d hb1 HSum HSO HTx
      by_cases heq : (sm : Int) = (x.toNat : Int) + (y.toNat : Int) * 256
      · have hb0 : ((sm : Int) != (x.toNat : Int) + (y.toNat : Int) * 256) = false := by rw [bne_eq_false_iff_eq]; exact heq
        rw [hb0]
        have HF2 : Hid (FsO (c :: r :: n :: b) = .tuple #[.agg #[.int .i64 (c.toNat : Int), .int .i64 (r.toNat : Int), .string (txt (b.take k))], .int .i64 ((k : Int) + 5)]) := by
          show _ = _
          rw [HFs.out, if_pos heq]
        clear heq hb0 HFs
        have hi0 : (0 : Int) < (m : Int) + 3 := by omega
        have hi1 : (1 : Int) < (m : Int) + 3 := by omega
        have hkk : 3 + k - 3 = k := by omega
        have hc3 : ¬ cc = 3 := by rw [HLEN.out] at hcc; omega
        go_wp2_with fail
        have h0d := s3_of (B := w.heap.size) (k := k) (HV.out.next (HB2.out.tr (Below.refl _ W2).drew)) rfl rfl (by rw [HLEN.out]; omega) (by omega)
        obtain ⟨y0, y1, y2, -⟩ := h0d
        have hcv := y2 (cc - 3)
        obtain ⟨x0, x1, x2⟩ := cells3q HG2.out
        have f0 : W2.frozen? ⟨w.heap.size, 0, none⟩ = false := by simp [World.frozen?, HG2.out]
        have f1 : W2.frozen? ⟨w.heap.size, 1, none⟩ = false := by simp [World.frozen?, HG2.out]
        have f2 : W2.frozen? ⟨w.heap.size, 2, none⟩ = false := by simp [World.frozen?, HG2.out]
        clear HV hcc hl HLEN
        go_region
        have hv1 : wrap64 (c.toNat : Int) = (c.toNat : Int) := Go.IntWalk.wrap64_in _ (by have := c.toNat_lt; omega)
        have hv2 : wrap64 (r.toNat : Int) = (r.toNat : Int) := Go.IntWalk.wrap64_in _ (by have := r.toNat_lt; omega)
        rw [hv1, hv2]
        have HG3 : Hid (∀ a' b' c', ((((W2.setCell ⟨w.heap.size, 0, none⟩ a').setCell ⟨w.heap.size, 1, none⟩ b').setCell ⟨w.heap.size, 2, none⟩ c').drew).heap[w.heap.size]? = some (.cells #[a', b', c'] 25)) := fun a' b' c' => set3 HG2.out a' b' c'
        have HB3 : Hid (∀ a' b' c', Bw w ((((W2.setCell ⟨w.heap.size, 0, none⟩ a').setCell ⟨w.heap.size, 1, none⟩ b').setCell ⟨w.heap.size, 2, none⟩ c').drew)) := fun a' b' c' => (set3_bw HB2.out (Nat.le_refl _) a' b' c').tr (Below.refl _ _).drew
        clear hcv y0 y1 y2 x0 x1 x2 f0 f1 f2 HG2 HB2
        go_wp2_with fail
        refine bodyPost_ret (res_first _ _ w.heap.size _ _ _ _ rfl rfl (HG3.out _ _ _)) rfl ?_
        refine ⟨?_, HB3.out _ _ _⟩
        rw [HF2.out, show (k : Int) + 5 = 3 + (k : Int) + 2 by omega]
        rfl
      · have hb0 : ((sm : Int) != (x.toNat : Int) + (y.toNat : Int) * 256) = true := by rw [bne_iff_ne]; exact heq
        rw [hb0]
        have HF2 : Hid (FsO (c :: r :: n :: b) = .tuple #[.agg #[.int .i64 0, .int .i64 0, .string nul], .int .i64 0]) := by
          show _ = _
          rw [HFs.out, if_neg heq]
        obtain ⟨x0, x1, x2⟩ := cells3q HG2.out
        have f0 : W2.frozen? ⟨w.heap.size, 0, none⟩ = false := by simp [World.frozen?, HG2.out]
        have f1 : W2.frozen? ⟨w.heap.size, 1, none⟩ = false := by simp [World.frozen?, HG2.out]
        have f2 : W2.frozen? ⟨w.heap.size, 2, none⟩ = false := by simp [World.frozen?, HG2.out]
        clear heq hb0 HFs
        go_wp2_with fail
        have HG3 : Hid (∀ a' b' c', (((W2.setCell ⟨w.heap.size, 0, none⟩ a').setCell ⟨w.heap.size, 1, none⟩ b').setCell ⟨w.heap.size, 2, none⟩ c').heap[w.heap.size]? = some (.cells #[a', b', c'] 25)) := set3 HG2.out
        refine bodyPost_ret (res_first _ _ w.heap.size _ _ _ _ rfl rfl (HG3.out _ _ _)) rfl ?_
        exact ⟨by rw [HF2.out]; rfl, set3_bw HB2.out (Nat.le_refl _) _ _ _⟩
end Go.Proofs.YtokfijkhflfioaaGreatDoor.fw

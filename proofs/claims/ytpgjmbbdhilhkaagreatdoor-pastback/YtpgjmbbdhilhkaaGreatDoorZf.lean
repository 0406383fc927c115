/- Where a cell stands in a list, and its text. Conditions: as each theorem says. -/
import Derived.Test.YtpgjmbbdhilhkaaGreatDoorZe
namespace Go.Proofs.YtpgjmbbdhilhkaaGreatDoor.ps
open Go.RowKit
open adr (C)
/-- A place of the list and the cell that is sought, opened. -/
structure BS (w : World) (c0 r0 : Int) (wx : World) : Prop where
  below : Below w.heap.size w wx
  box : wx.heap[w.heap.size]? = some (.cells #[.int .i64 c0, .int .i64 r0] 30 (0, 0))
theorem BS.next {w : World} {c0 r0 : Int} {wx wy : World} (h : BS w c0 r0 wx) (hb : Below wx.heap.size wx wy) : BS w c0 r0 wy := ⟨bnext h.below hb h.below.size, (hb.block _ (fm.lt_blk h.box)).trans h.box⟩
abbrev BO (w : World) (c0 r0 : Int) (g o h : Nat) (x : Fl) (wx : World) : Prop := wx.cell? ⟨g, o + h * 3, none⟩ = some (.int .i64 x.c) ∧ wx.cell? ⟨g, o + h * 3 + 1, none⟩ = some (.int .i64 x.r) ∧ wx.cell? ⟨g, o + h * 3 + 2, none⟩ = some (.string x.s) ∧ wx.cell? ⟨w.heap.size, 0, none⟩ = some (.int .i64 c0) ∧ wx.cell? ⟨w.heap.size, 1, none⟩ = some (.int .i64 r0) ∧ BS w c0 r0 wx
theorem bo_bs {w : World} {c0 r0 : Int} {g o h : Nat} {x : Fl} {wx : World} (q : BO w c0 r0 g o h x wx) : BS w c0 r0 wx := q.2.2.2.2.2
theorem BS.opened {w : World} {c0 r0 : Int} {wx : World} (q : BS w c0 r0 wx) {g o h : Nat} {x : Fl} {xs : List Fl} (hx : FM w (some ⟨g, o, none⟩) xs) (hh : xs[h]? = some x) : BO w c0 r0 g o h x wx := by
  obtain ⟨q0, q1, q2⟩ := FM.cells (hx.below q.below) hh
  obtain ⟨b0, b1⟩ := cells2 q.box
  exact ⟨q0, q1, q2, b0, b1, q⟩
theorem FM.at {w : World} {p : Option Addr} {xs : List Fl} (h : FM w p xs) {i : Nat} {x : Fl} (hx : xs[i]? = .some x) : ∃ g o, p = .some ⟨g, o, none⟩ ∧ g < w.heap.size := by
  rcases h with h | ⟨g, o, h1, h2, -⟩
  · subst h; simp at hx
  · exact ⟨g, o, h1, h2⟩
theorem srt_get {xs : List Fl} (hs : Srt xs) {a b : Nat} {x y : Fl} (hx : xs[a]? = some x) (hy : xs[b]? = some y) (h : a < b) : lt x y.c y.r = true := by
  obtain ⟨h1, rfl⟩ := List.getElem?_eq_some_iff.1 hx
  obtain ⟨h2, rfl⟩ := List.getElem?_eq_some_iff.1 hy
  exact List.pairwise_iff_getElem.1 hs a b h1 h2 h
theorem srt_lo {xs : List Fl} (hs : Srt xs) {h : Nat} {x : Fl} {c r : Int} (hx : xs[h]? = some x) (hl : lt x c r = true) : ∀ a y, a < h + 1 → xs[a]? = some y → lt y c r = true := by
  intro a y ha hy
  by_cases e : a = h
  · subst e; rw [hx] at hy; injection hy with hy; subst hy; exact hl
  · have := srt_get hs hy hx (by omega)
    rw [lt_iff] at this hl ⊢
    omega
theorem srt_hi {xs : List Fl} (hs : Srt xs) {h : Nat} {x : Fl} {c r : Int} (hx : xs[h]? = some x) (hl : lt x c r = false) : ∀ a y, h ≤ a → xs[a]? = some y → lt y c r = false := by
  intro a y ha hy
  by_cases e : a = h
  · subst e; rw [hx] at hy; injection hy with hy; subst hy; exact hl
  · have := srt_get hs hx hy (by omega)
    rw [lt_iff] at this
    rw [lt_no] at hl ⊢
    omega
/-- None is the one that is sought. -/
theorem srt_none {xs : List Fl} (hs : Srt xs) {i : Nat} {c r : Int} (hlo : ∀ a x, a < i → xs[a]? = some x → lt x c r = true) (hhi : ∀ a x, i ≤ a → xs[a]? = some x → lt x c r = false) (h : ∀ x, xs[i]? = some x → at' x c r = false) : ∀ x ∈ xs, at' x c r = false := by
  intro y hy
  obtain ⟨a, ha, rfl⟩ := List.getElem_of_mem hy
  have hya : xs[a]? = some xs[a] := List.getElem?_eq_getElem ha
  by_cases h1 : a < i
  · have := hlo a _ h1 hya
    rw [lt_iff] at this
    rw [at_no]
    omega
  · by_cases e : a = i
    · subst e; exact h _ hya
    · have hi : i < xs.length := by omega
      have hxi : xs[i]? = some xs[i] := List.getElem?_eq_getElem hi
      have g1 := hhi i _ (Nat.le_refl _) hxi
      have g2 := srt_get hs hxi hya (by omega)
      rw [lt_no] at g1
      rw [lt_iff] at g2
      rw [at_no]
      omega
set_option maxRecDepth 100000 in
set_option maxHeartbeats 8000000 in
theorem bs_any (p : Option Addr) (c : Nat) (xs : List Fl) (c0 r0 : Int) (w : World) (hx : FM w p xs) (hl : xs.length ≤ 300) (hs : Srt xs) :
    Calls Tryz.prog 33 #[.slice p xs.length c, C c0 r0, .func (.func 34) #[] #[]] w fun e w' => ∃ (i : Nat) (b : Bool), e = .returned (.tuple #[.int .i64 i, .bool b]) ∧ i ≤ xs.length ∧ (b = true → ∃ x, xs[i]? = some x ∧ at' x c0 r0 = true) ∧ (b = false → ∀ x ∈ xs, at' x c0 r0 = false) ∧ Below w.heap.size w w' := by
  obtain ⟨n, hn⟩ : ∃ n, xs.length = n := ⟨_, rfl⟩
  have HN : Hid (xs.length = n) := hn
  have HC : Hid (∀ (x : Fl) c r wx, Calls Tryz.prog 34 #[FV x, C c r] wx fun e w' => e = .returned (.int .i64 (cmpC x.c x.r c r)) ∧ Below wx.heap.size wx w') := cmpF_any
  have hn3 : (n : Int) ≤ 300 := by omega
  have HX : Hid (FM w p xs) := hx
  have HSr : Hid (Srt xs) := hs
  have hb0 : Below w.heap.size w (w.alloc (.cells #[.int .i64 c0, .int .i64 r0] 30)) := (Below.refl _ _).alloc (Nat.le_refl _) _
  have hq0 := heap_alloc_new w (.cells #[.int .i64 c0, .int .i64 r0] 30)
  rw [hn]
  clear hx hs hn hl
  go_enter Tryz.func33, Tryz.ntmps33
  go_wp2_with fail
  generalize w.alloc (.cells #[.int .i64 c0, .int .i64 r0] 30) = W0 at *
  have H0 : Hid (Below w.heap.size w W0 ∧ W0.heap[w.heap.size]? = some (.cells #[.int .i64 c0, .int .i64 r0] 30 (0, 0))) := ⟨hb0, hq0⟩
  clear hb0 hq0
  go_loopw [9, 10] (fun si sj wr => ∃ i j : Nat, si = .int .i64 i ∧ sj = .int .i64 j ∧ i ≤ j ∧ j ≤ n ∧ (∀ a x, a < i → xs[a]? = some x → lt x c0 r0 = true) ∧ (∀ a x, j ≤ a → xs[a]? = some x → lt x c0 r0 = false) ∧ Below w.heap.size w wr ∧ wr.heap[w.heap.size]? = some (.cells #[.int .i64 c0, .int .i64 r0] 30 (0, 0))) (fun si sj _ => (intOf sj).toNat - (intOf si).toNat)
  case atStart => exact ⟨0, n, rfl, rfl, Nat.zero_le _, Nat.le_refl _, fun a x h => absurd h (Nat.not_lt_zero _), fun a x h hx => by have := (List.getElem?_eq_some_iff.1 hx).1; have := HN.out; omega, H0.out.1, H0.out.2⟩
  case round =>
    obtain ⟨i, j, rfl, rfl, hij, hjn, hlo, hhi, hb, hq⟩ := hrel
    by_cases hlt : i < j
    · have hlt' : (i : Int) < (j : Int) := by omega
      have hi0 : (0 : Int) ≤ (i : Int) := by omega
      have hj3 : (j : Int) ≤ 300 := by omega
      obtain ⟨h, hh⟩ : ∃ h : Nat, (i + j) / 2 = h := ⟨_, rfl⟩
      have hh' : ((i : Int) + (j : Int)) / 2 = (h : Int) := by omega
      have hhn : h < n := by omega
      have hhn' : (h : Int) < (n : Int) := by omega
      have hh0 : (0 : Int) ≤ (h : Int) := by omega
      obtain ⟨x, hxh⟩ : ∃ x, xs[h]? = some x := ⟨xs[h]'(by rw [HN.out]; exact hhn), List.getElem?_eq_getElem _⟩
      obtain ⟨g, o, rfl, hg⟩ := HX.out.at hxh
      have hB : BS w c0 r0 wr := ⟨hb, hq⟩
      have h0d := (hB.next (Below.refl _ _).drew).opened HX.out hxh
      obtain ⟨y0, y1, y2, y3, y4, -⟩ := hB.opened HX.out hxh
      have HK : Hid ((∀ a x, a < i → xs[a]? = some x → lt x c0 r0 = true) ∧ (∀ a x, j ≤ a → xs[a]? = some x → lt x c0 r0 = false) ∧ xs[h]? = some x) := ⟨hlo, hhi, hxh⟩
      clear hlo hhi hb hq hB hxh
      go_wp2_with fail
      try simp only [hh']
      go_cut [31] (fun s31 wx => s31 = .bool (lt x c0 r0) ∧ BS w c0 r0 wx)
      case first =>
        go_region_held3 (fun wx => BO w c0 r0 g o h x wx) (first | exact h0d | exact BS.opened ((bo_bs (by assumption)).next (by assumption)) HX.out HK.out.2.2) (first | (go_at_call 34; refine (HC.out x _ _ _).mono ?_; rintro e w1 ⟨rfl, hb1⟩; have hw1 := (bo_bs (by assumption)).next hb1))
        all_goals
          go_wp2_with fail
          go_meet
          case rel => exact ⟨rfl, hw1⟩
      case rest =>
      obtain ⟨rfl, hw1⟩ := hcut
      clear y0 y1 y2 y3 y4 h0d
      cases hl : lt x c0 r0 with
      | true =>
        have HL : Hid (lt x c0 r0 = true) := hl
        clear hl
        go_wp2_with fail
        exact ⟨⟨h + 1, j, by simp, rfl, by omega, hjn, srt_lo HSr.out HK.out.2.2 HL.out, HK.out.2.1, hw1.below, hw1.box⟩, by simp [intOf]; omega⟩
      | false =>
        have HL : Hid (lt x c0 r0 = false) := hl
        clear hl
        go_wp2_with fail
        exact ⟨⟨i, h, rfl, rfl, by omega, by omega, HK.out.1, srt_hi HSr.out HK.out.2.2 HL.out, hw1.below, hw1.box⟩, by simp [intOf]; omega⟩
    · obtain rfl : i = j := by omega
      by_cases hin : i < n
      · have hin' : (i : Int) < (n : Int) := by omega
        have hi0 : (0 : Int) ≤ (i : Int) := by omega
        obtain ⟨x, hxh⟩ : ∃ x, xs[i]? = some x := ⟨xs[i]'(by rw [HN.out]; exact hin), List.getElem?_eq_getElem _⟩
        obtain ⟨g, o, rfl, hg⟩ := HX.out.at hxh
        have hB : BS w c0 r0 wr := ⟨hb, hq⟩
        have h0d := (hB.next (Below.refl _ _).drew).opened HX.out hxh
        obtain ⟨y0, y1, y2, y3, y4, -⟩ := hB.opened HX.out hxh
        have HK : Hid ((∀ a x, a < i → xs[a]? = some x → lt x c0 r0 = true) ∧ (∀ a x, i ≤ a → xs[a]? = some x → lt x c0 r0 = false) ∧ xs[i]? = some x) := ⟨hlo, hhi, hxh⟩
        have HA : Hid (at' x c0 r0 = decide (cmpC x.c x.r c0 r0 = 0)) := rfl
        clear hlo hhi hb hq hB hxh
        go_wp2_with fail
        go_cut [6, 7] (fun s6 s7 wx => s6 = .int .i64 i ∧ s7 = .bool (cmpC x.c x.r c0 r0 == 0) ∧ BS w c0 r0 wx)
        case first =>
          go_region_held3 (fun wx => BO w c0 r0 g o i x wx) (first | exact h0d | exact BS.opened ((bo_bs (by assumption)).next (by assumption)) HX.out HK.out.2.2) (first | (go_at_call 34; refine (HC.out x _ _ _).mono ?_; rintro e w1 ⟨rfl, hb1⟩; have hw1 := (bo_bs (by assumption)).next hb1))
          all_goals
            go_wp2_with fail
            go_meet
            case rel => exact ⟨rfl, rfl, hw1⟩
        case rest =>
        obtain ⟨rfl, rfl, hw1⟩ := hcut
        go_wp2_with fail
        refine bodyPost_ret (v := .tuple #[.int .i64 i, .bool (cmpC x.c x.r c0 r0 == 0)]) (by simp [results, Tryz.results33, go_sem]) rfl ⟨i, cmpC x.c x.r c0 r0 == 0, rfl, by omega, fun h => ⟨x, HK.out.2.2, ?_⟩, fun h => srt_none HSr.out HK.out.1 HK.out.2.1 (fun y hy => ?_), hw1.below⟩
        · rw [HA.out]; simpa using h
        · rw [HK.out.2.2] at hy
          injection hy with hy
          subst hy
          rw [HA.out]; simpa using h
      · obtain rfl : i = n := by omega
        have hB : BS w c0 r0 wr := ⟨hb, hq⟩
        have HK : Hid ((∀ a x, a < i → xs[a]? = some x → lt x c0 r0 = true) ∧ (∀ a x, i ≤ a → xs[a]? = some x → lt x c0 r0 = false)) := ⟨hlo, hhi⟩
        clear hlo hhi hb hq
        go_wp2_with fail
        go_cut [6, 7] (fun s6 s7 wx => s6 = .int .i64 i ∧ s7 = .bool false ∧ BS w c0 r0 wx)
        case first =>
          go_quiet (fail)
          go_wp2_with fail
          go_meet
          case rel => exact ⟨rfl, rfl, hB.next (drewN_below _ _)⟩
        case rest =>
        obtain ⟨rfl, rfl, hw1⟩ := hcut
        go_wp2_with fail
        refine bodyPost_ret (v := .tuple #[.int .i64 i, .bool false]) (by simp [results, Tryz.results33, go_sem]) rfl ⟨i, false, rfl, by omega, fun h => absurd h (by simp), fun h => srt_none HSr.out HK.out.1 HK.out.2 (fun y hy => ?_), hw1.below⟩
        have := (List.getElem?_eq_some_iff.1 hy).1
        have := HN.out
        omega
end Go.Proofs.YtpgjmbbdhilhkaaGreatDoor.ps

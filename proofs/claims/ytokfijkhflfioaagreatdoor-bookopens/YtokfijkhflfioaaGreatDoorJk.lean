
/- The law BookEntries, by contracts of the document's In, Text, Check and of sccsame.Error. Conditions: as each theorem says. -/
import Derived.Test.YtokfijkhflfioaaGreatDoorFwa
import Derived.BigQuiet
import Derived.Test.YtokfijkhflfioaaGreatDoorZa
import Derived.Test.YtokfijkhflfioaaGreatDoorYb

/- The document's Entry: a cell and its text as bytes, walked. Conditions: as each theorem says. -/
namespace Go.Proofs.YtokfijkhflfioaaGreatDoor.fw
open Go.RowKit Go.Sort
/-- A number's low byte. -/
def lo8 (c : Int) : UInt8 := UInt8.ofNat (c % 256).toNat
theorem lo8_is (c : Int) : ((lo8 c).toNat : Int) = c % 256 := by
  have h1 : 0 ≤ c % 256 ∧ c % 256 < 256 := ⟨Int.emod_nonneg _ (by decide), Int.emod_lt_of_pos _ (by decide)⟩
  unfold lo8
  rw [UInt8.toNat_ofNat']
  omega
/-- A step of the sum, and the sum of bytes. -/
def stS (s : Nat) (x : UInt8) : Nat := (s * 257 + x.toNat) % 65521
def smN (l : List UInt8) : Nat := l.foldl stS 1
theorem smN_snoc (l : List UInt8) (x : UInt8) : smN (l ++ [x]) = stS (smN l) x := by simp [smN, List.foldl_append]
theorem smN_lt (l : List UInt8) : smN l < 65521 := by
  rcases List.eq_nil_or_concat l with rfl | ⟨l', x, rfl⟩
  · decide
  · rw [List.concat_eq_append, smN_snoc]; exact Nat.mod_lt _ (by decide)
/-- What stands ahead of an entry's sum; an entry. -/
def enB (c r : Int) (t : ByteArray) : List UInt8 := [lo8 c, lo8 r, lo8 (t.size : Int)] ++ t.toList
def enL (c r : Int) (t : ByteArray) : List UInt8 := enB c r t ++ [UInt8.ofNat (smN (enB c r t) % 256), UInt8.ofNat (smN (enB c r t) / 256)]
theorem enB_length (c r : Int) (t : ByteArray) : (enB c r t).length = t.size + 3 := by unfold enB; rw [List.length_append, size_list]; simp; omega
theorem enL_length (c r : Int) (t : ByteArray) : (enL c r t).length = t.size + 5 := by unfold enL; rw [List.length_append, enB_length]; rfl
theorem BV.made {w wx : World} (hb : Bw w wx) (xs : List UInt8) (n : Nat) (hn : xs.length = n) (hm : n ≤ 140737488355328) (cs : Array Value) (hcs : cs = (bys xs).toArray) : BV w (.slice (some ⟨wx.heap.size, 0, none⟩) n n) xs (wx.alloc (.cells cs 5)) := by
  subst hn hcs
  have hmax : maxLen = 9223372036854775807 := rfl
  refine ⟨⟨by simp [bys], .inr ⟨wx.heap.size, xs.length, (bys xs).toArray, rfl, hb.size, heap_alloc_new wx _, Nat.le_refl _, by omega, by simp [bys], ?_⟩⟩, hb.tr (Bw.al wx _)⟩
  exact List.take_of_length_le (by simp [bys])
theorem BV.more {w : World} {v : Value} {xs : List UInt8} {wx : World} (h : BV w v xs wx) (ys : List UInt8) (m : Nat) (hm : ys.length = m) (hm0 : 0 < m) (hl : xs.length + m ≤ 140737488355328) (cs : Array Value) (hcs : cs = (bys ys).toArray) :
    ∃ g c w', (Builtin.append_ #[29, 29] 29 #[v, .slice (some ⟨wx.heap.size, 0, none⟩) m m]).run Tryz.prog (wx.alloc (.cells cs 5)) = .ok (.slice (some ⟨g, 0, none⟩) (xs.length + m) c) w' ∧ BV w (.slice (some ⟨g, 0, none⟩) (xs.length + m) c) (xs ++ ys) w' := by
  obtain ⟨i0, hi, hz0, hz1, hz2⟩ := info_parts info5
  have hmax : maxLen = 9223372036854775807 := rfl
  subst hcs
  have h1 := h.next (Bw.al wx (.cells (bys ys).toArray 5))
  obtain ⟨g, c, w', r1, r2, r3, -, -⟩ := run_append_lies (P := Tryz.prog) (w := wx.alloc (.cells (bys ys).toArray 5)) 29 29 w.heap.size 5 i0 (.int .u8 0) 1 1 Tryz.underlying29 hi hz0 hz1 hz2 rfl (by decide) v xs.length (bys xs) h1.own ⟨wx.heap.size, 0, none⟩ m m (bys ys) (by simp [bys, hm]) (World.news_of_block (heap_alloc_new wx _)) (by simp [bys, Value.oneCell']) (by omega) (by omega) (by omega) h1.below.size _ rfl
  refine ⟨g, c, w', r1, ⟨?_, h1.below.grown r3 h1.below.size (fun q hq => (h1.own.lt q hq).1)⟩⟩
  have e : bys (xs ++ ys) = bys xs ++ bys ys := by simp [bys]
  rw [e, List.length_append, hm]
  exact r2
theorem BV.cell {w : World} {xs : List UInt8} {wx : World} {g n c : Nat} (h : BV w (.slice (some ⟨g, 0, none⟩) n c) xs wx) {i : Nat} {x : UInt8} (hx : xs[i]? = some x) : wx.cell? ⟨g, i, none⟩ = some (.int .u8 (x.toNat : Int)) := by
  have := World.ownsRow.cells h.own (g := g) rfl i _ (by unfold bys; rw [List.getElem?_map, hx]; rfl)
  simp only [Addr.add] at this
  by_cases h0 : i = 0
  · subst h0; exact this
  · rw [if_neg (by simpa using h0)] at this
    simpa using this
/-- What Entry answers. -/
def EnO (w : World) (c r : Int) (t : ByteArray) (e : Ending) (w' : World) : Prop := ∃ v, e = .returned v ∧ BV w v (enL c r t) w'
set_option maxRecDepth 1000000 in
set_option maxHeartbeats 8000000 in
theorem rentry_any (c r : Int) (t : ByteArray) (w : World) (ht : t.size ≤ 70368744177664) : Calls Tryz.prog 8 #[.agg #[.int .i64 c, .int .i64 r, .string t]] w fun e w' => EnO w c r t e w' := by
  have ht9 : (t.size : Int) ≤ 70368744177664 := by omega
  go_enter Tryz.func8, Tryz.ntmps8
  go_upto_region 2 with fail
  have HB : BV w (.slice (some ⟨w.heap.size + 1, 0, none⟩) 3 3) [lo8 c, lo8 r, lo8 (t.size : Int)] ((w.alloc (.cells #[.int .i64 c, .int .i64 r, .string t] 25)).alloc (.cells #[.int .u8 (c % 256), .int .u8 (r % 256), .int .u8 ((t.size : Int) % 256)] 5)) := by
    have h := BV.made (w := w) (Bw.al w (.cells #[.int .i64 c, .int .i64 r, .string t] 25)) [lo8 c, lo8 r, lo8 (t.size : Int)] 3 rfl (by decide) #[.int .u8 (c % 256), .int .u8 (r % 256), .int .u8 ((t.size : Int) % 256)] (by simp [bys, lo8_is])
    simpa using h
  obtain ⟨v3, w3, r3, B3⟩ := HB.str t (by simp; omega)
  have B4 : BV w v3 (enB c r t) w3 := B3
  obtain ⟨p3, c3, rfl, ⟨h0, -⟩ | ⟨g3, rfl, hc3⟩⟩ := B4.form
  · rw [enB_length] at h0; omega
  have H4 : Hid (BV w (.slice (some ⟨g3, 0, none⟩) (enB c r t).length c3) (enB c r t) w3) := B4
  obtain ⟨n3, en3⟩ : ∃ n, (enB c r t).length = n := ⟨_, rfl⟩
  have HN : Hid ((enB c r t).length = n3) := en3
  rw [en3] at r3 H4
  have hn3 : n3 ≤ 70368744177664 + 3 := by rw [← en3, enB_length]; omega
  have hn9 : (n3 : Int) ≤ 70368744177667 := by omega
  have HR3 : Hid ((Builtin.append_ #[29, 9] 29 #[.slice (some ⟨w.heap.size + 1, 0, none⟩) 3 3, .string t]).run Tryz.prog ((w.alloc (.cells #[.int .i64 c, .int .i64 r, .string t] 25)).alloc (.cells #[.int .u8 (c % 256), .int .u8 (r % 256), .int .u8 ((t.size : Int) % 256)] 5)) = .ok (.slice (some ⟨g3, 0, none⟩) n3 c3) w3) := r3
  clear B3 B4 HB en3 hc3 r3
  go_upto_block 0 with (first | (at_builtin; refine wpList_append_eq rfl _ _ 29 9 rfl _ _ _ _ rfl rfl HR3.out ?_))
  clear HR3
  go_cut [4] (fun s4 wx => s4 = .int .i64 (smN (enB c r t) : Int) ∧ w3 = wx)
  case first =>
    go_wp2_with fail
    go_loopw [4, 5] (fun s4 s5 wr => ∃ i s : Nat, s5 = .int .i64 (i : Int) ∧ i ≤ n3 ∧ s4 = .int .i64 (s : Int) ∧ s < 65521 ∧ Hid (s = smN ((enB c r t).take i)) ∧ w3 = wr) (fun _ s5 _ => n3 - (intOf s5).toNat)
    case atStart => exact ⟨0, 1, rfl, Nat.zero_le _, rfl, by decide, rfl, rfl⟩
    case round =>
      obtain ⟨i, s, rfl, hi, rfl, hs, HS, rfl⟩ := hrel
      by_cases hlt : i < n3
      · have hlt' : (i : Int) < (n3 : Int) := by omega
        have hi0 : (0 : Int) ≤ (i : Int) := by omega
        obtain ⟨x, hx⟩ : ∃ x, (enB c r t)[i]? = some x := ⟨_, List.getElem?_eq_getElem (by rw [HN.out]; exact hlt)⟩
        have c1 := H4.out.cell hx
        have hx9 : (x.toNat : Int) < 256 := by have := x.toNat_lt; omega
        have hx0 : (0 : Int) ≤ (x.toNat : Int) := by omega
        have hs9 : (s : Int) < 65521 := by omega
        have hs0 : (0 : Int) ≤ (s : Int) := by omega
        have HS2 : Hid (stS s x = smN ((enB c r t).take (i + 1))) := by
          show _ = _
          rw [List.take_add_one, hx, Option.toList_some, smN_snoc, HS.out]
        have HE : Hid (((s : Int) * 257 + (x.toNat : Int)) % 65521 = ((stS s x : Nat) : Int)) := by
          show _ = _
          unfold stS
          omega
        clear hx
        go_wp2_with fail
        exact ⟨⟨i + 1, stS s x, rfl, hlt, by rw [HE.out], Nat.mod_lt _ (by decide), HS2, by first | rfl | trivial⟩, by simp [intOf]; omega⟩
      · have hlt' : ¬ (i : Int) < (n3 : Int) := by omega
        obtain rfl : i = n3 := by omega
        have HS2 : Hid ((.int .i64 (s : Int) : Value) = .int .i64 (smN (enB c r t) : Int)) := by
          show _ = _
          rw [HS.out, List.take_of_length_le (by rw [HN.out]; exact Nat.le_refl _)]
        go_wp2_with fail
        go_meet
        case rel => exact ⟨HS2.out, rfl⟩
  case rest =>
  obtain ⟨rfl, rfl⟩ := hcut
  apply_assumption
  obtain ⟨s, hs⟩ : ∃ s, smN (enB c r t) = s := ⟨_, rfl⟩
  have HS : Hid (smN (enB c r t) = s) := hs
  have hs9 : (s : Int) < 65521 := by have := smN_lt (enB c r t); omega
  have hs0 : (0 : Int) ≤ (s : Int) := by omega
  obtain ⟨g4, c4, w4, r4, B4⟩ := H4.out.more [UInt8.ofNat (s % 256), UInt8.ofNat (s / 256)] 2 rfl (by decide) (by rw [HN.out]; omega) #[.int .u8 ((s : Int) % 256), .int .u8 ((s : Int) / 256)] (by
    have h1 : ((UInt8.ofNat (s % 256)).toNat : Int) = (s : Int) % 256 := by rw [UInt8.toNat_ofNat']; omega
    have h2 : ((UInt8.ofNat (s / 256)).toNat : Int) = (s : Int) / 256 := by rw [UInt8.toNat_ofNat']; omega
    rw [← h1, ← h2]
    rfl)
  rw [HN.out] at r4 B4
  have HO : Hid (EnO w c r t (.returned (.slice (some ⟨g4, 0, none⟩) (n3 + 2) c4)) w4) := by
    refine ⟨_, rfl, ?_⟩
    unfold enL
    rw [HS.out]
    exact B4
  have HR4 : Hid ((Builtin.append_ #[29, 29] 29 #[.slice (some ⟨g3, 0, none⟩) n3 c3, .slice (some ⟨w3.heap.size, 0, none⟩) 2 2]).run Tryz.prog (w3.alloc (.cells #[.int .u8 ((s : Int) % 256), .int .u8 ((s : Int) / 256)] 5)) = .ok (.slice (some ⟨g4, 0, none⟩) (n3 + 2) c4) w4) := r4
  rw [hs]
  clear hs r4 B4
  go_wp2_with (first | (at_builtin; refine wpList_append_eq rfl _ _ 29 29 rfl _ _ _ _ rfl rfl HR4.out ?_))
  exact bodyPost_ret (v := .slice (some ⟨g4, 0, none⟩) (n3 + 2) c4) (by simp [results, Tryz.results8, go_sem]) rfl HO
end Go.Proofs.YtokfijkhflfioaaGreatDoor.fw

/- sccsame.Bytes: whether two lists of bytes are the same, walked. Conditions: as each theorem says. -/
namespace Go.Proofs.YtokfijkhflfioaaGreatDoor.fw
open Go.RowKit Go.Sort
theorem drawn_bw (w : World) (m : Nat) : Bw w (w.drewN m) := ⟨rfl, rfl, rfl, Nat.le_refl _, fun _ _ => rfl⟩
/-- A list of bytes that lies somewhere. -/
def BM (w : World) (v : Value) (xs : List UInt8) : Prop := ∃ p c, v = .slice p xs.length c ∧ ∀ (i : Nat) (x : UInt8), xs[i]? = some x → ∃ g o, p = some ⟨g, o, none⟩ ∧ w.cell? ⟨g, o + i, none⟩ = some (.int .u8 (x.toNat : Int))
theorem BV.bm {w : World} {v : Value} {xs : List UInt8} {wx : World} (h : BV w v xs wx) : BM wx v xs := by
  obtain ⟨p, c, rfl, ⟨h0, rfl, rfl⟩ | ⟨g, rfl, hc⟩⟩ := h.form
  · refine ⟨none, 0, rfl, fun i x hx => ?_⟩
    rw [List.eq_nil_of_length_eq_zero h0] at hx
    cases hx
  · exact ⟨_, _, rfl, fun i x hx => ⟨g, 0, rfl, by rw [Nat.zero_add]; exact h.cell hx⟩⟩
theorem BM.next {w w' : World} {v : Value} {xs : List UInt8} (h : BM w v xs) (hb : Bw w w') : BM w' v xs := by
  obtain ⟨p, c, e, h⟩ := h
  refine ⟨p, c, e, fun i x hx => ?_⟩
  obtain ⟨g, o, e1, h1⟩ := h i x hx
  exact ⟨g, o, e1, by rw [hb.cell (p := ⟨g, _, none⟩) (World.block_lt_of_cell? w _ h1)]; exact h1⟩
set_option maxRecDepth 1000000 in
set_option maxHeartbeats 8000000 in
theorem rbytes_any (u v : Value) (xs ys : List UInt8) (w : World) (hu : BM w u xs) (hv : BM w v ys) (hl : xs.length ≤ 281474976710656) : Calls Tryz.prog 11 #[u, v] w fun e w' => e = .returned (.bool (decide (xs = ys))) ∧ Bw w w' := by
  have HUB : Hid (BM w u xs) := hu
  have HVB : Hid (BM w v ys) := hv
  obtain ⟨p, c, rfl, -⟩ := hu
  obtain ⟨q, d, rfl, -⟩ := hv
  have HU : Hid (∀ wx, Bw w wx → ∀ (i : Nat) (x : UInt8), xs[i]? = some x → ∃ g o, p = some ⟨g, o, none⟩ ∧ wx.cell? ⟨g, o + i, none⟩ = some (.int .u8 (x.toNat : Int))) := fun wx hb i x hx => by
    obtain ⟨p', c', e, h⟩ := HUB.out.next hb
    injection e with e1
    subst e1
    exact h i x hx
  have HV : Hid (∀ wx, Bw w wx → ∀ (i : Nat) (x : UInt8), ys[i]? = some x → ∃ g o, q = some ⟨g, o, none⟩ ∧ wx.cell? ⟨g, o + i, none⟩ = some (.int .u8 (x.toNat : Int))) := fun wx hb i x hx => by
    obtain ⟨p', c', e, h⟩ := HVB.out.next hb
    injection e with e1
    subst e1
    exact h i x hx
  clear HUB HVB
  have hl9 : (xs.length : Int) ≤ 281474976710656 := by omega
  by_cases hne : xs.length = ys.length
  · have HL : Hid (ys.length = xs.length) := hne.symm
    rw [← hne]
    clear hne
    obtain ⟨R, hR⟩ : ∃ R, decide (xs = ys) = R := ⟨_, rfl⟩
    have HR : Hid (decide (xs = ys) = R) := hR
    rw [hR]
    clear hR
    obtain ⟨n, hn⟩ : ∃ n, xs.length = n := ⟨_, rfl⟩
    have HN : Hid (xs.length = n) := hn
    rw [hn] at hl9 HL ⊢
    clear hn hl
    go_enter Tryz.func11, Tryz.ntmps11
    go_wp2_with fail
    go_loopw [5] (fun s5 wr => ∃ i : Nat, s5 = .int .i64 (i : Int) ∧ i ≤ n ∧ Hid (Bw w wr) ∧ Hid (xs.take i = ys.take i)) (fun s5 _ => n - (intOf s5).toNat)
    case atStart => exact ⟨0, rfl, Nat.zero_le _, Below.refl _ _, by show _ = _; simp⟩
    case round =>
      obtain ⟨i, rfl, hi, HB, HT⟩ := hrel
      by_cases hlt : i < n
      · have hlt' : (i : Int) < (n : Int) := by omega
        have hi0 : (0 : Int) ≤ (i : Int) := by omega
        obtain ⟨x, hx⟩ : ∃ x, xs[i]? = some x := ⟨_, List.getElem?_eq_getElem (by rw [HN.out]; exact hlt)⟩
        obtain ⟨y, hy⟩ : ∃ y, ys[i]? = some y := ⟨_, List.getElem?_eq_getElem (by rw [HL.out]; exact hlt)⟩
        obtain ⟨g, o, ep, c1⟩ := HU.out wr HB.out i x hx
        obtain ⟨g2, o2, eq, c2⟩ := HV.out wr HB.out i y hy
        have HX : Hid (xs[i]? = some x ∧ ys[i]? = some y) := ⟨hx, hy⟩
        clear hx hy HU HV
        subst ep
        subst eq
        have y1q : ∀ m, (wr.drewN m).cell? ⟨g, o + i, none⟩ = some (.int .u8 (x.toNat : Int)) := fun m => c1
        have y2q : ∀ m, (wr.drewN m).cell? ⟨g2, o2 + i, none⟩ = some (.int .u8 (y.toNat : Int)) := fun m => c2
        clear c1 c2
        by_cases hxy : x = y
        · subst hxy
          have HT2 : Hid (xs.take (i + 1) = ys.take (i + 1)) := by
            show _ = _
            rw [List.take_add_one, List.take_add_one, HX.out.1, HX.out.2, HT.out]
          go_wp2_with fail
          go_quiet (fail)
          go_wp2_with fail
          exact ⟨⟨i + 1, by simp, hlt, HB.out.tr (drawn_bw _ _), HT2⟩, by simp [intOf]; omega⟩
        · have hxn : ((x.toNat : Int) != (y.toNat : Int)) = true := by
            simp only [bne_iff_ne, ne_eq]
            exact fun e => hxy (UInt8.toNat_inj.1 (by omega))
          have HF : Hid (R = false) := by
            show _ = _
            rw [← HR.out]
            exact decide_eq_false fun e => hxy (by
              have h1 := HX.out.1
              rw [e, HX.out.2] at h1
              exact (Option.some.inj h1).symm)
          go_wp2_with fail
          go_quiet (fail)
          go_wp2_with fail
          go_ret
          exact ⟨by rw [HF.out]; rfl, HB.out.tr (drawn_bw _ _)⟩
      · have hlt' : ¬ (i : Int) < (n : Int) := by omega
        obtain rfl : i = n := by omega
        have HF : Hid (R = true) := by
          show _ = _
          rw [← HR.out]
          have h1 := HT.out
          rw [List.take_of_length_le (by rw [HN.out]; exact Nat.le_refl _), List.take_of_length_le (by rw [HL.out]; exact Nat.le_refl _)] at h1
          exact decide_eq_true h1
        go_wp2_with fail
        go_ret
        exact ⟨by rw [HF.out]; rfl, HB.out⟩
  · have hne' : ¬ (xs.length : Int) = (ys.length : Int) := by omega
    have HF : Hid (decide (xs = ys) = false) := decide_eq_false fun e => hne (by rw [e])
    go_enter Tryz.func11, Tryz.ntmps11
    go_wp2_with fail
    go_ret
    exact ⟨by rw [HF.out]; rfl, Below.refl _ _⟩
end Go.Proofs.YtokfijkhflfioaaGreatDoor.fw

/- Bytes appended to bytes; entries one behind the other, and what is whole of them, plain. Nothing is walked here. Conditions: as each theorem says. -/
namespace Go.Proofs.YtokfijkhflfioaaGreatDoor.fw
open Go.RowKit Go.Sort
theorem BV.app {w : World} {v u : Value} {xs ys : List UInt8} {wx : World} (h : BV w v xs wx) (hu : BM wx u ys) (hy : 0 < ys.length) (hl : xs.length + ys.length ≤ 140737488355328) :
    ∃ g c w', (Builtin.append_ #[29, 29] 29 #[v, u]).run Tryz.prog wx = .ok (.slice (some ⟨g, 0, none⟩) (xs.length + ys.length) c) w' ∧ BV w (.slice (some ⟨g, 0, none⟩) (xs.length + ys.length) c) (xs ++ ys) w' := by
  obtain ⟨i0, hi, hz0, hz1, hz2⟩ := info_parts info5
  have hmax : maxLen = 9223372036854775807 := rfl
  obtain ⟨p, d, rfl, hc⟩ := hu
  obtain ⟨gq, oq, rfl, -⟩ := hc 0 ys[0] (List.getElem?_eq_getElem hy)
  have hnews : ∀ (j : Nat) (x : Value), (bys ys)[j]? = some x → wx.cell? ((⟨gq, oq, none⟩ : Addr).add j) = some x := fun j x hx => by
    unfold bys at hx
    rw [List.getElem?_map] at hx
    cases e : ys[j]? with
    | none => rw [e] at hx; cases hx
    | some y =>
      rw [e] at hx
      simp only [Option.map_some, Option.some.injEq] at hx
      subst hx
      obtain ⟨g2, o2, e2, c2⟩ := hc j y e
      obtain ⟨rfl, rfl⟩ : gq = g2 ∧ oq = o2 := by simpa using e2
      have hadd : (⟨gq, oq, none⟩ : Addr).add j = ⟨gq, oq + j, none⟩ := by unfold Addr.add; split <;> simp_all
      rw [hadd]
      exact c2
  obtain ⟨g, c, w', r1, r2, r3, -, -⟩ := run_append_lies (P := Tryz.prog) (w := wx) 29 29 w.heap.size 5 i0 (.int .u8 0) 1 1 Tryz.underlying29 hi hz0 hz1 hz2 rfl (by decide) v xs.length (bys xs) h.own ⟨gq, oq, none⟩ ys.length d (bys ys) (by simp [bys]) hnews (by simp [bys, Value.oneCell']) hy (by omega) (by omega) h.below.size _ rfl
  refine ⟨g, c, w', r1, ⟨?_, h.below.grown r3 h.below.size (fun q hq => (h.own.lt q hq).1)⟩⟩
  have e : bys (xs ++ ys) = bys xs ++ bys ys := by simp [bys]
  rw [e, List.length_append]
  exact r2
/-- The sum's two bytes. -/
def sm2 (l : List UInt8) : List UInt8 := [UInt8.ofNat (smN l % 256), UInt8.ofNat (smN l / 256)]
theorem enL_is (c r : Int) (t : ByteArray) : enL c r t = enB c r t ++ sm2 (enB c r t) := rfl
/-- The first whole entry of bytes: its column, its row, its text, how many bytes it has. -/
def ent (b : List UInt8) : Option (UInt8 × UInt8 × List UInt8) :=
  match b with
  | c :: r :: n :: b => if n.toNat + 2 ≤ b.length ∧ (b.drop n.toNat).take 2 = sm2 (c :: r :: n :: b.take n.toNat) then some (c, r, b.take n.toNat) else none
  | _ => none
/-- An entry that was written is read as it was, whatever stands behind it. -/
theorem ent_back (c r : Int) (t : ByteArray) (ht : t.size < 256) (b : List UInt8) : ent (enL c r t ++ b) = some (lo8 c, lo8 r, t.toList) := by
  have hn : (lo8 (t.size : Int)).toNat = t.size := by have := lo8_is (t.size : Int); omega
  have hs : t.toList.length = t.size := size_list t
  have e : enL c r t ++ b = lo8 c :: lo8 r :: lo8 (t.size : Int) :: (t.toList ++ (sm2 (enB c r t) ++ b)) := by
    rw [enL_is]
    simp [enB]
  have e2 : enB c r t = lo8 c :: lo8 r :: lo8 (t.size : Int) :: t.toList := rfl
  rw [e]
  unfold ent
  simp only
  rw [hn, ← hs, List.take_left, List.drop_left, hs, ← e2]
  rw [if_pos]
  constructor
  · simp only [List.length_append, sm2, List.length_cons, List.length_nil, hs]; omega
  · exact List.take_left' rfl
/-- What is too short holds no whole entry. -/
theorem ent_short (c r : Int) (t : ByteArray) (ht : t.size < 256) (k : Nat) (hk : k < t.size + 5) : ent ((enL c r t).take k) = none := by
  have hn : (lo8 (t.size : Int)).toNat = t.size := by have := lo8_is (t.size : Int); omega
  have hl := enL_length c r t
  have e2 : enL c r t = lo8 c :: lo8 r :: lo8 (t.size : Int) :: (t.toList ++ sm2 (enB c r t)) := by
    rw [enL_is]
    simp [enB]
  rw [e2] at hl ⊢
  simp only [List.length_cons] at hl
  match k with
  | 0 => rfl
  | 1 => rfl
  | 2 => rfl
  | k + 3 =>
    simp only [List.take_succ_cons]
    unfold ent
    simp only
    rw [hn, if_neg]
    intro hc
    have := hc.1
    rw [List.length_take] at this
    omega
end Go.Proofs.YtokfijkhflfioaaGreatDoor.fw

/- Package book: sum, put. Conditions: as each theorem says. -/
namespace Go.Proofs.YtokfijkhflfioaaGreatDoor.fw
open Go.RowKit Go.Sort
set_option maxRecDepth 1000000 in
set_option maxHeartbeats 8000000 in
theorem sum_any (v : Value) (xs : List UInt8) (w : World) (hv : BM w v xs) (hl : xs.length ≤ 281474976710656) : Calls Tryz.prog 33 #[v] w fun e w' => e = .returned (.int .i64 (smN xs : Int)) ∧ w' = w := by
  obtain ⟨p, c, rfl, hc⟩ := hv
  have HC : Hid (∀ (i : Nat) (x : UInt8), xs[i]? = some x → ∃ g o, p = some ⟨g, o, none⟩ ∧ w.cell? ⟨g, o + i, none⟩ = some (.int .u8 (x.toNat : Int))) := hc
  have hl9 : (xs.length : Int) ≤ 281474976710656 := by omega
  obtain ⟨n, hn⟩ : ∃ n, xs.length = n := ⟨_, rfl⟩
  have HN : Hid (xs.length = n) := hn
  rw [hn] at hl9 ⊢
  clear hn hl hc
  go_enter Tryz.func33, Tryz.ntmps33
  go_wp2_with fail
  go_loopw [3, 8] (fun s3 s8 wr => ∃ i s : Nat, s8 = .int .i64 (i : Int) ∧ i ≤ n ∧ s3 = .int .i64 (s : Int) ∧ s < 65521 ∧ Hid (s = smN (xs.take i)) ∧ w = wr) (fun _ s8 _ => n - (intOf s8).toNat)
  case atStart => exact ⟨0, 1, rfl, Nat.zero_le _, rfl, by decide, rfl, rfl⟩
  case round =>
    obtain ⟨i, s, rfl, hi, rfl, hs, HS, rfl⟩ := hrel
    by_cases hlt : i < n
    · have hlt' : (i : Int) < (n : Int) := by omega
      have hi0 : (0 : Int) ≤ (i : Int) := by omega
      obtain ⟨x, hx⟩ : ∃ x, xs[i]? = some x := ⟨_, List.getElem?_eq_getElem (by rw [HN.out]; exact hlt)⟩
      obtain ⟨g, o, ep, c1⟩ := HC.out i x hx
      have hx9 : (x.toNat : Int) < 256 := by have := x.toNat_lt; omega
      have hx0 : (0 : Int) ≤ (x.toNat : Int) := by omega
      have hs9 : (s : Int) < 65521 := by omega
      have hs0 : (0 : Int) ≤ (s : Int) := by omega
      have HS2 : Hid (stS s x = smN (xs.take (i + 1))) := by
        show _ = _
        rw [List.take_add_one, hx, Option.toList_some, smN_snoc, HS.out]
      have HE : Hid (((s : Int) * 257 + (x.toNat : Int)) % 65521 = ((stS s x : Nat) : Int)) := by
        show _ = _
        unfold stS
        omega
      clear hx HC
      subst ep
      go_wp2_with fail
      exact ⟨⟨i + 1, stS s x, rfl, hlt, by rw [HE.out], Nat.mod_lt _ (by decide), HS2, by first | rfl | trivial⟩, by simp [intOf]; omega⟩
    · have hlt' : ¬ (i : Int) < (n : Int) := by omega
      obtain rfl : i = n := by omega
      have HS2 : Hid ((.int .i64 (s : Int) : Value) = .int .i64 (smN xs : Int)) := by
        show _ = _
        rw [HS.out, List.take_of_length_le (by rw [HN.out]; exact Nat.le_refl _)]
      go_wp2_with fail
      go_ret
      exact ⟨by rw [← HS2.out]; rfl, by first | rfl | trivial⟩
theorem cells3q {w : World} {b : Nat} {a0 a1 a2 : Value} {t : TypeId} (h : w.heap[b]? = some (.cells #[a0, a1, a2] t (0, 0))) : w.cell? ⟨b, 0, none⟩ = some a0 ∧ w.cell? ⟨b, 1, none⟩ = some a1 ∧ w.cell? ⟨b, 2, none⟩ = some a2 := by simp [World.cell?, h]
/-- What is no list of bytes lies as it lay. -/
theorem kept_other {w w' : World} {v : Value} {base n : Nat} {xs : List Value} (h : w.ownsRow base 5 1 v n xs) (hg : w.grownBy w' v.ownBlock) {b : Nat} {o : Obj} (hb : w.heap[b]? = some o) (hno : ∀ cur, o ≠ .cells cur 5 (0, 0)) : w'.heap[b]? = some o := by
  refine (hg.block b (Array.getElem?_eq_some_iff.1 hb).1 ?_).trans hb
  rcases h.2 with ⟨rfl, -⟩ | ⟨g, cap, cur, rfl, -, h3, -⟩
  · exact fun e => by cases e
  · intro e
    have e2 : b = g := by simpa [Value.ownBlock] using e
    subst e2
    rw [hb] at h3
    exact hno cur (Option.some.inj h3)
theorem BV.moreK {w : World} {v : Value} {xs : List UInt8} {wx : World} (h : BV w v xs wx) (ys : List UInt8) (m : Nat) (hm : ys.length = m) (hm0 : 0 < m) (hl : xs.length + m ≤ 140737488355328) (cs : Array Value) (hcs : cs = (bys ys).toArray) :
    ∃ g c w', (Builtin.append_ #[29, 29] 29 #[v, .slice (some ⟨wx.heap.size, 0, none⟩) m m]).run Tryz.prog (wx.alloc (.cells cs 5)) = .ok (.slice (some ⟨g, 0, none⟩) (xs.length + m) c) w' ∧ BV w (.slice (some ⟨g, 0, none⟩) (xs.length + m) c) (xs ++ ys) w' ∧ ∀ (b : Nat) (o : Obj), wx.heap[b]? = some o → (∀ cur, o ≠ .cells cur 5 (0, 0)) → w'.heap[b]? = some o := by
  obtain ⟨i0, hi, hz0, hz1, hz2⟩ := info_parts info5
  have hmax : maxLen = 9223372036854775807 := rfl
  subst hcs
  have h1 := h.next (Bw.al wx (.cells (bys ys).toArray 5))
  obtain ⟨g, c, w', r1, r2, r3, -, -⟩ := run_append_lies (P := Tryz.prog) (w := wx.alloc (.cells (bys ys).toArray 5)) 29 29 w.heap.size 5 i0 (.int .u8 0) 1 1 Tryz.underlying29 hi hz0 hz1 hz2 rfl (by decide) v xs.length (bys xs) h1.own ⟨wx.heap.size, 0, none⟩ m m (bys ys) (by simp [bys, hm]) (World.news_of_block (heap_alloc_new wx _)) (by simp [bys, Value.oneCell']) (by omega) (by omega) (by omega) h1.below.size _ rfl
  refine ⟨g, c, w', r1, ⟨?_, h1.below.grown r3 h1.below.size (fun q hq => (h1.own.lt q hq).1)⟩, fun b o hb hno => kept_other h1.own r3 ((Below.heap_alloc wx _ b (Array.getElem?_eq_some_iff.1 hb).1).trans hb) hno⟩
  have e : bys (xs ++ ys) = bys xs ++ bys ys := by simp [bys]
  rw [e, List.length_append, hm]
  exact r2
theorem BV.strK {w : World} {v : Value} {xs : List UInt8} {wx : World} (h : BV w v xs wx) (s : ByteArray) (hl : xs.length + s.size ≤ 140737488355328) :
    ∃ v' w', (Builtin.append_ #[29, 9] 29 #[v, .string s]).run Tryz.prog wx = .ok v' w' ∧ BV w v' (xs ++ s.toList) w' ∧ ∀ (b : Nat) (o : Obj), wx.heap[b]? = some o → (∀ cur, o ≠ .cells cur 5 (0, 0)) → w'.heap[b]? = some o := by
  obtain ⟨i0, hi, hz0, hz1, hz2⟩ := info_parts info5
  have hmax : maxLen = 9223372036854775807 := rfl
  obtain ⟨v', w', r1, r2, r3, -⟩ := Go.Lib.run_append_own_string (P := Tryz.prog) (w := wx) w.heap.size 29 9 29 5 i0 Tryz.underlying29 Tryz.underlying9 hi hz0 hz1 hz2 v xs.length (bys xs) h.own s (by omega) hl h.below.size
  refine ⟨v', w', r1, ⟨?_, h.below.grown r3 h.below.size (fun q hq => (h.own.lt q hq).1)⟩, fun b o hb hno => kept_other h.own r3 hb hno⟩
  have e : bys (xs ++ s.toList) = bys xs ++ Go.Lib.strCells s := by rw [strCells_bys]; simp [bys]
  rw [e, List.length_append, size_list]
  exact r2
set_option maxRecDepth 1000000 in
set_option maxHeartbeats 8000000 in
theorem put_any (w : World) (v : Value) (xs : List UInt8) (c r : Int) (t : ByteArray) (wx : World) (h : BV w v xs wx) (hx : xs.length ≤ 35184372088832) (ht : t.size ≤ 35184372088832) :
    Calls Tryz.prog 21 #[v, .agg #[.int .i64 c, .int .i64 r, .string t]] wx fun e w' => ∃ v', e = .returned v' ∧ BV w v' (xs ++ enL c r t) w' := by
  have ht9 : (t.size : Int) ≤ 35184372088832 := by omega
  have hx9 : (xs.length : Int) ≤ 35184372088832 := by omega
  have hB : Bw wx (wx.alloc (.cells #[.int .i64 c, .int .i64 r, .string t] 25)) := Bw.al wx _
  obtain ⟨g2, c2, w2, r2, B2, k2⟩ := (h.next hB).moreK [lo8 c, lo8 r, lo8 (t.size : Int)] 3 rfl (by decide) (by omega) #[.int .u8 (c % 256), .int .u8 (r % 256), .int .u8 ((t.size : Int) % 256)] (by simp [bys, lo8_is])
  have b2 := k2 wx.heap.size _ (heap_alloc_new wx _) (fun cur e => by cases e)
  clear k2
  obtain ⟨v3, w3, r3, B3, k3⟩ := B2.strK t (by simp; omega)
  have e3 : xs ++ [lo8 c, lo8 r, lo8 (t.size : Int)] ++ t.toList = xs ++ enB c r t := by unfold enB; simp
  rw [e3] at B3
  have hnB := enB_length c r t
  have hn3 : (xs ++ enB c r t).length = xs.length + (t.size + 3) := by rw [List.length_append, hnB]
  obtain ⟨p3, c3, rfl, ⟨h0, -⟩ | ⟨g3, rfl, hc3⟩⟩ := B3.form
  · rw [hn3] at h0; omega
  have BM3 : BM w3 (.slice (some ⟨g3, xs.length, none⟩) (t.size + 3) (c3 - xs.length)) (enB c r t) := by
    obtain ⟨p, c', e, h3⟩ := B3.bm
    injection e with e1 e2 e4
    subst e1
    refine ⟨_, _, by rw [hnB], fun i x hx => ?_⟩
    obtain ⟨g, o, e5, h5⟩ := h3 (xs.length + i) x (by rw [List.getElem?_append_right (Nat.le_add_right _ _), Nat.add_sub_cancel_left]; exact hx)
    cases e5
    exact ⟨_, _, rfl, by rw [Nat.zero_add] at h5; exact h5⟩
  have HS : Hid (Calls Tryz.prog 33 #[.slice (some ⟨g3, xs.length, none⟩) (t.size + 3) (c3 - xs.length)] w3 fun e w' => e = .returned (.int .i64 (smN (enB c r t) : Int)) ∧ w' = w3) := sum_any _ _ w3 BM3 (by rw [hnB]; omega)
  obtain ⟨s, hs⟩ : ∃ s, smN (enB c r t) = s := ⟨_, rfl⟩
  have hs9 : (s : Int) < 65521 := by have := smN_lt (enB c r t); omega
  have hs0 : (0 : Int) ≤ (s : Int) := by omega
  obtain ⟨g4, c4, w4, r4, B4, -⟩ := B3.moreK [UInt8.ofNat (s % 256), UInt8.ofNat (s / 256)] 2 rfl (by decide) (by rw [hn3]; omega) #[.int .u8 ((s : Int) % 256), .int .u8 ((s : Int) / 256)] (by
    have h1 : ((UInt8.ofNat (s % 256)).toNat : Int) = (s : Int) % 256 := by rw [UInt8.toNat_ofNat']; omega
    have h2 : ((UInt8.ofNat (s / 256)).toNat : Int) = (s : Int) / 256 := by rw [UInt8.toNat_ofNat']; omega
    rw [← h1, ← h2]
    rfl)
  have HO : Hid (BV w (.slice (some ⟨g4, 0, none⟩) (xs.length + (t.size + 3) + 2) c4) (xs ++ enL c r t) w4) := by
    show BV _ _ _ _
    rw [hn3] at B4
    rw [enL_is, ← List.append_assoc]
    unfold sm2
    rw [hs]
    exact B4
  rw [hn3] at r4 r3 hc3
  rw [hs] at HS
  obtain ⟨p0, c0, rfl, hp0⟩ := h.form
  obtain ⟨y0, y1, y2⟩ := cells3q b2
  have HR2 : Hid ((Builtin.append_ #[29, 29] 29 #[.slice p0 xs.length c0, .slice (some ⟨wx.heap.size + 1, 0, none⟩) 3 3]).run Tryz.prog ((wx.alloc (.cells #[.int .i64 c, .int .i64 r, .string t] 25)).alloc (.cells #[.int .u8 (c % 256), .int .u8 (r % 256), .int .u8 ((t.size : Int) % 256)] 5)) = .ok (.slice (some ⟨g2, 0, none⟩) (xs.length + 3) c2) w2) := by
    show _ = _
    simpa using r2
  have HR3 : Hid ((Builtin.append_ #[29, 9] 29 #[.slice (some ⟨g2, 0, none⟩) (xs.length + 3) c2, .string t]).run Tryz.prog w2 = .ok (.slice (some ⟨g3, 0, none⟩) (xs.length + (t.size + 3)) c3) w3) := r3
  have HR4 : Hid ((Builtin.append_ #[29, 29] 29 #[.slice (some ⟨g3, 0, none⟩) (xs.length + (t.size + 3)) c3, .slice (some ⟨w3.heap.size, 0, none⟩) 2 2]).run Tryz.prog (w3.alloc (.cells #[.int .u8 ((s : Int) % 256), .int .u8 ((s : Int) / 256)] 5)) = .ok (.slice (some ⟨g4, 0, none⟩) (xs.length + (t.size + 3) + 2) c4) w4) := r4
  clear r2 r3 r4 B2 B3 B4 b2 BM3 e3 hs
  go_enter Tryz.func21, Tryz.ntmps21
  go_upto_region 3 with (first | (at_builtin; refine wpList_append_eq rfl _ _ 29 29 rfl _ _ _ _ rfl rfl HR2.out ?_))
  clear HR2
  go_upto_region 4 with (first | (at_builtin; refine wpList_append_eq rfl _ _ 29 9 rfl _ _ _ _ rfl rfl HR3.out ?_))
  clear HR3
  generalize hxn : xs.length = n at *
  generalize htm : t.size = m at *
  clear hp0 h hnB hn3 k3
  have hsl : (n : Int) ≤ ((n + (m + 3) : Nat) : Int) := by omega
  go_upto_region 5 with (first | (go_at_call 33; refine HS.out.mono ?_; rintro e w5 ⟨rfl, rfl⟩))
  go_wp2_with (first | (at_builtin; refine wpList_append_eq rfl _ _ 29 29 rfl _ _ _ _ rfl rfl HR4.out ?_))
  go_ret
  exact ⟨_, rfl, HO.out⟩
end Go.Proofs.YtokfijkhflfioaaGreatDoor.fw

/- What is whole of bytes, done one entry after the other, plain: what was written is read; a beginning of it reads as a beginning. Nothing is walked here. Conditions: as each theorem says. -/
namespace Go.Proofs.YtokfijkhflfioaaGreatDoor.fw
open Go.RowKit Go.Sort
/-- What is whole of bytes, as long as f takes it: what comes of it, and how many bytes these are. -/
def opn {S : Type} (f : S → UInt8 → UInt8 → List UInt8 → Option S) : Nat → S → List UInt8 → S × Nat
  | 0, s, _ => (s, 0)
  | k + 1, s, b =>
    match ent b with
    | none => (s, 0)
    | some (c, r, t) =>
      match f s c r t with
      | none => (s, 0)
      | some s' => ((opn f k s' (b.drop (t.length + 5))).1, t.length + 5 + (opn f k s' (b.drop (t.length + 5))).2)
abbrev En := Int × Int × ByteArray
def enO (x : En) : List UInt8 := enL x.1 x.2.1 x.2.2
def enS (l : List En) : List UInt8 := (l.map enO).flatten
theorem enS_cons (x : En) (l : List En) : enS (x :: l) = enO x ++ enS l := by simp [enS]
theorem enS_snoc (l : List En) (x : En) : enS (l ++ [x]) = enS l ++ enO x := by simp [enS]
theorem enO_length (x : En) : (enO x).length = x.2.2.size + 5 := enL_length _ _ _
def runs {S : Type} (f : S → UInt8 → UInt8 → List UInt8 → Option S) : S → List En → Option S
  | s, [] => some s
  | s, x :: l =>
    match f s (lo8 x.1) (lo8 x.2.1) x.2.2.toList with
    | none => none
    | some s' => runs f s' l
theorem opn_one {S : Type} (f : S → UInt8 → UInt8 → List UInt8 → Option S) (x : En) (hx : x.2.2.size < 256) {s s' : S} (h : f s (lo8 x.1) (lo8 x.2.1) x.2.2.toList = some s') (b : List UInt8) (k : Nat) :
    opn f (k + 1) s (enO x ++ b) = ((opn f k s' b).1, (enO x).length + (opn f k s' b).2) := by
  have hs : x.2.2.toList.length = x.2.2.size := size_list _
  have hd : (enO x ++ b).drop (x.2.2.toList.length + 5) = b := by
    rw [hs, ← enO_length x]
    exact List.drop_left
  show (match ent (enO x ++ b) with | none => (s, 0) | some (c, r, t) => _) = _
  unfold enO
  rw [ent_back _ _ _ hx]
  simp only [h]
  have hd2 : (enL x.1 x.2.1 x.2.2 ++ b).drop (x.2.2.toList.length + 5) = b := hd
  rw [hd2, enL_length, hs]
/-- What was written is read, whatever stands behind it. -/
theorem opn_all {S : Type} (f : S → UInt8 → UInt8 → List UInt8 → Option S) (l : List En) (hl : ∀ x ∈ l, x.2.2.size < 256) {s s' : S} (h : runs f s l = some s') (b : List UInt8) (k : Nat) :
    opn f (k + l.length) s (enS l ++ b) = ((opn f k s' b).1, (enS l).length + (opn f k s' b).2) := by
  induction l generalizing s with
  | nil =>
    obtain rfl := Option.some.inj h
    simp [enS]
  | cons x l ih =>
    unfold runs at h
    cases e : f s (lo8 x.1) (lo8 x.2.1) x.2.2.toList with
    | none => rw [e] at h; cases h
    | some s1 =>
      rw [e] at h
      have h2 := ih (fun y hy => hl y (List.mem_cons_of_mem _ hy)) h
      rw [enS_cons, List.append_assoc, List.length_cons, ← Nat.add_assoc, opn_one f x (hl x List.mem_cons_self) e, h2, List.length_append]
      simp [Nat.add_assoc]
/-- A beginning of what was written reads as a beginning. -/
theorem opn_cut {S : Type} (f : S → UInt8 → UInt8 → List UInt8 → Option S) (l : List En) (hl : ∀ x ∈ l, x.2.2.size < 256) {s s' : S} (h : runs f s l = some s') (n k : Nat) (hn : n ≤ (enS l).length) (hk : l.length ≤ k) :
    ∃ j s1, j ≤ l.length ∧ runs f s (l.take j) = some s1 ∧ opn f k s ((enS l).take n) = (s1, (enS (l.take j)).length) ∧ (enS (l.take j)).length ≤ n := by
  induction l generalizing s n k with
  | nil =>
    refine ⟨0, s, Nat.le_refl _, rfl, ?_, Nat.zero_le _⟩
    have : (enS []).take n = [] := by simp [enS]
    rw [this]
    cases k with
    | zero => rfl
    | succ k => rfl
  | cons x l ih =>
    unfold runs at h
    cases e : f s (lo8 x.1) (lo8 x.2.1) x.2.2.toList with
    | none => rw [e] at h; cases h
    | some s1 =>
      rw [e] at h
      cases k with
      | zero => simp at hk
      | succ k =>
        by_cases hx : n < x.2.2.size + 5
        · refine ⟨0, s, Nat.zero_le _, rfl, ?_, Nat.zero_le _⟩
          have ht : (enS (x :: l)).take n = (enL x.1 x.2.1 x.2.2).take n := by
            rw [enS_cons, List.take_append_of_le_length (by rw [enO_length]; omega)]
            rfl
          rw [ht]
          show (match ent _ with | none => (s, 0) | some (c, r, t) => _) = _
          rw [ent_short _ _ _ (hl x List.mem_cons_self) n hx]
          rfl
        · have hlen := enO_length x
          have ht : (enS (x :: l)).take n = enO x ++ (enS l).take (n - (enO x).length) := by
            rw [enS_cons, List.take_append, List.take_of_length_le (by omega)]
          rw [enS_cons, List.length_append] at hn
          obtain ⟨j, s2, h1, h2, h3, h4⟩ := ih (fun y hy => hl y (List.mem_cons_of_mem _ hy)) h (n - (enO x).length) k (by omega) (by simp at hk; omega)
          refine ⟨j + 1, s2, by simp; omega, ?_, ?_, ?_⟩
          · rw [List.take_succ_cons]
            unfold runs
            rw [e]
            exact h2
          · rw [ht, opn_one f x (hl x List.mem_cons_self) e, h3, List.take_succ_cons, enS_cons, List.length_append]
          · rw [List.take_succ_cons, enS_cons, List.length_append]
            omega
end Go.Proofs.YtokfijkhflfioaaGreatDoor.fw

/- What is whole of bytes, plain: how many bytes these are at most, that enough rounds are enough, and what holds throughout. Nothing is walked here. Conditions: as each theorem says. -/
namespace Go.Proofs.YtokfijkhflfioaaGreatDoor.fw
open Go.RowKit Go.Sort
theorem ent_some {b : List UInt8} {c r : UInt8} {t : List UInt8} (h : ent b = some (c, r, t)) : ∃ n d, b = c :: r :: n :: (t ++ (sm2 (c :: r :: n :: t) ++ d)) ∧ n.toNat = t.length := by
  unfold ent at h
  match b, h with
  | c' :: r' :: n :: b, h =>
    simp only at h
    by_cases hc : n.toNat + 2 ≤ b.length ∧ (b.drop n.toNat).take 2 = sm2 (c' :: r' :: n :: b.take n.toNat)
    · rw [if_pos hc] at h
      injection h with h
      injection h with h1 h
      injection h with h2 h3
      subst h1 h2 h3
      refine ⟨n, (b.drop n.toNat).drop 2, ?_, by rw [List.length_take]; omega⟩
      rw [← hc.2, List.take_append_drop, List.take_append_drop]
    · rw [if_neg hc] at h
      cases h
theorem ent_length {b : List UInt8} {c r : UInt8} {t : List UInt8} (h : ent b = some (c, r, t)) : t.length + 5 ≤ b.length ∧ t.length < 256 := by
  obtain ⟨n, d, rfl, hn⟩ := ent_some h
  have := n.toNat_lt
  simp [sm2]
  omega
theorem opn_le {S : Type} (f : S → UInt8 → UInt8 → List UInt8 → Option S) (k : Nat) : ∀ (s : S) (b : List UInt8), (opn f k s b).2 ≤ b.length := by
  induction k with
  | zero => intro s b; exact Nat.zero_le _
  | succ k ih =>
    intro s b
    unfold opn
    cases e : ent b with
    | none => exact Nat.zero_le _
    | some x =>
      obtain ⟨c, r, t⟩ := x
      simp only
      cases e2 : f s c r t with
      | none => exact Nat.zero_le _
      | some s' =>
        simp only
        have h1 := (ent_length e).1
        have h2 := ih s' (b.drop (t.length + 5))
        rw [List.length_drop] at h2
        omega
/-- Rounds that are enough are enough. -/
theorem opn_enough {S : Type} (f : S → UInt8 → UInt8 → List UInt8 → Option S) (k : Nat) : ∀ (s : S) (b : List UInt8), b.length ≤ k → opn f k s b = opn f b.length s b := by
  have key : ∀ (k k' : Nat) (s : S) (b : List UInt8), b.length ≤ k → b.length ≤ k' → opn f k s b = opn f k' s b := by
    intro k
    induction k with
    | zero =>
      intro k' s b hk hk'
      obtain rfl : b = [] := List.eq_nil_of_length_eq_zero (by omega)
      cases k' <;> rfl
    | succ k ih =>
      intro k' s b hk hk'
      cases k' with
      | zero =>
        obtain rfl : b = [] := List.eq_nil_of_length_eq_zero (by omega)
        rfl
      | succ k' =>
        unfold opn
        cases e : ent b with
        | none => rfl
        | some x =>
          obtain ⟨c, r, t⟩ := x
          simp only
          cases e2 : f s c r t with
          | none => rfl
          | some s' =>
            simp only
            have h1 := (ent_length e).1
            rw [ih k' s' (b.drop (t.length + 5)) (by rw [List.length_drop]; omega) (by rw [List.length_drop]; omega)]
  intro s b hk
  exact key k b.length s b hk (Nat.le_refl _)
/-- What holds at first, and behind each entry, holds at last. -/
theorem opn_inv {S : Type} (f : S → UInt8 → UInt8 → List UInt8 → Option S) (I : S → Nat → Prop) (hI : ∀ (s : S) (m : Nat) (c r : UInt8) (t : List UInt8) (s' : S), I s m → t.length < 256 → f s c r t = some s' → I s' (m + (t.length + 5))) (k : Nat) :
    ∀ (s : S) (b : List UInt8) (m : Nat), I s m → I (opn f k s b).1 (m + (opn f k s b).2) := by
  induction k with
  | zero => intro s b m h; exact h
  | succ k ih =>
    intro s b m h
    unfold opn
    cases e : ent b with
    | none => exact h
    | some x =>
      obtain ⟨c, r, t⟩ := x
      simp only
      cases e2 : f s c r t with
      | none => exact h
      | some s' =>
        simp only
        have h1 := ih s' (b.drop (t.length + 5)) _ (hI s m c r t s' h (ent_length e).2 e2)
        rw [← Nat.add_assoc]
        exact h1
/-- A sheet that is written entry by entry, each of which f takes. -/
theorem runs_back {S : Type} (f : S → UInt8 → UInt8 → List UInt8 → Option S) (st : List En → S) (l : List En) (h : ∀ (i : Nat) (x : En), l[i]? = some x → f (st (l.take i)) (lo8 x.1) (lo8 x.2.1) x.2.2.toList = some (st (l.take (i + 1)))) : runs f (st []) l = some (st l) := by
  have key : ∀ (l2 l1 : List En), l = l1 ++ l2 → runs f (st l1) l2 = some (st l) := by
    intro l2
    induction l2 with
    | nil => intro l1 e; rw [e, List.append_nil]; rfl
    | cons x l2 ih =>
      intro l1 e
      have hx : l[l1.length]? = some x := by rw [e]; simp
      have h1 := h _ x hx
      have e1 : l.take l1.length = l1 := by rw [e]; exact List.take_left
      have e2 : l.take (l1.length + 1) = l1 ++ [x] := by rw [List.take_add_one, e1, hx]; rfl
      rw [e1, e2] at h1
      unfold runs
      rw [h1]
      exact ih (l1 ++ [x]) (by rw [e]; simp)
  exact key l [] rfl
end Go.Proofs.YtokfijkhflfioaaGreatDoor.fw

/- A sheet that is written entry by entry and read, plain: it is that sheet; of a beginning a beginning; what is read is a sheet, and written anew it has no more bytes. Nothing is walked here. Conditions: as each theorem says. -/
namespace Go.Proofs.YtokfijkhflfioaaGreatDoor.fw
open Go.RowKit Go.Sort
def fE (x : ps.Fl) : En := (x.c, x.r, x.s)
def gE (x : En) : ps.Fl := ⟨x.1, x.2.1, x.2.2⟩
/-- A sheet's bytes. -/
def bkS (xs : List ps.Fl) : List UInt8 := enS (xs.map fE)
/-- A cell and a text that may stand in a sheet. -/
def Gd (ok : ByteArray → Bool) (x : ps.Fl) : Prop := (1 ≤ x.c ∧ x.c ≤ 26) ∧ (1 ≤ x.r ∧ x.r ≤ 99) ∧ ok x.s = true
/-- An entry, done. -/
def setF (ok : ByteArray → Bool) (xs : List ps.Fl) (c r : UInt8) (t : List UInt8) : Option (List ps.Fl) :=
  if (1 ≤ c.toNat ∧ c.toNat ≤ 26) ∧ (1 ≤ r.toNat ∧ r.toNat ≤ 99) ∧ ok (txt t) = true ∧ (ps.wt xs ⟨(c.toNat : Int), (r.toNat : Int), txt t⟩).length ≤ 200 then some (ps.wt xs ⟨(c.toNat : Int), (r.toNat : Int), txt t⟩) else none
theorem txt_back (b : ByteArray) : txt b.toList = b := by
  apply ByteArray.ext
  rw [ByteArray.toList_eq]
  rfl
theorem txt_size (t : List UInt8) : (txt t).size = t.length := rfl
theorem bkS_length (xs : List ps.Fl) : (bkS xs).length = (xs.map fun x => x.s.size + 5).sum := by
  unfold bkS
  induction xs with
  | nil => rfl
  | cons x xs ih => rw [List.map_cons, enS_cons, List.length_append, ih, enO_length]; rfl
theorem wt_more (xs : List ps.Fl) (f : ps.Fl) : (bkS (ps.wt xs f)).length ≤ (bkS xs).length + (f.s.size + 5) := by
  have hp : (bkS (ps.put f)).length ≤ f.s.size + 5 := by
    unfold ps.put
    split
    · exact Nat.zero_le _
    · rw [bkS_length]; simp
  have ha : ∀ a b : List ps.Fl, (bkS (a ++ b)).length = (bkS a).length + (bkS b).length := fun a b => by rw [bkS_length, bkS_length, bkS_length, List.map_append, List.sum_append]
  have hc : ∀ (a : ps.Fl) (b : List ps.Fl), (bkS (a :: b)).length = (a.s.size + 5) + (bkS b).length := fun a b => by rw [bkS_length, bkS_length, List.map_cons, List.sum_cons]
  induction xs with
  | nil =>
    show (bkS (ps.put f)).length ≤ _
    omega
  | cons x xs ih =>
    unfold ps.wt
    split
    · rw [hc, hc]; omega
    · split
      · rw [ha, hc]; omega
      · rw [ha]; omega
theorem srt_take {xs : List ps.Fl} (h : ps.Srt xs) {i j : Nat} {x y : ps.Fl} (hij : i < j) (hx : xs[i]? = some x) (hy : xs[j]? = some y) : ps.lt x y.c y.r = true := by
  have h2 := List.pairwise_iff_getElem.1 h
  obtain ⟨hi, rfl⟩ := List.getElem?_eq_some_iff.1 hx
  obtain ⟨hj, rfl⟩ := List.getElem?_eq_some_iff.1 hy
  exact h2 i j hi hj hij
/-- A cell's text put behind all that stands. -/
theorem wt_last {xs : List ps.Fl} {f : ps.Fl} (h : ∀ x ∈ xs, ps.lt x f.c f.r = true) (hf : f.s.size ≠ 0) : ps.wt xs f = xs ++ [f] := by
  induction xs with
  | nil => exact ps.put_one hf
  | cons x xs ih =>
    unfold ps.wt
    rw [if_pos (h x List.mem_cons_self), ih fun y hy => h y (List.mem_cons_of_mem _ hy)]
    rfl
theorem lo8_nat {c : Int} (h0 : 0 ≤ c) (h1 : c < 256) : ((lo8 c).toNat : Int) = c := by rw [lo8_is]; exact Int.emod_eq_of_lt h0 h1
theorem map_gf (xs : List ps.Fl) : (xs.map fE).map gE = xs := by
  rw [List.map_map]
  have e : gE ∘ fE = id := rfl
  rw [e, List.map_id]
/-- What was written is that sheet. -/
theorem book_runs {ok : ByteArray → Bool} {xs : List ps.Fl} (hs : ps.Srt xs) (hf : ps.Ful xs) (hg : ∀ x ∈ xs, Gd ok x) (hl : xs.length ≤ 200) : runs (setF ok) [] (xs.map fE) = some xs := by
  have h := runs_back (setF ok) (fun l => l.map gE) (xs.map fE) (fun i x hx => by
    rw [List.getElem?_map] at hx
    cases e : xs[i]? with
    | none => rw [e] at hx; cases hx
    | some y =>
      rw [e] at hx
      obtain rfl : fE y = x := by simpa using hx
      have hm := List.mem_of_getElem? e
      obtain ⟨⟨c0, c1⟩, ⟨r0, r1⟩, ho⟩ := hg y hm
      have ec := lo8_nat (c := y.c) (by omega) (by omega)
      have er := lo8_nat (c := y.r) (by omega) (by omega)
      have e1 : ((xs.map fE).take i).map gE = xs.take i := by rw [← List.map_take, map_gf]
      have e2 : ((xs.map fE).take (i + 1)).map gE = xs.take (i + 1) := by rw [← List.map_take, map_gf]
      have ht : xs.take (i + 1) = xs.take i ++ [y] := by rw [List.take_add_one, e]; rfl
      have hw : ps.wt (xs.take i) y = xs.take (i + 1) := by
        rw [ht]
        refine wt_last (fun z hz => ?_) (hf y hm)
        obtain ⟨j, hj⟩ := List.getElem?_of_mem hz
        rw [List.getElem?_take] at hj
        split at hj
        · exact srt_take hs (by assumption) hj e
        · cases hj
      have hy : (⟨((lo8 y.c).toNat : Int), ((lo8 y.r).toNat : Int), txt y.s.toList⟩ : ps.Fl) = y := by rw [ec, er, txt_back]
      show setF ok (((xs.map fE).take i).map gE) (lo8 y.c) (lo8 y.r) y.s.toList = some (((xs.map fE).take (i + 1)).map gE)
      rw [e1, e2]
      unfold setF
      rw [hy, hw, if_pos]
      refine ⟨by omega, by omega, by rw [txt_back]; exact ho, ?_⟩
      rw [List.length_take]
      omega)
  rw [map_gf] at h
  exact h
/-- What is read of any bytes is a sheet, and written anew it has no more bytes. -/
theorem book_any (ok : ByteArray → Bool) (k : Nat) (b : List UInt8) : let o := opn (setF ok) k [] b
    ps.Srt o.1 ∧ ps.Ful o.1 ∧ (∀ x ∈ o.1, Gd ok x) ∧ o.1.length ≤ 200 ∧ (bkS o.1).length ≤ o.2 := by
  have h := opn_inv (setF ok) (fun s m => ps.Srt s ∧ ps.Ful s ∧ (∀ x ∈ s, Gd ok x) ∧ s.length ≤ 200 ∧ (bkS s).length ≤ m) (fun s m c r t s' hI ht he => by
    obtain ⟨i1, i2, i3, i4, i5⟩ := hI
    unfold setF at he
    split at he
    · rename_i hc
      obtain rfl := Option.some.inj he
      refine ⟨ps.wt_srt i1 _, ps.wt_ful i2 _, fun x hx => ?_, hc.2.2.2, ?_⟩
      · rcases ps.wt_in hx with hx | ⟨rfl, -⟩
        · exact i3 x hx
        · exact ⟨⟨by show (1 : Int) ≤ (c.toNat : Int); omega, by show (c.toNat : Int) ≤ 26; omega⟩, ⟨by show (1 : Int) ≤ (r.toNat : Int); omega, by show (r.toNat : Int) ≤ 99; omega⟩, hc.2.2.1⟩
      · have h1 := wt_more s ⟨(c.toNat : Int), (r.toNat : Int), txt t⟩
        simp only [txt_size] at h1
        omega
    · cases he) k [] b 0 ⟨List.Pairwise.nil, fun x hx => absurd hx List.not_mem_nil, fun x hx => absurd hx List.not_mem_nil, Nat.zero_le _, Nat.le_refl _⟩
  rw [Nat.zero_add] at h
  exact h
end Go.Proofs.YtokfijkhflfioaaGreatDoor.fw

/- A book, plain: what was written is there, cut off anywhere; what was packed says the same. Nothing is walked here. Conditions: as each theorem says. -/
namespace Go.Proofs.YtokfijkhflfioaaGreatDoor.fw
open Go.RowKit Go.Sort
/-- What is there of bytes, and how many of them are whole. -/
def opB (ok : ByteArray → Bool) (b : List UInt8) : List ps.Fl × Nat := opn (setF ok) b.length [] b
theorem opn_nil {S : Type} (f : S → UInt8 → UInt8 → List UInt8 → Option S) (k : Nat) (s : S) : opn f k s [] = (s, 0) := by cases k <;> rfl
theorem fE_small {ok : ByteArray → Bool} (hok : ∀ s, ok s = true → s.size ≤ 200) {xs : List ps.Fl} (hg : ∀ x ∈ xs, Gd ok x) : ∀ x ∈ xs.map fE, x.2.2.size < 256 := fun x hx => by
  rw [List.mem_map] at hx
  obtain ⟨y, hy, rfl⟩ := hx
  have := hok _ (hg y hy).2.2
  show y.s.size < 256
  omega
theorem len_enS (l : List En) : l.length ≤ (enS l).length := by
  induction l with
  | nil => exact Nat.zero_le _
  | cons x l ih => rw [enS_cons, List.length_append, enO_length, List.length_cons]; omega
theorem book_open {ok : ByteArray → Bool} (hok : ∀ s, ok s = true → s.size ≤ 200) {xs : List ps.Fl} (hs : ps.Srt xs) (hf : ps.Ful xs) (hg : ∀ x ∈ xs, Gd ok x) (hl : xs.length ≤ 200) : opB ok (bkS xs) = (xs, (bkS xs).length) := by
  have h := opn_all (setF ok) (xs.map fE) (fE_small hok hg) (book_runs hs hf hg hl) [] (bkS xs).length
  rw [List.append_nil, opn_nil] at h
  unfold opB
  rw [← opn_enough (setF ok) ((bkS xs).length + (xs.map fE).length) [] (bkS xs) (Nat.le_add_right _ _)]
  exact h
theorem book_cut {ok : ByteArray → Bool} (hok : ∀ s, ok s = true → s.size ≤ 200) {xs : List ps.Fl} (hs : ps.Srt xs) (hf : ps.Ful xs) (hg : ∀ x ∈ xs, Gd ok x) (hl : xs.length ≤ 200) (n : Nat) (hn : n ≤ (bkS xs).length) :
    ∃ j, j ≤ xs.length ∧ opB ok ((bkS xs).take n) = (xs.take j, (bkS (xs.take j)).length) ∧ (bkS (xs.take j)).length ≤ n := by
  obtain ⟨j, s1, h1, h2, h3, h4⟩ := opn_cut (setF ok) (xs.map fE) (fE_small hok hg) (book_runs hs hf hg hl) n (bkS xs).length hn (len_enS _)
  rw [List.length_map] at h1
  rw [← List.map_take] at h2 h3 h4
  have hr := book_runs (ok := ok) (xs := xs.take j) (List.Pairwise.sublist (List.take_sublist _ _) hs) (fun x hx => hf x (List.mem_of_mem_take hx)) (fun x hx => hg x (List.mem_of_mem_take hx)) (by rw [List.length_take]; omega)
  rw [hr] at h2
  obtain rfl := Option.some.inj h2
  refine ⟨j, h1, ?_, h4⟩
  unfold opB
  rw [← opn_enough (setF ok) (bkS xs).length [] ((bkS xs).take n) (by rw [List.length_take]; omega)]
  exact h3
/-- What was packed says the same, in no more bytes. -/
theorem book_pack {ok : ByteArray → Bool} (hok : ∀ s, ok s = true → s.size ≤ 200) (b : List UInt8) :
    opB ok (bkS (opB ok b).1) = ((opB ok b).1, (bkS (opB ok b).1).length) ∧ (bkS (opB ok b).1).length ≤ (opB ok b).2 ∧ (opB ok b).2 ≤ b.length := by
  obtain ⟨h1, h2, h3, h4, h5⟩ := book_any ok b.length b
  exact ⟨book_open hok h1 h2 h3 h4, h5, opn_le _ _ _ _⟩
end Go.Proofs.YtokfijkhflfioaaGreatDoor.fw

/- Package book: Entry, Write. Conditions: as each theorem says. -/
namespace Go.Proofs.YtokfijkhflfioaaGreatDoor.ps
open Go.RowKit
open adr (C isC)
/-- What Check says of a cell with its text: a number that there is one of. -/
def SCk (f : Fl) (n : Int) : Prop := (f.s.size = 0 ∧ n = if isC f.c f.r = true then 0 else 1) ∨ (f.s.size ≠ 0 ∧ Told [f] n)
theorem SCk.one {f : Fl} {n m : Int} (h : SCk f n) (h' : SCk f m) : n = m := by
  rcases h with ⟨h1, h2⟩ | ⟨h1, h2⟩
  · rcases h' with ⟨g1, g2⟩ | ⟨g1, g2⟩
    · rw [h2, g2]
    · exact absurd h1 g1
  · rcases h' with ⟨g1, g2⟩ | ⟨g1, g2⟩
    · exact absurd g1 h1
    · exact h2.one g2
set_option maxHeartbeats 1600000 in
theorem scheck_any (f : Fl) (w : World) (hE : EnvP w) :
    Calls Tryz.prog 20 #[C f.c f.r, .string f.s] w fun e w' => (∃ t, e = .returned (errV t) ∧ SCk f t) ∧ Below w.heap.size w w' := by
  have hb0 : Below w.heap.size w (w.alloc (.cells #[.int .i64 f.c, .int .i64 f.r] 23)) := (Below.refl _ _).alloc (Nat.le_refl _) _
  have hb1 : Below w.heap.size w ((w.alloc (.cells #[.int .i64 f.c, .int .i64 f.r] 23)).alloc (.cells #[.int .i64 f.c, .int .i64 f.r, .string f.s] 25)) := hb0.alloc (by simp) _
  cases h0 : f.s.toList.isEmpty with
  | true =>
    have HE0 : Hid (f.s.size = 0) := emp_yes h0
    have HC : Hid (Calls Tryz.prog 32 #[C f.c f.r] (w.alloc (.cells #[.int .i64 f.c, .int .i64 f.r] 23)) fun e w' => (∃ v, e = .returned v ∧ ∃ t, v = errV t ∧ SCk f t) ∧ Below w.heap.size w w') := (adr.check_any f.c f.r _).mono (fun e w' ⟨e1, e2⟩ => ⟨⟨_, e1, if isC f.c f.r = true then 0 else 1, by cases isC f.c f.r <;> rfl, .inl ⟨HE0.out, rfl⟩⟩, bnext hb0 e2 hb0.size⟩)
    clear hE hb0 hb1
    go_enter Tryz.func20, Tryz.ntmps20
    go_wp2_with fail
    refine HC.out.mono ?_
    rintro e w1 ⟨⟨v, rfl, hv⟩, hb⟩
    go_wp2_with fail
    go_ret
    obtain ⟨t, rfl, ht⟩ := hv
    exact ⟨⟨t, rfl, ht⟩, hb⟩
  | false =>
    have HE0 : Hid (f.s.size ≠ 0) := emp_no h0
    have HC : Hid (Calls Tryz.prog 24 #[.slice (some ⟨w.heap.size + 1, 0, none⟩) 1 1] ((w.alloc (.cells #[.int .i64 f.c, .int .i64 f.r] 23)).alloc (.cells #[.int .i64 f.c, .int .i64 f.r, .string f.s] 25)) fun e w' => (∃ v, e = .returned v ∧ ∃ t, v = errV t ∧ SCk f t) ∧ Below w.heap.size w w') := (gcheck_any (some ⟨w.heap.size + 1, 0, none⟩) 1 [f] _ (by have := fm_new (w.alloc (.cells #[.int .i64 f.c, .int .i64 f.r] 23)) f; simpa using this) (hE.below hb1 hE.size)).mono (fun e w' ⟨⟨t, e1, e2⟩, e3⟩ => ⟨⟨_, e1, t, rfl, .inr ⟨HE0.out, e2⟩⟩, bnext hb1 e3 hb1.size⟩)
    clear hE hb0 hb1
    go_enter Tryz.func20, Tryz.ntmps20
    go_wp2_with fail
    refine HC.out.mono ?_
    rintro e w1 ⟨⟨v, rfl, hv⟩, hb⟩
    go_wp2_with fail
    go_ret
    obtain ⟨t, rfl, ht⟩ := hv
    exact ⟨⟨t, rfl, ht⟩, hb⟩
theorem ckT_le {s : ByteArray} (h : ckT s = 0) : s.size ≤ 200 := by
  by_cases h2 : 200 < s.size
  · rw [ckT_long h2] at h; cases h
  · omega
theorem told_one {f : Fl} {t : Int} (h : Told [f] t) : t = cd [f] 0 := by
  rcases h with ⟨h1, -⟩ | ⟨-, ⟨rfl, h⟩ | ⟨-, i, hi, rfl, -⟩⟩
  · simp at h1
  · exact (h 0 (by simp)).symm
  · obtain rfl : i = 0 := by simpa using hi
    rfl
end Go.Proofs.YtokfijkhflfioaaGreatDoor.ps
namespace Go.Proofs.YtokfijkhflfioaaGreatDoor.fw
open Go.RowKit Go.Sort
abbrev FVv (x : ps.Fl) : Value := .agg #[.int .i64 x.c, .int .i64 x.r, .string x.s]
/-- What a text comes to that a cell is to have: a fault's number. -/
def ftx (s : ByteArray) : Int := if s.size = 0 then 0 else ps.ckT s
theorem sck_is {f : ps.Fl} {t : Int} (h : ps.SCk f t) : t = if adr.isC f.c f.r = true then ftx f.s else 1 := by
  unfold ftx
  rcases h with ⟨h1, rfl⟩ | ⟨h1, h2⟩
  · rw [if_pos h1]
  · rw [if_neg h1, ps.told_one h2]
    cases hc : adr.isC f.c f.r with
    | false => rw [ps.cd_range rfl hc, if_neg (by simp)]
    | true => rw [ps.cd_text rfl hc rfl, if_pos rfl]
theorem sck_zero {f : ps.Fl} {t : Int} (h : ps.SCk f t) : t = 0 ↔ adr.isC f.c f.r = true ∧ ftx f.s = 0 := by
  rw [sck_is h]
  cases adr.isC f.c f.r <;> simp
theorem ftx_le {s : ByteArray} (h : ftx s = 0) : s.size ≤ 200 := by
  unfold ftx at h
  split at h
  · omega
  · exact ps.ckT_le h
/-- What Entry answers. -/
def EtO (w : World) (f : ps.Fl) (t : Int) (e : Ending) (w' : World) : Prop := (t ≠ 0 ∧ e = .returned (.tuple #[.slice none 0 0, ps.errV t]) ∧ Bw w w') ∨ (t = 0 ∧ ∃ v, e = .returned (.tuple #[v, .nilIface]) ∧ BV w v (enL f.c f.r f.s) w')
set_option maxRecDepth 1000000 in
set_option maxHeartbeats 8000000 in
theorem entryP_any (f : ps.Fl) (w : World) (hE : ps.EnvP w) : Calls Tryz.prog 9 #[FVv f] w fun e w' => ∃ t, ps.SCk f t ∧ EtO w f t e w' := by
  obtain ⟨c, r, s⟩ := f
  have hb0 : Bw w (w.alloc (.cells #[.int .i64 c, .int .i64 r, .string s] 25)) := Bw.al w _
  obtain ⟨y0, y1, y2⟩ := cells3q (heap_alloc_new w (.cells #[.int .i64 c, .int .i64 r, .string s] 25))
  have HC : Hid (Calls Tryz.prog 20 #[adr.C c r, .string s] (w.alloc (.cells #[.int .i64 c, .int .i64 r, .string s] 25)) fun e w' => (∃ t, e = .returned (ps.errV t) ∧ ps.SCk ⟨c, r, s⟩ t) ∧ Bw (w.alloc (.cells #[.int .i64 c, .int .i64 r, .string s] 25)) w') := ps.scheck_any ⟨c, r, s⟩ _ (hE.below hb0 hE.size)
  have HB0 : Hid (Bw w (w.alloc (.cells #[.int .i64 c, .int .i64 r, .string s] 25))) := hb0
  have hl0 : w.heap.size < (w.alloc (.cells #[.int .i64 c, .int .i64 r, .string s] 25)).heap.size := by simp
  dsimp only [FVv]
  go_enter Tryz.func9, Tryz.ntmps9
  go_upto_region 2 with (first | (go_at_call 20; refine HC.out.mono ?_; rintro e w1 ⟨⟨t, rfl, ht⟩, hb⟩))
  have HB1 : Hid (Bw w w1) := HB0.out.tr hb
  have c1 : w1.heap[w.heap.size]? = some (.cells #[.int .i64 c, .int .i64 r, .string s] 25) := (hb.block _ hl0).trans (heap_alloc_new w _)
  obtain ⟨z0, z1, z2⟩ := cells3q c1
  have HT : Hid (ps.SCk ⟨c, r, s⟩ t) := ht
  clear y0 y1 y2 hb hE hl0 HC ht c1
  by_cases h0 : t = 0
  · have HL : Hid (s.size ≤ 200) := ftx_le ((sck_zero HT.out).1 h0).2
    have HP : Hid (Calls Tryz.prog 21 #[.slice none 0 0, .agg #[.int .i64 c, .int .i64 r, .string s]] w1 fun e w' => ∃ v', e = .returned v' ∧ BV w v' ([] ++ enL c r s) w') := put_any w _ [] c r s w1 ((BV.nil w).next HB1.out) (by simp) (by have := HL.out; omega)
    subst h0
    rw [ps.errV_zero]
    go_wp2_with (first | (go_at_call 21; refine HP.out.mono ?_; rintro e w2 ⟨v2, rfl, hv2⟩))
    exact bodyPost_ret (v := .tuple #[v2, .nilIface]) (by simp [results, Tryz.results9, go_sem]) rfl ⟨0, HT.out, .inr ⟨rfl, v2, rfl, hv2⟩⟩
  · rw [ps.errV_some h0]
    have HN : Hid (t ≠ 0) := h0
    clear h0
    go_wp2_with fail
    exact bodyPost_ret (v := .tuple #[.slice none 0 0, .iface 56 (.int .i64 t)]) (by simp [results, Tryz.results9, go_sem]) rfl ⟨t, HT.out, .inl ⟨HN.out, by rw [ps.errV_some HN.out], HB1.out⟩⟩
theorem fm_next {w w' : World} {p : Option Addr} {xs : List ps.Fl} (h : ps.FM w p xs) (hb : Bw w w') : ps.FM w' p xs := by
  rcases h with h | ⟨g, o, h1, h2, h3⟩
  · exact .inl h
  · exact .inr ⟨g, o, h1, Nat.lt_of_lt_of_le h2 hb.size, fun t u hu => by rw [hb.cell (p := ⟨g, _, none⟩) h2]; exact h3 t u hu⟩
theorem fm_at {w : World} {p : Option Addr} {xs : List ps.Fl} (h : ps.FM w p xs) {i : Nat} {x : ps.Fl} (hx : xs[i]? = some x) : ∃ g o, p = some ⟨g, o, none⟩ ∧ g < w.heap.size ∧ w.cell? ⟨g, o + i * 3, none⟩ = some (.int .i64 x.c) ∧ w.cell? ⟨g, o + i * 3 + 1, none⟩ = some (.int .i64 x.r) ∧ w.cell? ⟨g, o + i * 3 + 2, none⟩ = some (.string x.s) := by
  obtain ⟨g, o, rfl, hl⟩ := h.at hx
  exact ⟨g, o, rfl, hl, h.cells hx⟩
/-- What Write answers. -/
def WrO (w : World) (xs : List ps.Fl) (t : Int) (e : Ending) (w' : World) : Prop := (t ≠ 0 ∧ e = .returned (.tuple #[.slice none 0 0, ps.errV t]) ∧ Bw w w') ∨ (t = 0 ∧ ∃ v, e = .returned (.tuple #[v, .nilIface]) ∧ BV w v (bkS xs) w')
theorem bkS_snoc (xs : List ps.Fl) (x : ps.Fl) : bkS (xs ++ [x]) = bkS xs ++ enL x.c x.r x.s := by
  unfold bkS
  rw [List.map_append, List.map_cons, List.map_nil, enS_snoc]
  rfl
theorem bkS_le {xs : List ps.Fl} (h : ∀ x ∈ xs, x.s.size ≤ 200) : (bkS xs).length ≤ xs.length * 205 := by
  rw [bkS_length]
  induction xs with
  | nil => simp
  | cons x xs ih =>
    rw [List.map_cons, List.sum_cons, List.length_cons, Nat.succ_mul]
    have := ih fun y hy => h y (List.mem_cons_of_mem _ hy)
    have := h x List.mem_cons_self
    omega
set_option maxRecDepth 1000000 in
set_option maxHeartbeats 8000000 in
theorem writeP_any (p : Option Addr) (c : Nat) (xs : List ps.Fl) (w : World) (hx : ps.FM w p xs) (hE : ps.EnvP w) : Calls Tryz.prog 13 #[.slice p xs.length c] w fun e w' => ∃ t, ps.Told xs t ∧ WrO w xs t e w' := by
  have HX : Hid (ps.FM w p xs) := hx
  have HC : Hid (Calls Tryz.prog 24 #[.slice p xs.length c] w fun e w' => (∃ t, e = .returned (ps.errV t) ∧ ps.Told xs t) ∧ Bw w w') := ps.gcheck_any p c xs w hx hE
  obtain ⟨n, hn⟩ : ∃ n, xs.length = n := ⟨_, rfl⟩
  have HN : Hid (xs.length = n) := hn
  rw [hn] at HC ⊢
  clear hx hE hn
  go_enter Tryz.func13, Tryz.ntmps13
  go_upto_region 2 with (first | (go_at_call 24; refine HC.out.mono ?_; rintro e w1 ⟨⟨t, rfl, ht⟩, hb⟩))
  have HB1 : Hid (Bw w w1) := hb
  have HT : Hid (ps.Told xs t) := ht
  clear hb HC ht
  by_cases h0 : t = 0
  · subst h0
    have HF : Hid (ps.Fine xs) := HT.out.fine
    rw [ps.errV_zero]
    go_wp2_with fail
    go_loopw [5, 15] (fun s5 s15 wr => ∃ i : Nat, s15 = .int .i64 (i : Int) ∧ i ≤ n ∧ Hid (BV w s5 (bkS (xs.take i)) wr)) (fun _ s15 _ => n - (intOf s15).toNat)
    case atStart => exact ⟨0, rfl, Nat.zero_le _, (BV.nil w).next HB1.out⟩
    case round =>
      obtain ⟨i, rfl, hi, HV⟩ := hrel
      by_cases hlt : i < n
      · have hlt' : (i : Int) < (n : Int) := by omega
        have hi0 : (0 : Int) ≤ (i : Int) := by omega
        have hn2 : (n : Int) ≤ 200 := by have := HF.out.len; rw [HN.out] at this; omega
        obtain ⟨x, hx⟩ : ∃ x, xs[i]? = some x := ⟨_, List.getElem?_eq_getElem (by rw [HN.out]; exact hlt)⟩
        obtain ⟨g, o, rfl, hg, y0, y1, y2⟩ := fm_at (fm_next HX.out HV.out.below) hx
        have hx2 := HF.out.cell x (List.mem_of_getElem? hx)
        have hlen : (bkS (xs.take i)).length ≤ 41000 := by
          have := bkS_le (xs := xs.take i) fun y hy => (HF.out.cell y (List.mem_of_mem_take hy)).2.2
          rw [List.length_take] at this
          have hl := HF.out.len
          omega
        have HP : Hid (∀ wx, Bw wr wx → Calls Tryz.prog 21 #[u5, FVv x] wx fun e w' => ∃ v', e = .returned v' ∧ BV w v' (bkS (xs.take (i + 1))) w') := fun wx hb => by
          have := put_any w u5 (bkS (xs.take i)) x.c x.r x.s wx (HV.out.next hb) (by omega) (by omega)
          rw [← bkS_snoc, ← (show xs.take (i + 1) = xs.take i ++ [x] by rw [List.take_add_one, hx]; rfl)] at this
          exact this
        clear hx hx2 HV
        obtain ⟨c1, r1, s1⟩ := x
        dsimp only at y0 y1 y2 HP
        go_wp2_with (first | (go_at_call 21; refine (HP.out _ (Bw.al _ _)).mono ?_; rintro e w2 ⟨v2, rfl, hv2⟩))
        exact ⟨⟨i + 1, by simp, hlt, hv2⟩, by simp [intOf]; omega⟩
      · have hlt' : ¬ (i : Int) < (n : Int) := by omega
        obtain rfl : i = n := by omega
        have HV2 : Hid (BV w u5 (bkS xs) wr) := by
          have := HV.out
          rw [List.take_of_length_le (by rw [HN.out]; exact Nat.le_refl _)] at this
          exact this
        go_wp2_with fail
        exact bodyPost_ret (v := .tuple #[u5, .nilIface]) (by simp [results, Tryz.results13, go_sem]) rfl ⟨0, HT.out, .inr ⟨rfl, u5, rfl, HV2.out⟩⟩
  · rw [ps.errV_some h0]
    have HN2 : Hid (t ≠ 0) := h0
    clear h0
    go_wp2_with fail
    exact bodyPost_ret (v := .tuple #[.slice none 0 0, .iface 56 (.int .i64 t)]) (by simp [results, Tryz.results13, go_sem]) rfl ⟨t, HT.out, .inl ⟨HN2.out, by rw [ps.errV_some HN2.out], HB1.out⟩⟩
end Go.Proofs.YtokfijkhflfioaaGreatDoor.fw
namespace Go.Proofs.YtokfijkhflfioaaGreatDoor.fw
open Go.RowKit Go.Sort
def Lif (t : Int) (l : List UInt8) : List UInt8 := if t = 0 then l else []
theorem bm_nil (w : World) : BM w (.slice none 0 0) [] := (BV.nil w).bm
theorem entry_two (f : ps.Fl) (w : World) (hE : ps.EnvP w) (E : Int) (hEe : E = if adr.isC f.c f.r = true then ftx f.s else 1) :
    Calls Tryz.prog 9 #[FVv f] w fun e w' => ∃ v, e = .returned (.tuple #[v, ps.errV E]) ∧ BM w' v (Lif E (enL f.c f.r f.s)) ∧ Bw w w' := by
  refine (entryP_any f w hE).mono ?_
  rintro e w' ⟨t, h1, h2⟩
  obtain rfl : t = E := (sck_is h1).trans hEe.symm
  rcases h2 with ⟨h0, rfl, hb⟩ | ⟨rfl, v, rfl, hv⟩
  · exact ⟨_, rfl, by unfold Lif; rw [if_neg h0]; exact bm_nil _, hb⟩
  · exact ⟨v, by rw [ps.errV_zero], by unfold Lif; rw [if_pos rfl]; exact hv.bm, hv.below⟩
theorem write_two (p : Option Addr) (c : Nat) (xs : List ps.Fl) (w : World) (hx : ps.FM w p xs) (hE : ps.EnvP w) (t : Int) (ht : ps.Told xs t) :
    Calls Tryz.prog 13 #[.slice p xs.length c] w fun e w' => ∃ v, e = .returned (.tuple #[v, ps.errV t]) ∧ BM w' v (Lif t (bkS xs)) ∧ Bw w w' := by
  refine (writeP_any p c xs w hx hE).mono ?_
  rintro e w' ⟨t', h1, h2⟩
  obtain rfl := ht.one h1
  rcases h2 with ⟨h0, rfl, hb⟩ | ⟨rfl, v, rfl, hv⟩
  · exact ⟨_, rfl, by unfold Lif; rw [if_neg h0]; exact bm_nil _, hb⟩
  · exact ⟨v, by rw [ps.errV_zero], by unfold Lif; rw [if_pos rfl]; exact hv.bm, hv.below⟩
theorem box3_at {w wx : World} {a b c : Value} {t : TypeId} (h : Bw (w.alloc (.cells #[a, b, c] t)) wx) : wx.cell? ⟨w.heap.size, 0, none⟩ = some a ∧ wx.cell? ⟨w.heap.size, 1, none⟩ = some b ∧ wx.cell? ⟨w.heap.size, 2, none⟩ = some c :=
  cells3q ((h.block _ (by simp)).trans (heap_alloc_new w _))
set_option maxRecDepth 1000000 in
set_option maxHeartbeats 8000000 in
theorem bookEntries_any (f : ps.Fl) (p : Option Addr) (c : Nat) (xs : List ps.Fl) (w : World) (hx : ps.FM w p xs) (hE : ps.EnvP w)
    (hIn : ∀ c r wx, Calls Tryz.prog 6 #[adr.C c r] wx fun e w' => e = .returned (.bool (adr.isC c r)) ∧ Bw wx w')
    (hTx : ∀ s wx, Calls Tryz.prog 7 #[.string s] wx fun e w' => e = .returned (.int .i64 (ftx s)) ∧ Bw wx w')
    (hCk : ∀ wx, Bw w wx → Calls Tryz.prog 12 #[.slice p xs.length c] wx fun e w' => (∃ t, e = .returned (.int .i64 t) ∧ ps.Told xs t) ∧ Bw wx w')
    (hS : ∀ wx e, Bw w wx → Calls Tryz.prog 10 #[ps.errV e, .int .i64 e] wx fun r w' => r = .returned (.bool true) ∧ Bw wx w') :
    Calls Tryz.prog 3 #[FVv f, .slice p xs.length c] w fun e w' => e = .returned (.bool true) ∧ Bw w w' := by
  obtain ⟨fc, fr, fs⟩ := f
  obtain ⟨E, hEe⟩ : ∃ E, E = if adr.isC fc fr = true then ftx fs else 1 := ⟨_, rfl⟩
  have HEe : Hid (E = if adr.isC fc fr = true then ftx fs else 1) := hEe
  have HX : Hid (ps.FM w p xs) := hx
  have HE : Hid (ps.EnvP w) := hE
  have HIn : Hid (∀ c r wx, Calls Tryz.prog 6 #[adr.C c r] wx fun e w' => e = .returned (.bool (adr.isC c r)) ∧ Bw wx w') := hIn
  have HTx : Hid (∀ s wx, Calls Tryz.prog 7 #[.string s] wx fun e w' => e = .returned (.int .i64 (ftx s)) ∧ Bw wx w') := hTx
  have HCk : Hid (∀ wx, Bw w wx → Calls Tryz.prog 12 #[.slice p xs.length c] wx fun e w' => (∃ t, e = .returned (.int .i64 t) ∧ ps.Told xs t) ∧ Bw wx w') := hCk
  have HS : Hid (∀ wx e, Bw w wx → Calls Tryz.prog 10 #[ps.errV e, .int .i64 e] wx fun r w' => r = .returned (.bool true) ∧ Bw wx w') := hS
  clear hx hE hIn hTx hCk hS hEe
  obtain ⟨n, hn⟩ : ∃ n, xs.length = n := ⟨_, rfl⟩
  have HN : Hid (xs.length = n) := hn
  rw [hn] at HCk ⊢
  clear hn
  dsimp only [FVv]
  have HB0 : Hid (Bw w (w.alloc (.cells #[.int .i64 fc, .int .i64 fr, .string fs] 25))) := Bw.al w _
  obtain ⟨y0, y1, y2⟩ := box3_at (Below.refl _ (w.alloc (.cells #[.int .i64 fc, .int .i64 fr, .string fs] 25)))
  go_enter Tryz.func3, Tryz.ntmps3
  go_upto_if 17 with (first | (go_at_call 6; refine (HIn.out fc fr _).mono ?_; rintro e w1 ⟨rfl, hb1⟩))
  have HB1 : Hid (Bw (w.alloc (.cells #[.int .i64 fc, .int .i64 fr, .string fs] 25)) w1) := hb1
  clear y0 y1 y2 hb1 HIn
  obtain ⟨W0, hW0⟩ : ∃ W0, W0 = w.alloc (.cells #[.int .i64 fc, .int .i64 fr, .string fs] 25) := ⟨_, rfl⟩
  have HAt : Hid (∀ wx, Bw W0 wx → wx.cell? ⟨w.heap.size, 0, none⟩ = some (.int .i64 fc) ∧ wx.cell? ⟨w.heap.size, 1, none⟩ = some (.int .i64 fr) ∧ wx.cell? ⟨w.heap.size, 2, none⟩ = some (.string fs)) := fun wx hb => by
    subst hW0
    exact box3_at hb
  rw [← hW0] at HB0 HB1
  clear hW0
  obtain ⟨y0, y1, y2⟩ := HAt.out w1 HB1.out
  obtain ⟨b, hb⟩ : ∃ b, adr.isC fc fr = b := ⟨_, rfl⟩
  rw [hb]
  have HEb : Hid (E = if b = true then ftx fs else 1) := by
    have := HEe.out
    rw [hb] at this
    exact this
  clear hb
  go_cut [5] (fun s5 wx => s5 = .int .i64 E ∧ Bw W0 wx)
  case first =>
    cases b with
    | true =>
      go_wp2_with (first | (go_at_call 7; refine (HTx.out fs _).mono ?_; rintro e w2 ⟨rfl, hb2⟩))
      go_meet
      case rel => exact ⟨by rw [HEb.out]; rfl, HB1.out.tr hb2⟩
    | false =>
      go_wp2_with fail
      go_meet
      case rel => exact ⟨by rw [HEb.out]; rfl, HB1.out⟩
  case rest =>
  obtain ⟨rfl, hbc⟩ := hcut
  have HBc : Hid (Bw W0 wc) := hbc
  clear y0 y1 y2 hbc HB1
  obtain ⟨y0, y1, y2⟩ := HAt.out wc HBc.out
  go_upto_if 22 with fail
  have HL : Hid (E = 0 → fs.size ≤ 200) := fun h => by
    have h1 := HEe.out
    rw [h] at h1
    split at h1
    · exact ftx_le h1.symm
    · cases h1
  go_cut [7] (fun s7 wx => Bw W0 wx ∧ BM wx s7 (Lif E (enL fc fr fs)))
  case first =>
    by_cases h0 : E = 0
    · have HEn : Hid (Calls Tryz.prog 8 #[.agg #[.int .i64 fc, .int .i64 fr, .string fs]] wc fun e w' => EnO wc fc fr fs e w') := rentry_any fc fr fs wc (by have := HL.out h0; omega)
      subst h0
      go_wp2_with (first | (go_at_call 8; refine HEn.out.mono ?_; rintro e w2 ⟨v2, rfl, hv2⟩))
      go_meet
      case rel => exact ⟨HBc.out.tr hv2.below, by unfold Lif; rw [if_pos rfl]; exact hv2.bm⟩
    · go_wp2_with fail
      go_meet
      case rel => exact ⟨HBc.out, by unfold Lif; rw [if_neg h0]; exact bm_nil _⟩
  case rest =>
  obtain ⟨hbd, hwant⟩ := hcut
  have HBd : Hid (Bw W0 wc) := hbd
  have HW : Hid (BM wc u7 (Lif E (enL fc fr fs))) := hwant
  have hLl : (Lif E (enL fc fr fs)).length ≤ 205 := by
    unfold Lif
    split
    · rw [enL_length]; have := HL.out (by assumption); omega
    · simp
  have HLl : Hid ((Lif E (enL fc fr fs)).length ≤ 205) := hLl
  clear hbd hwant y0 y1 y2 hLl
  obtain ⟨y0, y1, y2⟩ := HAt.out wc HBd.out
  have HEn : Hid (Calls Tryz.prog 9 #[.agg #[.int .i64 fc, .int .i64 fr, .string fs]] wc fun e w' => ∃ v, e = .returned (.tuple #[v, ps.errV E]) ∧ BM w' v (Lif E (enL fc fr fs)) ∧ Bw wc w') := entry_two ⟨fc, fr, fs⟩ wc (HE.out.below (HB0.out.tr HBd.out) HE.out.size) E HEe.out
  apply_assumption
  clear HEb
  go_upto_region 10 with (first | (go_at_call 9; refine HEn.out.mono ?_; rintro e w2 ⟨v2, rfl, hv2, hb2⟩))
  have HB2 : Hid (Bw w w2) := HB0.out.tr (HBd.out.tr hb2)
  have HW2 : Hid (BM w2 u7 (Lif E (enL fc fr fs)) ∧ BM w2 v2 (Lif E (enL fc fr fs))) := ⟨HW.out.next hb2, hv2⟩
  clear HW hv2 hb2 HEn y0 y1 y2 HAt HBd
  go_upto_region 11 with (first | (go_at_call 10; refine (HS.out w2 E HB2.out).mono ?_; rintro e w3 ⟨rfl, hb3⟩))
  have HB3 : Hid (Bw w w3) := HB2.out.tr hb3
  have HBy : Hid (Calls Tryz.prog 11 #[v2, u7] w3 fun e w' => e = .returned (.bool true) ∧ Bw w3 w') := by
    have := rbytes_any v2 u7 _ _ w3 (HW2.out.2.next hb3) (HW2.out.1.next hb3) (by have := HLl.out; omega)
    rw [decide_eq_true rfl] at this
    exact this
  clear hb3 HW2 HB2
  go_upto_region 14 with (first | (go_at_call 11; refine HBy.out.mono ?_; rintro e w4 ⟨rfl, hb4⟩))
  have HB4 : Hid (Bw w w4) := HB3.out.tr hb4
  clear hb4 HB3 HBy
  go_upto_region 15 with (first | (go_at_call 12; refine (HCk.out w4 HB4.out).mono ?_; rintro e w5 ⟨⟨t, rfl, ht⟩, hb5⟩))
  have HT : Hid (ps.Told xs t) := ht
  have HB5 : Hid (Bw w w5) := HB4.out.tr hb5
  clear ht hb5 HB4 HCk HL HLl
  clear HTx
  have HWt : Hid (∀ wx, Bw w wx → Calls Tryz.prog 13 #[.slice p n c] wx fun e w' => ∃ v, e = .returned (.tuple #[v, ps.errV t]) ∧ BM w' v (Lif t (bkS xs)) ∧ Bw wx w') := fun wx hb => by
    have := write_two p c xs wx (fm_next HX.out hb) (HE.out.below hb HE.out.size) t HT.out
    rw [HN.out] at this
    exact this
  go_upto_block 0 with fail
  go_cut [7, 12] (fun s7 s12 wx => ∃ i : Nat, s12 = .int .i64 (i : Int) ∧ Bw w wx ∧ BM wx s7 (Lif t (bkS xs)))
  case first =>
    go_wp2_with fail
    go_loopw [7, 12] (fun s7 s12 wr => ∃ i : Nat, s12 = .int .i64 (i : Int) ∧ i ≤ n ∧ Hid (BV w s7 (Lif t (bkS (xs.take i))) wr)) (fun _ s12 _ => n - (intOf s12).toNat)
    case atStart => exact ⟨0, rfl, Nat.zero_le _, by
      have e : Lif t (bkS (xs.take 0)) = [] := by unfold Lif; split <;> rfl
      show BV _ _ _ _
      rw [e]
      exact (BV.nil w).next HB5.out⟩
    case round =>
      obtain ⟨i, rfl, hi, HV⟩ := hrel
      have hi0 : (0 : Int) ≤ (i : Int) := by omega
      by_cases h0 : t = 0
      · subst h0
        have HF : Hid (ps.Fine xs) := HT.out.fine
        have hn2 : (n : Int) ≤ 200 := by have := HF.out.len; rw [HN.out] at this; omega
        by_cases hlt : i < n
        · have hlt' : (i : Int) < (n : Int) := by omega
          obtain ⟨x, hx⟩ : ∃ x, xs[i]? = some x := ⟨_, List.getElem?_eq_getElem (by rw [HN.out]; exact hlt)⟩
          obtain ⟨g, o, rfl, hg, y0, y1, y2⟩ := fm_at (fm_next HX.out HV.out.below) hx
          have hx2 := HF.out.cell x (List.mem_of_getElem? hx)
          have hlen : (bkS (xs.take i)).length ≤ 41000 := by
            have := bkS_le (xs := xs.take i) fun y hy => (HF.out.cell y (List.mem_of_mem_take hy)).2.2
            rw [List.length_take] at this
            have hl := HF.out.len
            omega
          have HEn : Hid (Calls Tryz.prog 8 #[FVv x] wr fun e w' => ∃ v, e = .returned v ∧ ∃ g c w3, (Builtin.append_ #[29, 29] 29 #[u7, v]).run Tryz.prog w' = .ok (.slice (some ⟨g, 0, none⟩) ((bkS (xs.take i)).length + (x.s.size + 5)) c) w3 ∧ Hid (BV w (.slice (some ⟨g, 0, none⟩) ((bkS (xs.take i)).length + (x.s.size + 5)) c) (Lif 0 (bkS (xs.take (i + 1)))) w3)) := by
            refine (rentry_any x.c x.r x.s wr (by omega)).mono ?_
            rintro e w' ⟨v, rfl, hv⟩
            refine ⟨v, rfl, ?_⟩
            have hV1 : BV w u7 (bkS (xs.take i)) wr := by
              have := HV.out
              unfold Lif at this
              rw [if_pos rfl] at this
              exact this
            obtain ⟨g, c, w3, r3, B3⟩ := (hV1.next hv.below).app hv.bm (by rw [enL_length]; omega) (by rw [enL_length]; omega)
            rw [enL_length] at r3 B3
            refine ⟨g, c, w3, r3, ?_⟩
            show BV _ _ _ _
            unfold Lif
            rw [if_pos rfl, show xs.take (i + 1) = xs.take i ++ [x] by rw [List.take_add_one, hx]; rfl, bkS_snoc]
            exact B3
          clear hx hx2 HV HE HWt HS
          obtain ⟨c1, r1, s1⟩ := x
          dsimp only at y0 y1 y2 HEn
          generalize (bkS (xs.take i)).length + (s1.size + 5) = q at HEn
          go_wp2_with (first | (go_at_call 8; refine HEn.out.mono ?_; rintro e w2 ⟨v2, rfl, g2, c2, w3, r3, B3⟩; have HR3 : Hid _ := r3) | (at_builtin; refine wpList_append_eq rfl _ _ 29 29 rfl _ _ _ _ rfl rfl HR3.out ?_))
          exact ⟨⟨i + 1, by simp, hlt, B3⟩, by simp [intOf]; omega⟩
        · have hlt' : ¬ (i : Int) < (n : Int) := by omega
          obtain rfl : i = n := by omega
          have HV2 : Hid (BV w u7 (Lif 0 (bkS xs)) wr) := by
            have := HV.out
            rw [List.take_of_length_le (by rw [HN.out]; exact Nat.le_refl _)] at this
            exact this
          go_wp2_with fail
          go_meet
          case rel => exact ⟨_, rfl, HV2.out.below, HV2.out.bm⟩
      · have HV2 : Hid (BV w u7 (Lif t (bkS xs)) wr) := by
          have := HV.out
          unfold Lif at this ⊢
          rw [if_neg h0] at this
          show BV _ _ _ _
          rw [if_neg h0]
          exact this
        go_wp2_with fail
        go_meet
        case rel => exact ⟨_, rfl, HV2.out.below, HV2.out.bm⟩
  case rest =>
  obtain ⟨i, rfl, hbc, hwant⟩ := hcut
  have HBc2 : Hid (Bw w wc) := hbc
  have HW5 : Hid (BM wc _ (Lif t (bkS xs))) := hwant
  clear hbc hwant HB5
  apply_assumption
  have HWl : Hid ((Lif t (bkS xs)).length ≤ 41000) := by
    show _ ≤ _
    unfold Lif
    split
    · rename_i h0
      subst h0
      have := bkS_le (xs := xs) fun y hy => (HT.out.fine.cell y hy).2.2
      have := HT.out.fine.len
      omega
    · simp
  go_upto_region 21 with (first | (go_at_call 13; refine (HWt.out _ HBc2.out).mono ?_; rintro e w6 ⟨v6, rfl, hv6, hb6⟩))
  have HB6 : Hid (Bw w w6) := HBc2.out.tr hb6
  have HW6 : Hid (BM w6 u7 (Lif t (bkS xs)) ∧ BM w6 v6 (Lif t (bkS xs))) := ⟨HW5.out.next hb6, hv6⟩
  clear hv6 hb6 HW5 HWt HBc2
  go_upto_region 22 with (first | (go_at_call 10; refine (HS.out w6 t HB6.out).mono ?_; rintro e w7 ⟨rfl, hb7⟩))
  have HB7 : Hid (Bw w w7) := HB6.out.tr hb7
  have HBy : Hid (Calls Tryz.prog 11 #[v6, u7] w7 fun e w' => e = .returned (.bool true) ∧ Bw w7 w') := by
    have := rbytes_any v6 u7 _ _ w7 (HW6.out.2.next hb7) (HW6.out.1.next hb7) (by have := HWl.out; omega)
    rw [decide_eq_true rfl] at this
    exact this
  clear hb7 HW6 HB6
  go_wp2_with (first | (go_at_call 11; refine HBy.out.mono ?_; rintro e w8 ⟨rfl, hb8⟩))
  go_ret
  exact ⟨rfl, HB7.out.tr hb8⟩
end Go.Proofs.YtokfijkhflfioaaGreatDoor.fw

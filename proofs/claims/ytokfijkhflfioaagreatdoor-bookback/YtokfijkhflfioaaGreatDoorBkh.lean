
/- Package book: sum, put. Conditions: as each theorem says. -/
import Derived.Test.YtokfijkhflfioaaGreatDoorBkc
namespace Go.Proofs.YtokfijkhflfioaaGreatDoor.fw
open Go.RowKit Go.Sort
set_option maxRecDepth 1000000 in
set_option maxHeartbeats 8000000 in
theorem sum_any (v : Value) (xs : List UInt8) (w : World) (hv : BM w v xs) (hl : xs.length ≤ 281474976710656) : Calls Tryz.prog 33 #[v] w fun e w' => e = .returned (.int .i64 (smN xs : Int)) ∧ w' = w := by
  obtain ⟨p, c, rfl, hc⟩ := hv
  have HC : Hid (∀ (i : Nat) (x : UInt8), xs[i]? = some x → ∃ g o, p = some ⟨g, o, none⟩ ∧ w.cell? ⟨g, o + i, none⟩ = some (.int .u8 (x.toNat : Int))) := hc
  have hl9 : (xs.length : Int) ≤ 281474976710656 := by omega
  obtain ⟨n, hn⟩ : ∃ n, xs.length = n := ⟨_, rfl⟩
  have HN : Hid (xs.length = n) := hn
  rw [hn] at hl9 ⊢
  clear hn hl hc
  go_enter Tryz.func33, Tryz.ntmps33
  go_wp2_with fail
  go_loopw [3, 8] (fun s3 s8 wr => ∃ i s : Nat, s8 = .int .i64 (i : Int) ∧ i ≤ n ∧ s3 = .int .i64 (s : Int) ∧ s < 65521 ∧ Hid (s = smN (xs.take i)) ∧ w = wr) (fun _ s8 _ => n - (intOf s8).toNat)
  case atStart => exact ⟨0, 1, rfl, Nat.zero_le _, rfl, by decide, rfl, rfl⟩
  case round =>
    obtain ⟨i, s, rfl, hi, rfl, hs, HS, rfl⟩ := hrel
    by_cases hlt : i < n
    · have hlt' : (i : Int) < (n : Int) := by omega
      have hi0 : (0 : Int) ≤ (i : Int) := by omega
      obtain ⟨x, hx⟩ : ∃ x, xs[i]? = some x := ⟨_, List.getElem?_eq_getElem (by rw [HN.out]; exact hlt)⟩
      obtain ⟨g, o, ep, c1⟩ := HC.out i x hx
      have hx9 : (x.toNat : Int) < 256 := by have := x.toNat_lt; omega
      have hx0 : (0 : Int) ≤ (x.toNat : Int) := by omega
      have hs9 : (s : Int) < 65521 := by omega
      have hs0 : (0 : Int) ≤ (s : Int) := by omega
      have HS2 : Hid (stS s x = smN (xs.take (i + 1))) := by
        show _ = _
        rw [List.take_add_one, hx, Option.toList_some, smN_snoc, HS.out]
      have HE : Hid (((s : Int) * 257 + (x.toNat : Int)) % 65521 = ((stS s x : Nat) : Int)) := by
        show _ = _
        unfold stS
        omega
      clear hx HC
      subst ep
      go_wp2_with fail
      exact ⟨⟨i + 1, stS s x, rfl, hlt, by rw [HE.out], Nat.mod_lt _ (by decide), HS2, by first | rfl | trivial⟩, by simp [intOf]; omega⟩
    · have hlt' : ¬ (i : Int) < (n : Int) := by omega
      obtain rfl : i = n := by omega
      have HS2 : Hid ((.int .i64 (s : Int) : Value) = .int .i64 (smN xs : Int)) := by
        show _ = _
        rw [HS.out, List.take_of_length_le (by rw [HN.out]; exact Nat.le_refl _)]
      go_wp2_with fail
      go_ret
      exact ⟨by rw [← HS2.out]; rfl, by first | rfl | trivial⟩
theorem cells3q {w : World} {b : Nat} {a0 a1 a2 : Value} {t : TypeId} (h : w.heap[b]? = some (.cells #[a0, a1, a2] t (0, 0))) : w.cell? ⟨b, 0, none⟩ = some a0 ∧ w.cell? ⟨b, 1, none⟩ = some a1 ∧ w.cell? ⟨b, 2, none⟩ = some a2 := by simp [World.cell?, h]
/-- What is no list of bytes lies as it lay. -/
theorem kept_other {w w' : World} {v : Value} {base n : Nat} {xs : List Value} (h : w.ownsRow base 5 1 v n xs) (hg : w.grownBy w' v.ownBlock) {b : Nat} {o : Obj} (hb : w.heap[b]? = some o) (hno : ∀ cur, o ≠ .cells cur 5 (0, 0)) : w'.heap[b]? = some o := by
  refine (hg.block b (Array.getElem?_eq_some_iff.1 hb).1 ?_).trans hb
  rcases h.2 with ⟨rfl, -⟩ | ⟨g, cap, cur, rfl, -, h3, -⟩
  · exact fun e => by cases e
  · intro e
    have e2 : b = g := by simpa [Value.ownBlock] using e
    subst e2
    rw [hb] at h3
    exact hno cur (Option.some.inj h3)
theorem BV.moreK {w : World} {v : Value} {xs : List UInt8} {wx : World} (h : BV w v xs wx) (ys : List UInt8) (m : Nat) (hm : ys.length = m) (hm0 : 0 < m) (hl : xs.length + m ≤ 140737488355328) (cs : Array Value) (hcs : cs = (bys ys).toArray) :
    ∃ g c w', (Builtin.append_ #[29, 29] 29 #[v, .slice (some ⟨wx.heap.size, 0, none⟩) m m]).run Tryz.prog (wx.alloc (.cells cs 5)) = .ok (.slice (some ⟨g, 0, none⟩) (xs.length + m) c) w' ∧ BV w (.slice (some ⟨g, 0, none⟩) (xs.length + m) c) (xs ++ ys) w' ∧ ∀ (b : Nat) (o : Obj), wx.heap[b]? = some o → (∀ cur, o ≠ .cells cur 5 (0, 0)) → w'.heap[b]? = some o := by
  obtain ⟨i0, hi, hz0, hz1, hz2⟩ := info_parts info5
  have hmax : maxLen = 9223372036854775807 := rfl
  subst hcs
  have h1 := h.next (Bw.al wx (.cells (bys ys).toArray 5))
  obtain ⟨g, c, w', r1, r2, r3, -, -⟩ := run_append_lies (P := Tryz.prog) (w := wx.alloc (.cells (bys ys).toArray 5)) 29 29 w.heap.size 5 i0 (.int .u8 0) 1 1 Tryz.underlying29 hi hz0 hz1 hz2 rfl (by decide) v xs.length (bys xs) h1.own ⟨wx.heap.size, 0, none⟩ m m (bys ys) (by simp [bys, hm]) (World.news_of_block (heap_alloc_new wx _)) (by simp [bys, Value.oneCell']) (by omega) (by omega) (by omega) h1.below.size _ rfl
  refine ⟨g, c, w', r1, ⟨?_, h1.below.grown r3 h1.below.size (fun q hq => (h1.own.lt q hq).1)⟩, fun b o hb hno => kept_other h1.own r3 ((Below.heap_alloc wx _ b (Array.getElem?_eq_some_iff.1 hb).1).trans hb) hno⟩
  have e : bys (xs ++ ys) = bys xs ++ bys ys := by simp [bys]
  rw [e, List.length_append, hm]
  exact r2
theorem BV.strK {w : World} {v : Value} {xs : List UInt8} {wx : World} (h : BV w v xs wx) (s : ByteArray) (hl : xs.length + s.size ≤ 140737488355328) :
    ∃ v' w', (Builtin.append_ #[29, 9] 29 #[v, .string s]).run Tryz.prog wx = .ok v' w' ∧ BV w v' (xs ++ s.toList) w' ∧ ∀ (b : Nat) (o : Obj), wx.heap[b]? = some o → (∀ cur, o ≠ .cells cur 5 (0, 0)) → w'.heap[b]? = some o := by
  obtain ⟨i0, hi, hz0, hz1, hz2⟩ := info_parts info5
  have hmax : maxLen = 9223372036854775807 := rfl
  obtain ⟨v', w', r1, r2, r3, -⟩ := Go.Lib.run_append_own_string (P := Tryz.prog) (w := wx) w.heap.size 29 9 29 5 i0 Tryz.underlying29 Tryz.underlying9 hi hz0 hz1 hz2 v xs.length (bys xs) h.own s (by omega) hl h.below.size
  refine ⟨v', w', r1, ⟨?_, h.below.grown r3 h.below.size (fun q hq => (h.own.lt q hq).1)⟩, fun b o hb hno => kept_other h.own r3 hb hno⟩
  have e : bys (xs ++ s.toList) = bys xs ++ Go.Lib.strCells s := by rw [strCells_bys]; simp [bys]
  rw [e, List.length_append, size_list]
  exact r2
set_option maxRecDepth 1000000 in
set_option maxHeartbeats 8000000 in
theorem put_any (w : World) (v : Value) (xs : List UInt8) (c r : Int) (t : ByteArray) (wx : World) (h : BV w v xs wx) (hx : xs.length ≤ 35184372088832) (ht : t.size ≤ 35184372088832) :
    Calls Tryz.prog 21 #[v, .agg #[.int .i64 c, .int .i64 r, .string t]] wx fun e w' => ∃ v', e = .returned v' ∧ BV w v' (xs ++ enL c r t) w' := by
  have ht9 : (t.size : Int) ≤ 35184372088832 := by omega
  have hx9 : (xs.length : Int) ≤ 35184372088832 := by omega
  have hB : Bw wx (wx.alloc (.cells #[.int .i64 c, .int .i64 r, .string t] 25)) := Bw.al wx _
  obtain ⟨g2, c2, w2, r2, B2, k2⟩ := (h.next hB).moreK [lo8 c, lo8 r, lo8 (t.size : Int)] 3 rfl (by decide) (by omega) #[.int .u8 (c % 256), .int .u8 (r % 256), .int .u8 ((t.size : Int) % 256)] (by simp [bys, lo8_is])
  have b2 := k2 wx.heap.size _ (heap_alloc_new wx _) (fun cur e => by cases e)
  clear k2
  obtain ⟨v3, w3, r3, B3, k3⟩ := B2.strK t (by simp; omega)
  have e3 : xs ++ [lo8 c, lo8 r, lo8 (t.size : Int)] ++ t.toList = xs ++ enB c r t := by unfold enB; simp
  rw [e3] at B3
  have hnB := enB_length c r t
  have hn3 : (xs ++ enB c r t).length = xs.length + (t.size + 3) := by rw [List.length_append, hnB]
  obtain ⟨p3, c3, rfl, ⟨h0, -⟩ | ⟨g3, rfl, hc3⟩⟩ := B3.form
  · rw [hn3] at h0; omega
  have BM3 : BM w3 (.slice (some ⟨g3, xs.length, none⟩) (t.size + 3) (c3 - xs.length)) (enB c r t) := by
    obtain ⟨p, c', e, h3⟩ := B3.bm
    injection e with e1 e2 e4
    subst e1
    refine ⟨_, _, by rw [hnB], fun i x hx => ?_⟩
    obtain ⟨g, o, e5, h5⟩ := h3 (xs.length + i) x (by rw [List.getElem?_append_right (Nat.le_add_right _ _), Nat.add_sub_cancel_left]; exact hx)
    cases e5
    exact ⟨_, _, rfl, by rw [Nat.zero_add] at h5; exact h5⟩
  have HS : Hid (Calls Tryz.prog 33 #[.slice (some ⟨g3, xs.length, none⟩) (t.size + 3) (c3 - xs.length)] w3 fun e w' => e = .returned (.int .i64 (smN (enB c r t) : Int)) ∧ w' = w3) := sum_any _ _ w3 BM3 (by rw [hnB]; omega)
  obtain ⟨s, hs⟩ : ∃ s, smN (enB c r t) = s := ⟨_, rfl⟩
  have hs9 : (s : Int) < 65521 := by have := smN_lt (enB c r t); omega
  have hs0 : (0 : Int) ≤ (s : Int) := by omega
  obtain ⟨g4, c4, w4, r4, B4, -⟩ := B3.moreK [UInt8.ofNat (s % 256), UInt8.ofNat (s / 256)] 2 rfl (by decide) (by rw [hn3]; omega) #[.int .u8 ((s : Int) % 256), .int .u8 ((s : Int) / 256)] (by
    have h1 : ((UInt8.ofNat (s % 256)).toNat : Int) = (s : Int) % 256 := by rw [UInt8.toNat_ofNat']; omega
    have h2 : ((UInt8.ofNat (s / 256)).toNat : Int) = (s : Int) / 256 := by rw [UInt8.toNat_ofNat']; omega
    rw [← h1, ← h2]
    rfl)
  have HO : Hid (BV w (.slice (some ⟨g4, 0, none⟩) (xs.length + (t.size + 3) + 2) c4) (xs ++ enL c r t) w4) := by
    show BV _ _ _ _
    rw [hn3] at B4
    rw [enL_is, ← List.append_assoc]
    unfold sm2
    rw [hs]
    exact B4
  rw [hn3] at r4 r3 hc3
  rw [hs] at HS
  obtain ⟨p0, c0, rfl, hp0⟩ := h.form
  obtain ⟨y0, y1, y2⟩ := cells3q b2
  have HR2 : Hid ((Builtin.append_ #[29, 29] 29 #[.slice p0 xs.length c0, .slice (some ⟨wx.heap.size + 1, 0, none⟩) 3 3]).run Tryz.prog ((wx.alloc (.cells #[.int .i64 c, .int .i64 r, .string t] 25)).alloc (.cells #[.int .u8 (c % 256), .int .u8 (r % 256), .int .u8 ((t.size : Int) % 256)] 5)) = .ok (.slice (some ⟨g2, 0, none⟩) (xs.length + 3) c2) w2) := by
    show _ = _
    simpa using r2
  have HR3 : Hid ((Builtin.append_ #[29, 9] 29 #[.slice (some ⟨g2, 0, none⟩) (xs.length + 3) c2, .string t]).run Tryz.prog w2 = .ok (.slice (some ⟨g3, 0, none⟩) (xs.length + (t.size + 3)) c3) w3) := r3
  have HR4 : Hid ((Builtin.append_ #[29, 29] 29 #[.slice (some ⟨g3, 0, none⟩) (xs.length + (t.size + 3)) c3, .slice (some ⟨w3.heap.size, 0, none⟩) 2 2]).run Tryz.prog (w3.alloc (.cells #[.int .u8 ((s : Int) % 256), .int .u8 ((s : Int) / 256)] 5)) = .ok (.slice (some ⟨g4, 0, none⟩) (xs.length + (t.size + 3) + 2) c4) w4) := r4
  clear r2 r3 r4 B2 B3 B4 b2 BM3 e3 hs
  go_enter Tryz.func21, Tryz.ntmps21
  go_upto_region 3 with (first | (at_builtin; refine wpList_append_eq rfl _ _ 29 29 rfl _ _ _ _ rfl rfl HR2.out ?_))
  clear HR2
  go_upto_region 4 with (first | (at_builtin; refine wpList_append_eq rfl _ _ 29 9 rfl _ _ _ _ rfl rfl HR3.out ?_))
  clear HR3
  generalize hxn : xs.length = n at *
  generalize htm : t.size = m at *
  clear hp0 h hnB hn3 k3
  have hsl : (n : Int) ≤ ((n + (m + 3) : Nat) : Int) := by omega
  go_upto_region 5 with (first | (go_at_call 33; refine HS.out.mono ?_; rintro e w5 ⟨rfl, rfl⟩))
  go_wp2_with (first | (at_builtin; refine wpList_append_eq rfl _ _ 29 29 rfl _ _ _ _ rfl rfl HR4.out ?_))
  go_ret
  exact ⟨_, rfl, HO.out⟩
end Go.Proofs.YtokfijkhflfioaaGreatDoor.fw

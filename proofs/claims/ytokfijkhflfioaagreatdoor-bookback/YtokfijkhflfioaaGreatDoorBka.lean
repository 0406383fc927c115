
/- The document's Entry: a cell and its text as bytes, walked. Conditions: as each theorem says. -/
import Derived.Test.YtokfijkhflfioaaGreatDoorFwa
namespace Go.Proofs.YtokfijkhflfioaaGreatDoor.fw
open Go.RowKit Go.Sort
/-- A number's low byte. -/
def lo8 (c : Int) : UInt8 := UInt8.ofNat (c % 256).toNat
theorem lo8_is (c : Int) : ((lo8 c).toNat : Int) = c % 256 := by
  have h1 : 0 ≤ c % 256 ∧ c % 256 < 256 := ⟨Int.emod_nonneg _ (by decide), Int.emod_lt_of_pos _ (by decide)⟩
  unfold lo8
  rw [UInt8.toNat_ofNat']
  omega
/-- A step of the sum, and the sum of bytes. -/
def stS (s : Nat) (x : UInt8) : Nat := (s * 257 + x.toNat) % 65521
def smN (l : List UInt8) : Nat := l.foldl stS 1
theorem smN_snoc (l : List UInt8) (x : UInt8) : smN (l ++ [x]) = stS (smN l) x := by simp [smN, List.foldl_append]
theorem smN_lt (l : List UInt8) : smN l < 65521 := by
  rcases List.eq_nil_or_concat l with rfl | ⟨l', x, rfl⟩
  · decide
  · rw [List.concat_eq_append, smN_snoc]; exact Nat.mod_lt _ (by decide)
/-- What stands ahead of an entry's sum; an entry. -/
def enB (c r : Int) (t : ByteArray) : List UInt8 := [lo8 c, lo8 r, lo8 (t.size : Int)] ++ t.toList
def enL (c r : Int) (t : ByteArray) : List UInt8 := enB c r t ++ [UInt8.ofNat (smN (enB c r t) % 256), UInt8.ofNat (smN (enB c r t) / 256)]
theorem enB_length (c r : Int) (t : ByteArray) : (enB c r t).length = t.size + 3 := by unfold enB; rw [List.length_append, size_list]; simp; omega
theorem enL_length (c r : Int) (t : ByteArray) : (enL c r t).length = t.size + 5 := by unfold enL; rw [List.length_append, enB_length]; rfl
theorem BV.made {w wx : World} (hb : Bw w wx) (xs : List UInt8) (n : Nat) (hn : xs.length = n) (hm : n ≤ 140737488355328) (cs : Array Value) (hcs : cs = (bys xs).toArray) : BV w (.slice (some ⟨wx.heap.size, 0, none⟩) n n) xs (wx.alloc (.cells cs 5)) := by
  subst hn hcs
  have hmax : maxLen = 9223372036854775807 := rfl
  refine ⟨⟨by simp [bys], .inr ⟨wx.heap.size, xs.length, (bys xs).toArray, rfl, hb.size, heap_alloc_new wx _, Nat.le_refl _, by omega, by simp [bys], ?_⟩⟩, hb.tr (Bw.al wx _)⟩
  exact List.take_of_length_le (by simp [bys])
theorem BV.more {w : World} {v : Value} {xs : List UInt8} {wx : World} (h : BV w v xs wx) (ys : List UInt8) (m : Nat) (hm : ys.length = m) (hm0 : 0 < m) (hl : xs.length + m ≤ 140737488355328) (cs : Array Value) (hcs : cs = (bys ys).toArray) :
    ∃ g c w', (Builtin.append_ #[29, 29] 29 #[v, .slice (some ⟨wx.heap.size, 0, none⟩) m m]).run Tryz.prog (wx.alloc (.cells cs 5)) = .ok (.slice (some ⟨g, 0, none⟩) (xs.length + m) c) w' ∧ BV w (.slice (some ⟨g, 0, none⟩) (xs.length + m) c) (xs ++ ys) w' := by
  obtain ⟨i0, hi, hz0, hz1, hz2⟩ := info_parts info5
  have hmax : maxLen = 9223372036854775807 := rfl
  subst hcs
  have h1 := h.next (Bw.al wx (.cells (bys ys).toArray 5))
  obtain ⟨g, c, w', r1, r2, r3, -, -⟩ := run_append_lies (P := Tryz.prog) (w := wx.alloc (.cells (bys ys).toArray 5)) 29 29 w.heap.size 5 i0 (.int .u8 0) 1 1 Tryz.underlying29 hi hz0 hz1 hz2 rfl (by decide) v xs.length (bys xs) h1.own ⟨wx.heap.size, 0, none⟩ m m (bys ys) (by simp [bys, hm]) (World.news_of_block (heap_alloc_new wx _)) (by simp [bys, Value.oneCell']) (by omega) (by omega) (by omega) h1.below.size _ rfl
  refine ⟨g, c, w', r1, ⟨?_, h1.below.grown r3 h1.below.size (fun q hq => (h1.own.lt q hq).1)⟩⟩
  have e : bys (xs ++ ys) = bys xs ++ bys ys := by simp [bys]
  rw [e, List.length_append, hm]
  exact r2
theorem BV.cell {w : World} {xs : List UInt8} {wx : World} {g n c : Nat} (h : BV w (.slice (some ⟨g, 0, none⟩) n c) xs wx) {i : Nat} {x : UInt8} (hx : xs[i]? = some x) : wx.cell? ⟨g, i, none⟩ = some (.int .u8 (x.toNat : Int)) := by
  have := World.ownsRow.cells h.own (g := g) rfl i _ (by unfold bys; rw [List.getElem?_map, hx]; rfl)
  simp only [Addr.add] at this
  by_cases h0 : i = 0
  · subst h0; exact this
  · rw [if_neg (by simpa using h0)] at this
    simpa using this
/-- What Entry answers. -/
def EnO (w : World) (c r : Int) (t : ByteArray) (e : Ending) (w' : World) : Prop := ∃ v, e = .returned v ∧ BV w v (enL c r t) w'
set_option maxRecDepth 1000000 in
set_option maxHeartbeats 8000000 in
theorem rentry_any (c r : Int) (t : ByteArray) (w : World) (ht : t.size ≤ 70368744177664) : Calls Tryz.prog 8 #[.agg #[.int .i64 c, .int .i64 r, .string t]] w fun e w' => EnO w c r t e w' := by
  have ht9 : (t.size : Int) ≤ 70368744177664 := by omega
  go_enter Tryz.func8, Tryz.ntmps8
  go_upto_region 2 with fail
  have HB : BV w (.slice (some ⟨w.heap.size + 1, 0, none⟩) 3 3) [lo8 c, lo8 r, lo8 (t.size : Int)] ((w.alloc (.cells #[.int .i64 c, .int .i64 r, .string t] 25)).alloc (.cells #[.int .u8 (c % 256), .int .u8 (r % 256), .int .u8 ((t.size : Int) % 256)] 5)) := by
    have h := BV.made (w := w) (Bw.al w (.cells #[.int .i64 c, .int .i64 r, .string t] 25)) [lo8 c, lo8 r, lo8 (t.size : Int)] 3 rfl (by decide) #[.int .u8 (c % 256), .int .u8 (r % 256), .int .u8 ((t.size : Int) % 256)] (by simp [bys, lo8_is])
    simpa using h
  obtain ⟨v3, w3, r3, B3⟩ := HB.str t (by simp; omega)
  have B4 : BV w v3 (enB c r t) w3 := B3
  obtain ⟨p3, c3, rfl, ⟨h0, -⟩ | ⟨g3, rfl, hc3⟩⟩ := B4.form
  · rw [enB_length] at h0; omega
  have H4 : Hid (BV w (.slice (some ⟨g3, 0, none⟩) (enB c r t).length c3) (enB c r t) w3) := B4
  obtain ⟨n3, en3⟩ : ∃ n, (enB c r t).length = n := ⟨_, rfl⟩
  have HN : Hid ((enB c r t).length = n3) := en3
  rw [en3] at r3 H4
  have hn3 : n3 ≤ 70368744177664 + 3 := by rw [← en3, enB_length]; omega
  have hn9 : (n3 : Int) ≤ 70368744177667 := by omega
  have HR3 : Hid ((Builtin.append_ #[29, 9] 29 #[.slice (some ⟨w.heap.size + 1, 0, none⟩) 3 3, .string t]).run Tryz.prog ((w.alloc (.cells #[.int .i64 c, .int .i64 r, .string t] 25)).alloc (.cells #[.int .u8 (c % 256), .int .u8 (r % 256), .int .u8 ((t.size : Int) % 256)] 5)) = .ok (.slice (some ⟨g3, 0, none⟩) n3 c3) w3) := r3
  clear B3 B4 HB en3 hc3 r3
  go_upto_block 0 with (first | (at_builtin; refine wpList_append_eq rfl _ _ 29 9 rfl _ _ _ _ rfl rfl HR3.out ?_))
  clear HR3
  go_cut [4] (fun s4 wx => s4 = .int .i64 (smN (enB c r t) : Int) ∧ w3 = wx)
  case first =>
    go_wp2_with fail
    go_loopw [4, 5] (fun s4 s5 wr => ∃ i s : Nat, s5 = .int .i64 (i : Int) ∧ i ≤ n3 ∧ s4 = .int .i64 (s : Int) ∧ s < 65521 ∧ Hid (s = smN ((enB c r t).take i)) ∧ w3 = wr) (fun _ s5 _ => n3 - (intOf s5).toNat)
    case atStart => exact ⟨0, 1, rfl, Nat.zero_le _, rfl, by decide, rfl, rfl⟩
    case round =>
      obtain ⟨i, s, rfl, hi, rfl, hs, HS, rfl⟩ := hrel
      by_cases hlt : i < n3
      · have hlt' : (i : Int) < (n3 : Int) := by omega
        have hi0 : (0 : Int) ≤ (i : Int) := by omega
        obtain ⟨x, hx⟩ : ∃ x, (enB c r t)[i]? = some x := ⟨_, List.getElem?_eq_getElem (by rw [HN.out]; exact hlt)⟩
        have c1 := H4.out.cell hx
        have hx9 : (x.toNat : Int) < 256 := by have := x.toNat_lt; omega
        have hx0 : (0 : Int) ≤ (x.toNat : Int) := by omega
        have hs9 : (s : Int) < 65521 := by omega
        have hs0 : (0 : Int) ≤ (s : Int) := by omega
        have HS2 : Hid (stS s x = smN ((enB c r t).take (i + 1))) := by
          show _ = _
          rw [List.take_add_one, hx, Option.toList_some, smN_snoc, HS.out]
        have HE : Hid (((s : Int) * 257 + (x.toNat : Int)) % 65521 = ((stS s x : Nat) : Int)) := by
          show _ = _
          unfold stS
          omega
        clear hx
        go_wp2_with fail
        exact ⟨⟨i + 1, stS s x, rfl, hlt, by rw [HE.out], Nat.mod_lt _ (by decide), HS2, by first | rfl | trivial⟩, by simp [intOf]; omega⟩
      · have hlt' : ¬ (i : Int) < (n3 : Int) := by omega
        obtain rfl : i = n3 := by omega
        have HS2 : Hid ((.int .i64 (s : Int) : Value) = .int .i64 (smN (enB c r t) : Int)) := by
          show _ = _
          rw [HS.out, List.take_of_length_le (by rw [HN.out]; exact Nat.le_refl _)]
        go_wp2_with fail
        go_meet
        case rel => exact ⟨HS2.out, rfl⟩
  case rest =>
  obtain ⟨rfl, rfl⟩ := hcut
  apply_assumption
  obtain ⟨s, hs⟩ : ∃ s, smN (enB c r t) = s := ⟨_, rfl⟩
  have HS : Hid (smN (enB c r t) = s) := hs
  have hs9 : (s : Int) < 65521 := by have := smN_lt (enB c r t); omega
  have hs0 : (0 : Int) ≤ (s : Int) := by omega
  obtain ⟨g4, c4, w4, r4, B4⟩ := H4.out.more [UInt8.ofNat (s % 256), UInt8.ofNat (s / 256)] 2 rfl (by decide) (by rw [HN.out]; omega) #[.int .u8 ((s : Int) % 256), .int .u8 ((s : Int) / 256)] (by
    have h1 : ((UInt8.ofNat (s % 256)).toNat : Int) = (s : Int) % 256 := by rw [UInt8.toNat_ofNat']; omega
    have h2 : ((UInt8.ofNat (s / 256)).toNat : Int) = (s : Int) / 256 := by rw [UInt8.toNat_ofNat']; omega
    rw [← h1, ← h2]
    rfl)
  rw [HN.out] at r4 B4
  have HO : Hid (EnO w c r t (.returned (.slice (some ⟨g4, 0, none⟩) (n3 + 2) c4)) w4) := by
    refine ⟨_, rfl, ?_⟩
    unfold enL
    rw [HS.out]
    exact B4
  have HR4 : Hid ((Builtin.append_ #[29, 29] 29 #[.slice (some ⟨g3, 0, none⟩) n3 c3, .slice (some ⟨w3.heap.size, 0, none⟩) 2 2]).run Tryz.prog (w3.alloc (.cells #[.int .u8 ((s : Int) % 256), .int .u8 ((s : Int) / 256)] 5)) = .ok (.slice (some ⟨g4, 0, none⟩) (n3 + 2) c4) w4) := r4
  rw [hs]
  clear hs r4 B4
  go_wp2_with (first | (at_builtin; refine wpList_append_eq rfl _ _ 29 29 rfl _ _ _ _ rfl rfl HR4.out ?_))
  exact bodyPost_ret (v := .slice (some ⟨g4, 0, none⟩) (n3 + 2) c4) (by simp [results, Tryz.results8, go_sem]) rfl HO
end Go.Proofs.YtokfijkhflfioaaGreatDoor.fw


/- A quoted text. Condition: the text has at most 200 bytes. -/
import Derived.Test.YtomgjjngkffbbaaGreatDoorFe4
import Derived.Test.YtomgjjngkffbbaaGreatDoorNum
namespace Go.Proofs.YtomgjjngkffbbaaGreatDoor.fm
open Go.RowKit
theorem slCut_no (t : ByteArray) (w : World) (h : Lib.indexByte t.data.toList 34 = -1) :
    Calls Tryz.prog 171 #[.string t, .string ⟨#[34]⟩] w fun e w' => e = .returned (.tuple #[.string t, .string nul, .bool false]) ∧ Below w.heap.size w w' := by
  have HI : Hid (Lib.indexByte t.data.toList 34 = -1) := h
  clear h
  go_enter Tryz.func171, Tryz.ntmps171
  go_wp2_with fail
  refine (Tryz.stringslite_Index_one t 34 _).mono ?_
  rintro e w1 ⟨rfl, rfl⟩
  rw [HI.out]
  go_wp2_with fail
  go_ret3
  exact ⟨rfl, Below.refl _ _⟩
theorem slCut_yes (t : ByteArray) (w : World) (i : Nat) (ht : t.size ≤ 200) (h : Lib.indexByte t.data.toList 34 = (i : Int)) (hi : i < t.size) :
    Calls Tryz.prog 171 #[.string t, .string ⟨#[34]⟩] w fun e w' => e = .returned (.tuple #[.string (t.extract 0 i), .string (t.extract (i + 1) t.size), .bool true]) ∧ Below w.heap.size w w' := by
  have HI : Hid (Lib.indexByte t.data.toList 34 = (i : Int)) := h
  have h0 : (0 : Int) ≤ (i : Int) := by omega
  clear h
  go_enter Tryz.func171, Tryz.ntmps171
  go_wp2_with fail
  refine (Tryz.stringslite_Index_one t 34 _).mono ?_
  rintro e w1 ⟨rfl, rfl⟩
  rw [HI.out]
  go_wp2_with fail
  go_region
  all_goals
    go_wp2_with fail
    go_ret3
    exact ⟨rfl, (Below.refl _ _).drew⟩
theorem cut_no (t : ByteArray) (w : World) (h : Lib.indexByte t.data.toList 34 = -1) :
    Calls Tryz.prog 163 #[.string t, .string ⟨#[34]⟩] w fun e w' => e = .returned (.tuple #[.string t, .string nul, .bool false]) ∧ Below w.heap.size w w' := by
  have HI : Hid (Lib.indexByte t.data.toList 34 = -1) := h
  clear h
  go_enter Tryz.func163, Tryz.ntmps163
  go_wp2_with fail
  refine (slCut_no t _ HI.out).mono ?_
  rintro e w1 ⟨rfl, hb⟩
  go_wp2_with fail
  go_ret3
  exact ⟨rfl, hb⟩
theorem cut_yes (t : ByteArray) (w : World) (i : Nat) (ht : t.size ≤ 200) (h : Lib.indexByte t.data.toList 34 = (i : Int)) (hi : i < t.size) :
    Calls Tryz.prog 163 #[.string t, .string ⟨#[34]⟩] w fun e w' => e = .returned (.tuple #[.string (t.extract 0 i), .string (t.extract (i + 1) t.size), .bool true]) ∧ Below w.heap.size w w' := by
  have HI : Hid (Lib.indexByte t.data.toList 34 = (i : Int)) := h
  clear h
  go_enter Tryz.func163, Tryz.ntmps163
  go_wp2_with fail
  refine (slCut_yes t _ i ht HI.out hi).mono ?_
  rintro e w1 ⟨rfl, hb⟩
  go_wp2_with fail
  go_ret3
  exact ⟨rfl, hb⟩
theorem idx_cases (l : List UInt8) (c : UInt8) : Lib.indexByte l c = -1 ∨ ∃ i : Nat, Lib.indexByte l c = (i : Int) ∧ i < l.length := by
  induction l with
  | nil => left; rfl
  | cons b l ih =>
    unfold Lib.indexByte
    split
    · right; exact ⟨0, rfl, by simp⟩
    · rcases ih with h | ⟨i, h, hi⟩
      · left; rw [h]; rfl
      · right
        rw [h, if_neg (by rw [beq_iff_eq]; omega)]
        exact ⟨i + 1, rfl, by simp; omega⟩
theorem drop_cons (s : ByteArray) (p : Nat) (h : p < s.size) : s.data.toList.drop p = s[p] :: s.data.toList.drop (p + 1) := by
  rw [List.drop_eq_getElem_cons (by simpa using h)]; rfl
theorem quote_no (s : ByteArray) (p : Nat) (acc : List UInt8) : Lib.indexByte (s.data.toList.drop p) 34 = -1 → quote s p acc = none := by
  fun_induction quote s p acc with
  | case1 p acc h h1 h2 ih => intro e; rw [drop_cons s p h] at e; unfold Lib.indexByte at e; simp [h1] at e
  | case2 p acc h h1 h2 => intro e; rw [drop_cons s p h] at e; unfold Lib.indexByte at e; simp [h1] at e
  | case3 p acc h h1 ih =>
    intro e
    apply ih
    rw [drop_cons s p h] at e
    unfold Lib.indexByte at e
    rw [if_neg (by simpa using h1)] at e
    rcases idx_cases (s.data.toList.drop (p + 1)) 34 with h3 | ⟨i, h3, _⟩
    · exact h3
    · rw [h3, if_neg (by rw [beq_iff_eq]; omega)] at e; omega
  | case4 p acc h => intro e; rfl
theorem quote_hit (s : ByteArray) (p : Nat) (acc : List UInt8) : ∀ i : Nat, Lib.indexByte (s.data.toList.drop p) 34 = (i : Int) → p + i < s.size ∧ quote s p acc = if nx s (p + i + 1) = 34 then quote s (p + i + 2) (acc ++ (s.data.toList.drop p).take i ++ [34]) else some (acc ++ (s.data.toList.drop p).take i, p + i + 1) := by
  fun_induction quote s p acc with
  | case1 p acc h h1 h2 ih =>
    intro i e
    rw [drop_cons s p h] at e
    unfold Lib.indexByte at e
    rw [if_pos (by simpa using h1)] at e
    obtain rfl : i = 0 := by omega
    refine ⟨h, ?_⟩
    rw [if_pos (by simpa using h2)]
    simp
  | case2 p acc h h1 h2 =>
    intro i e
    rw [drop_cons s p h] at e
    unfold Lib.indexByte at e
    rw [if_pos (by simpa using h1)] at e
    obtain rfl : i = 0 := by omega
    refine ⟨h, ?_⟩
    rw [if_neg (by simpa using h2)]
    simp
  | case3 p acc h h1 ih =>
    intro i e
    rw [drop_cons s p h] at e
    unfold Lib.indexByte at e
    rw [if_neg (by simpa using h1)] at e
    rcases idx_cases (s.data.toList.drop (p + 1)) 34 with h3 | ⟨j, h3, _⟩
    · rw [h3] at e; simp at e
    · rw [h3, if_neg (by rw [beq_iff_eq]; omega)] at e
      obtain rfl : i = j + 1 := by omega
      obtain ⟨q1, q2⟩ := ih j h3
      refine ⟨by omega, ?_⟩
      rw [q2, drop_cons s p h, show p + 1 + j + 1 = p + (j + 1) + 1 from by omega, show p + 1 + j + 2 = p + (j + 1) + 2 from by omega]
      simp
  | case4 p acc h =>
    intro i e
    rw [List.drop_eq_nil_of_le (by simp; omega)] at e
    simp [Lib.indexByte] at e
theorem ext_drop (s : ByteArray) (p i : Nat) : ((s.extract p s.size).extract i (s.extract p s.size).size) = s.extract (p + i) s.size := by
  apply ByteArray.ext
  apply Array.ext'
  have h1 := ext_list (s.extract p s.size) i
  rw [h1, ext_list, ext_list, List.drop_drop]
theorem ext_take (s : ByteArray) (p i : Nat) : ((s.extract p s.size).extract 0 i).data.toList = (s.data.toList.drop p).take i := by
  simp
  omega
theorem ba_of {b : ByteArray} {l : List UInt8} (h : b.data.toList = l) : b = ⟨l.toArray⟩ := by
  subst h
  rfl
set_option maxHeartbeats 4000000 in
theorem quoted_any (s : ByteArray) (hs : s.size ≤ 200) (rb k d : Nat) (w : World) (h : RD w rb s k d) (hk : k < s.size) (RR : Rs T) (hRR : RR = match quote s (k + 1) [] with | none => .err k 2 | some (l, k') => .ok (tText ⟨l.toArray⟩) k') :
    Calls Tryz.prog 153 #[ptr rb] w (Out w rb s d RR) := by
  have HRR : Hid (RR = match quote s (k + 1) [] with | none => .err k 2 | some (l, k') => .ok (tText ⟨l.toArray⟩) k') := hRR
  have hrl := h.lt
  have hR0 := h.alloc (.cells NZ 77)
  have hK0 := (Kp.refl (· = rb) w).alloc (.cells NZ 77)
  have hq0 := blk_new w (.cells NZ 77)
  have hsx : 1 ≤ (s.extract k s.size).size := by rw [ByteArray.size_extract]; omega
  have he := ext_drop s k 1
  have HE : Hid ((s.extract k s.size).extract 1 (s.extract k s.size).size = s.extract (k + 1) s.size) := he
  clear hRR he
  go_enter Tryz.func153, Tryz.ntmps153
  go_wp2_with fail
  refine (rest_any rb _ d s _ hR0 (by omega)).mono ?_
  rintro e w1 ⟨rfl, hb1⟩
  have hR1 := hR0.below hb1
  have hK1 := hK0.below hb1
  have hq1 := ((Kp.refl (fun _ => False) _).below hb1).blk hq0 id
  generalize hx : s.extract k s.size = sx at *
  clear hx
  go_wp2_with fail
  rw [HE.out]
  clear HE
  go_loopw [3, 4] (fun a b wr => ∃ (B : ByteArray) (p : Nat), a = .string B ∧ b = .string (s.extract p s.size) ∧ p ≤ s.size ∧ B.size ≤ p ∧ quote s (k + 1) [] = quote s p B.data.toList ∧ RD wr rb s k d ∧ wr.heap[w.heap.size]? = some (.cells NZ 77 (0, 0)) ∧ Kp (· = rb) w wr) (fun _ b _ => match b with | .string t => t.size | _ => 0)
  case atStart => exact ⟨nul, k + 1, rfl, rfl, hk, Nat.zero_le _, rfl, hR1, hq1, hK1⟩
  case round =>
    clear hR1 hq1 hK1
    obtain ⟨B, p, rfl, rfl, hp, hBp, hqq, hR, hq, hK⟩ := hrel
    have HQQ : Hid (quote s (k + 1) [] = quote s p B.data.toList) := hqq
    clear hqq
    have hxl := ext_list s p
    have hxs : (s.extract p s.size).size = s.size - p := by rw [ByteArray.size_extract]; omega
    rcases idx_cases (s.extract p s.size).data.toList 34 with hi | ⟨i, hi, hil⟩
    · have HRT : Hid (RR = .err k 2) := by
        have h1 := HRR.out
        rw [HQQ.out, quote_no s p _ (by rw [← hxl]; exact hi)] at h1
        exact h1
      have HII : Hid (Lib.indexByte (s.extract p s.size).data.toList 34 = -1) := hi
      clear hi HRR HQQ hxl
      generalize s.extract p s.size = sp at *
      go_wp2_with fail
      refine (cut_no sp _ HII.out).mono ?_
      rintro e w2 ⟨rfl, hb2⟩
      have hR2 := hR.below hb2
      have hK2 := hK.below hb2
      go_wp2_with fail
      refine (fault_any rb _ d 2 s _ hR2).mono ?_
      rintro e w3 ⟨rfl, hb3⟩
      go_wp2_with fail
      refine ⟨rfl, ?_⟩
      rw [HRT.out]
      exact ⟨rfl, hK2.below hb3⟩
    · obtain ⟨hlt, hqi⟩ := quote_hit s p B.data.toList i (by rw [← hxl]; exact hi)
      have HII : Hid (Lib.indexByte (s.extract p s.size).data.toList 34 = (i : Int)) := hi
      have HT := ext_take s p i
      have HD := ext_drop s p (i + 1)
      have hA : (B ++ (s.extract p s.size).extract 0 i).data.toList = B.data.toList ++ (s.data.toList.drop p).take i := by rw [← HT]; simp
      have hAs : (B ++ (s.extract p s.size).extract 0 i).size = B.size + i := by simp; omega
      have HAA : Hid ((B ++ (s.extract p s.size).extract 0 i).data.toList = B.data.toList ++ (s.data.toList.drop p).take i) := hA
      have hpr : Lib.hasPrefix (s.extract (p + (i + 1)) s.size).data.toList (⟨#[34]⟩ : ByteArray).data.toList = decide (nx s (p + i + 1) = 34) := by
        rw [pre_extract]; exact pre_one s _ 34 (by omega) (by omega)
      have HPR : Hid (Lib.hasPrefix (s.extract (p + (i + 1)) s.size).data.toList (⟨#[34]⟩ : ByteArray).data.toList = decide (nx s (p + i + 1) = 34)) := hpr
      have hbs : (s.extract (p + (i + 1)) s.size).size = s.size - (p + i + 1) := by rw [ByteArray.size_extract]; omega
      have hpts : ((s.extract p s.size).extract 0 i).size ≤ 200 := by rw [ByteArray.size_extract]; omega
      have hB200 : B.size ≤ 200 := by omega
      have HAS : Hid ((B ++ (s.extract p s.size).extract 0 i).size = B.size + i) := hAs
      clear hAs
      have HDD : Hid ((s.extract p s.size).extract (i + 1) (s.extract p s.size).size = s.extract (p + (i + 1)) s.size) := HD
      have HD2 : Hid ((s.extract (p + (i + 1)) s.size).extract 1 (s.extract (p + (i + 1)) s.size).size = s.extract (p + i + 2) s.size) := by
        have := ext_drop s (p + (i + 1)) 1
        rw [show p + (i + 1) + 1 = p + i + 2 from by omega] at this
        exact this
      have hil' : i < (s.extract p s.size).size := by omega
      clear hi hil hpr HT HD hA hxl
      by_cases c : nx s (p + i + 1) = 34
      · have hlt2 := nx_lt (s := s) (k := p + i + 1) (by omega)
        have HC : Hid (nx s (p + i + 1) = 34) := c
        have HQ2 : Hid (quote s (k + 1) [] = quote s (p + i + 2) (B.data.toList ++ (s.data.toList.drop p).take i ++ [34])) := by
          unfold Hid
          rw [HQQ.out, hqi, if_pos c]
        clear c hqi HQQ
        have h1 : (1 : Int) ≤ ((s.extract (p + (i + 1)) s.size).size : Int) := by omega
        have h1n : 1 ≤ (s.extract (p + (i + 1)) s.size).size := by omega
        have hms : (s.extract (p + i + 2) s.size).size = s.size - (p + i + 2) := by rw [ByteArray.size_extract]; omega
        have HMS : Hid ((s.extract (p + i + 2) s.size).size < (s.extract p s.size).size) := by unfold Hid; omega
        clear hms hxs hbs
        go_wp2_with fail
        refine (cut_yes _ _ i (by rw [ByteArray.size_extract]; omega) HII.out hil').mono ?_
        rintro e w2 ⟨rfl, hb2⟩
        rw [HDD.out]
        have hR2 := hR.below hb2
        have hK2 := hK.below hb2
        have hq2 := ((Kp.refl (fun _ => False) _).below hb2).blk hq id
        generalize (s.extract p s.size).extract 0 i = pt at *
        generalize s.extract (p + (i + 1)) s.size = bh at *
        go_wp2_with fail
        refine (prefix_any _ _ _).mono ?_
        rintro e w3 ⟨rfl, rfl⟩
        rw [HPR.out, decide_eq_true HC.out]
        go_wp2_with fail
        rw [HD2.out]
        have hsz : (B ++ pt ++ (⟨#[34]⟩ : ByteArray)).size = B.size + i + 1 := by
          have := HAS.out
          rw [ByteArray.size_append, this]; rfl
        refine ⟨⟨B ++ pt ++ ⟨#[34]⟩, p + i + 2, rfl, rfl, by omega, by omega, ?_, hR2, hq2, hK2⟩, HMS.out⟩
        rw [HQ2.out]
        have := HAA.out
        rw [ByteArray.data_append, Array.toList_append, this]
      · have HC : Hid (¬ nx s (p + i + 1) = 34) := c
        have HRT : Hid (RR = .ok (tText ⟨(B.data.toList ++ (s.data.toList.drop p).take i).toArray⟩) (p + i + 1)) := by
          have h1 := HRR.out
          rw [HQQ.out, hqi, if_neg c] at h1
          exact h1
        clear c hqi HQQ HRR
        go_wp2_with fail
        refine (cut_yes _ _ i (by rw [ByteArray.size_extract]; omega) HII.out hil').mono ?_
        rintro e w2 ⟨rfl, hb2⟩
        rw [HDD.out]
        have hR2 := hR.below hb2
        have hK2 := hK.below hb2
        have hq2 := ((Kp.refl (fun _ => False) _).below hb2).blk hq id
        have hbs' : (s.extract (p + (i + 1)) s.size).size ≤ s.size := by omega
        have HBS : Hid ((s.extract (p + (i + 1)) s.size).size = s.size - (p + i + 1)) := hbs
        clear hbs hxs
        generalize (s.extract p s.size).extract 0 i = pt at *
        generalize s.extract (p + (i + 1)) s.size = bh at *
        go_wp2_with fail
        refine (prefix_any _ _ _).mono ?_
        rintro e w3 ⟨rfl, rfl⟩
        rw [HPR.out, decide_eq_false HC.out]
        obtain ⟨⟨c0, c1, c2⟩, f0, f1, f2⟩ := hR2.cells
        obtain ⟨⟨b0, b1, b2, b3, b4, b5, b6, b7, b8, b9, b10, b11⟩, bf⟩ := cells12 hq2
        have hne : w.heap.size ≠ rb := by omega
        go_wp2_with fail
        clear c0 c1 c2 f0 f1 f2 b0 b1 b2 b3 b4 b5 b6 b7 b8 b9 b10 b11 bf
        rw [show ((s.size : Nat) : Int) - (bh.size : Int) = ((p + i + 1 : Nat) : Int) from by have := HBS.out; omega]
        have hR8 := hR2.setAt (p + i + 1)
        have hK8 := hK2.setCell (p := ⟨rb, 1, none⟩) (Or.inl rfl) (.int .i64 ((p + i + 1 : Nat) : Int))
        have hq8 := (kpset w3 rb 1 (.int .i64 ((p + i + 1 : Nat) : Int))).blk hq2 hne
        generalize w3.setCell ⟨rb, 1, none⟩ (.int .i64 ((p + i + 1 : Nat) : Int)) = w8 at *
        refine fin12 hq8 (Q := bodyPost _ _ _ _ _) ?_
        intro w9 hq9 hk9
        obtain ⟨⟨b0, b1, b2, b3, b4, b5, b6, b7, b8, b9, b10, b11⟩, bf⟩ := cells12 hq9
        refine bodyPost_ret (v := NV 2 0 (B ++ pt) .z .z (.slice none 0 0)) (by simp [results, Tryz.results153, go_sem, b0, b1, b2, b3, b4, b5, b6, b7, b8, b9, b10, b11]) rfl ?_
        rw [HRT.out, ← ba_of HAA.out]
        exact ⟨_, rfl, Nd.leaf, hR8.keep hk9 (by omega), hK8.trans hk9 (fun n e => by right; omega)⟩
end Go.Proofs.YtomgjjngkffbbaaGreatDoor.fm

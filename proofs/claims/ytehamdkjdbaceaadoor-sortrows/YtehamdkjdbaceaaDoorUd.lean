
/- slices.SortStableFunc at the numbers of a table's rows. Conditions: as each theorem says. -/
import Derived.Test.YtehamdkjdbaceaaDoorUc
import Derived.Test.YtehamdkjdbaceaaDoorTh
namespace Go.Proofs.YtehamdkjdbaceaaDoor.so
open Go.RowKit Go.Sort Go.Shelf
/-- The numbers of rows, as memory has them. -/
def encN {q : Nat} (x : Fin q) : Value := .int .i64 ((x.val : Nat) : Int)
abbrev natI (l : List Nat) : List Int := l.map (fun x : Nat => (x : Int))
theorem below_sorted1 {α : Type} [Inhabited α] (enc : α → Value) (w : World) (blk off m : Nat) (d : Array α) (os : Array Obj) {base : Nat} (h : base ≤ blk) (hw : base ≤ w.heap.size) : Below base w (sortWorld enc w blk off m d os) := by
  refine ⟨rfl, rfl, rfl, ?_, fun i hi => ?_⟩
  · unfold sortWorld putRow mapBlock Go.Sort.ahead grow
    simp
  · unfold sortWorld putRow mapBlock Go.Sort.ahead grow
    have hs : i < w.heap.size := Nat.lt_of_lt_of_le hi hw
    simp only
    rw [Array.getElem?_append_left (by simpa using hs), Array.getElem?_modify, if_neg (by omega)]
theorem own_sorted1 {q : Nat} [Inhabited (Fin q)] {w : World} {base g cap n : Nat} {xs : List Value} (hown : w.ownsRow base 3 1 (.slice (some ⟨g, 0, none⟩) n cap) n xs) (D : List (Fin q)) (hn : D.length = n) (m : Nat) (os : Array Obj) :
    (sortWorld encN w g 0 m D.toArray os).ownsRow base 3 1 (.slice (some ⟨g, 0, none⟩) n cap) n (ints (natI (D.map Fin.val))) := by
  rcases hown.2 with ⟨e, _⟩ | ⟨g', cap', cur, e, hb, hg, hc, hm, hz, ht⟩
  · cases e
  · injection e with e1 _ e3'
    injection e1 with e1
    injection e1 with e1
    subst e1 e3'
    have hlt := (Array.getElem?_eq_some_iff.1 hg).1
    refine ⟨by simp [hn], .inr ⟨g, cap, putCells encN 0 D.toArray cur, rfl, hb, ?_, hc, hm, ?_, ?_⟩⟩
    · unfold sortWorld putRow mapBlock Go.Sort.ahead grow
      simp only
      rw [Array.getElem?_append_left (by simpa using hlt), Array.getElem?_modify, if_pos rfl, hg]
      rfl
    · unfold putCells
      rw [Array.size_mapIdx]; exact hz
    · apply List.ext_getElem?
      intro t
      rw [List.getElem?_take]
      by_cases h : t < n * 1
      · rw [if_pos h]
        have htc : t < cur.size := by rw [hz]; omega
        have hi : t < D.length := by omega
        unfold putCells
        rw [Array.getElem?_toList, Array.getElem?_mapIdx, Array.getElem?_eq_getElem htc, Option.map_some, if_pos ⟨Nat.zero_le _, by simp; omega⟩]
        have hx : D.toArray[t]! = D[t] := at_get (List.getElem?_eq_getElem hi)
        rw [Nat.sub_zero, hx]
        simp [hi, encN]
      · rw [if_neg h, List.getElem?_eq_none (by simp; omega)]
set_option maxHeartbeats 1000000 in
theorem insertion0 (fv : Value) (w : World) : Calls Tryd.prog 44 #[.slice none 0 0, .int .i64 0, .int .i64 0, fv] w fun e w' => e = .returned (.tuple #[]) ∧ w' = w := by
  go_enter Tryd.func44, Tryd.ntmps44
  go_wp2
  refine wp_loop_rounds 1 ?_
  rw [rounds_succ]
  go_wp2
  go_end0
  exact ⟨rfl, rfl⟩
set_option maxHeartbeats 1000000 in
theorem stable0 (fv : Value) (w : World) : Calls Tryd.prog 35 #[.slice none 0 0, .int .i64 0, fv] w fun e w' => e = .returned (.tuple #[]) ∧ w' = w := by
  have H : Hid (∀ wx, Calls Tryd.prog 44 #[.slice none 0 0, .int .i64 0, .int .i64 0, fv] wx fun e w' => e = .returned (.tuple #[]) ∧ w' = wx) := insertion0 fv
  go_enter Tryd.func35, Tryd.ntmps35
  go_wp2_with fail
  refine wp_loop_rounds 1 ?_
  rw [rounds_succ]
  go_wp2_with fail
  refine (H.out _).mono ?_
  rintro e w1 ⟨rfl, rfl⟩
  go_wp2_with fail
  refine wp_loop_rounds 1 ?_
  rw [rounds_succ]
  go_wp2_with fail
  go_end0
  exact ⟨rfl, rfl⟩
/-- What the sort leaves of the rows' numbers. -/
def StN (T : Tb) (n : Nat) (c : Nat → Int) (d : Nat → Bool) (Z : List Nat) : Prop := Z.Perm (List.range T.q) ∧ Z.Pairwise (Tn T n c d)
theorem fin_range (q : Nat) : (List.finRange q).map Fin.val = List.range q := by
  apply List.ext_getElem?
  intro i
  by_cases h : i < q
  · rw [List.getElem?_map, List.getElem?_eq_getElem (by simpa using h), List.getElem?_range h]
    simp
  · rw [List.getElem?_eq_none (by simp; omega), List.getElem?_eq_none (by simp; omega)]
set_option maxHeartbeats 2000000 in
theorem sortStable_any (T : Tb) (p : Option Addr) (cp : Nat) (p3 : Option Addr) (n c3 : Nat) (c : Nat → Int) (d : Nat → Bool) (b2 b3 : Nat) (wb w : World) (v : Value) (hS : Snd T) (hn : n ≤ 12) (hco : ∀ i, i < n → colOk T (c i)) (hT : TM wb p T) (hK : KM wb p3 n c d) (h2 : Bx wb b2 (.slice p T.q cp)) (h3 : Bx wb b3 (.slice p3 n c3)) (hV : IV wb v (natI (List.range T.q)) w) (h0 : T.q = 0 → v = .slice none 0 0) :
    Calls Tryd.prog 23 #[v, .func (.func 24) #[] #[.pointer (some ⟨b2, 0, none⟩), .pointer (some ⟨b3, 0, none⟩)]] w fun e w' => e = .returned (.tuple #[]) ∧ ∃ Z, StN T n c d Z ∧ IV wb v (natI Z) w' := by
  have H : Hid (∃ p' n' c', v = .slice p' n' c' ∧ Calls Tryd.prog 35 #[v, .int .i64 (n' : Nat), .func (.func 24) #[] #[.pointer (some ⟨b2, 0, none⟩), .pointer (some ⟨b3, 0, none⟩)]] w fun e w' => e = .returned (.tuple #[]) ∧ ∃ Z, StN T n c d Z ∧ IV wb v (natI Z) w') := by
    have hq60 := hS.few
    have hlen : (natI (List.range T.q)).length = T.q := by simp
    have hown := hV.own
    rw [hlen] at hown
    rcases hown.2 with ⟨rfl, hz0⟩ | ⟨g, cap, cur, rfl, hbg, hg, hcap, hm, hz, ht⟩
    · refine ⟨none, 0, 0, rfl, (stable0 _ w).mono ?_⟩
      rintro e w' ⟨rfl, rfl⟩
      refine ⟨rfl, [], ⟨by rw [hz0]; simp, by simp⟩, ?_⟩
      rw [hz0] at hV
      exact hV
    · by_cases hq0 : T.q = 0
      · cases h0 hq0
      haveI : Inhabited (Fin T.q) := ⟨⟨0, by omega⟩⟩
      refine ⟨_, _, _, rfl, ?_⟩
      have hlt := (Array.getElem?_eq_some_iff.1 hg).1
      have hs0 : (List.finRange T.q).toArray.size = T.q := by simp
      have hH : Holds encN w g 0 (List.finRange T.q).toArray := by
        intro j hj
        rw [hs0] at hj
        refine ⟨?_, ?_⟩
        · have e : (cur.toList.take (T.q * 1))[j]? = (ints (natI (List.range T.q)))[j]? := by rw [ht]
          rw [List.getElem?_take, if_pos (by omega), Array.getElem?_toList] at e
          have e5 : (List.finRange T.q).toArray[j]! = ⟨j, hj⟩ := at_get (by rw [List.getElem?_eq_getElem (by simpa using hj)]; simp)
          rw [e5, Nat.zero_add]
          simp only [World.cell?, hg]
          rw [e]
          simp [hj, encN]
        · unfold World.frozen?
          simp [hg]
      have R : Row1 encN w g 0 (List.finRange T.q).toArray := ⟨fun _ => rfl, hH, hlt⟩
      have hwb : wb.heap.size ≤ w.heap.size := hV.below.size
      have hcmp : CmpLays1 Tryd.prog 24 #[.pointer (some ⟨b2, 0, none⟩), .pointer (some ⟨b3, 0, none⟩)] encN (fun x y : Fin T.q => crw (T.v x.val) (T.v y.val) c d n 0) g 0 (List.finRange T.q).toArray.size w := by
        intro m os dk hs x y
        have hb : Bw wb (sortWorld encN w g 0 m dk os) := Below.trans hV.below (below_sorted1 encN w g 0 m dk os hbg hwb)
        have := order_any T p cp p3 n c3 c d b2 b3 x.val y.val (sortWorld encN w g 0 m dk os) x.isLt y.isLt hS hn hco (hT.next hb) (hK.next hb) ⟨(hb.cell (p := ⟨b2, 0, none⟩) h2.2).trans h2.1, Nat.lt_of_lt_of_le h2.2 hb.size⟩ ⟨(hb.cell (p := ⟨b3, 0, none⟩) h3.2).trans h3.1, Nat.lt_of_lt_of_le h3.2 hb.size⟩
        exact this
      have hJ : Jn (ltOf fun x y : Fin T.q => crw (T.v x.val) (T.v y.val) c d n 0) (fun x y : Fin T.q => Tn T n c d x.val y.val) (fun x y : Fin T.q => x.val < y.val) := by
        intro a b hab
        have e : ltOf (fun x y : Fin T.q => crw (T.v x.val) (T.v y.val) c d n 0) b a = decide (crw (T.v b.val) (T.v a.val) c d n 0 < 0) := rfl
        rw [e]
        have hneg := crw_neg (T.v a.val) (T.v b.val) c d n 0
        unfold Tn
        refine ⟨fun h1 => ?_, fun h1 => ?_⟩
        · have h1' := of_decide_eq_false h1
          by_cases hz : crw (T.v a.val) (T.v b.val) c d n 0 = 0
          · exact .inr ⟨hz, hab⟩
          · left; omega
        · have h1' := of_decide_eq_true h1
          exact .inl h1'
      have h := stable_any encN (fun x y : Fin T.q => crw (T.v x.val) (T.v y.val) c d n 0) (fun x y : Fin T.q => Tn T n c d x.val y.val) (fun x y : Fin T.q => x.val < y.val) (fun _ _ _ h1 h2 => tn_trans h1 h2) hJ 24 #[.pointer (some ⟨b2, 0, none⟩), .pointer (some ⟨b3, 0, none⟩)] g 0 cap (List.finRange T.q).toArray w (enters_of Tryd.func24 (by kernel_rfl) rfl) hcmp R (by rw [hs0]; omega) (List.finRange T.q) w (by simp) ((List.pairwise_lt_finRange T.q).imp (fun h => h)) (SW.start hH)
      rw [hs0] at h
      refine h.mono ?_
      rintro e w' ⟨rfl, Z, z1, z2, m, os, rfl⟩
      have hZl : Z.length = T.q := by rw [z1.length_eq]; simp
      refine ⟨rfl, Z.map Fin.val, ⟨?_, ?_⟩, ⟨?_, ?_⟩⟩
      · have := z1.map Fin.val
        rwa [fin_range] at this
      · rw [List.pairwise_map]; exact z2
      · have := own_sorted1 hown Z hZl m os
        have e : (natI (Z.map Fin.val)).length = T.q := by simp [hZl]
        rw [e]
        exact this
      · exact Below.trans hV.below (below_sorted1 encN w g 0 m Z.toArray os hbg hwb)
  obtain ⟨p', n', c', rfl, hC⟩ := H.out
  have HC : Hid (Calls Tryd.prog 35 #[.slice p' n' c', .int .i64 (n' : Nat), .func (.func 24) #[] #[.pointer (some ⟨b2, 0, none⟩), .pointer (some ⟨b3, 0, none⟩)]] w fun e w' => e = .returned (.tuple #[]) ∧ ∃ Z, StN T n c d Z ∧ IV wb (.slice p' n' c') (natI Z) w') := hC
  clear hC H hS hn hco hT hK h2 h3 hV h0
  go_enter Tryd.func23, Tryd.ntmps23
  go_wp2_with fail
  refine HC.out.mono ?_
  rintro e w1 ⟨rfl, hZ⟩
  have HZ : Hid (∃ Z, StN T n c d Z ∧ IV wb (.slice p' n' c') (natI Z) w1) := hZ
  clear hZ
  go_wp2_with fail
  go_end0
  exact ⟨rfl, HZ.out⟩
end Go.Proofs.YtehamdkjdbaceaaDoor.so

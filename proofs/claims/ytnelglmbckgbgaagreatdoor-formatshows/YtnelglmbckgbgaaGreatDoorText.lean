
/- A number's digits. Conditions: as each theorem says. -/
import Derived.Test.YtnelglmbckgbgaaGreatDoorSmall
import Derived.Test.YtnelglmbckgbgaaGreatDoorNeg
import Derived.Test.YtnelglmbckgbgaaGreatDoorDig
import Derived.LoopN
namespace Go.Proofs.YtnelglmbckgbgaaGreatDoor
open Go.RowKit
theorem small_num (v : Value) (x : Nat) (w : World) (h : Num w v x) (hx : x ≠ 0) :
    Calls Tryz.prog 37 #[v, .int .u32 10] w fun e w' => (∃ v', e = .returned (.tuple #[v', .int .u32 (x % 10 : Nat)]) ∧ Num w' v' (x / 10) ∧ ∀ g, v'.ownBlock = some g → w.heap.size ≤ g) ∧ Below w.heap.size w w' := by
  obtain ⟨n, f, h1, h2, h3⟩ := h
  rcases h1 with ⟨rfl, rfl⟩ | ⟨b, cap, rfl, h1⟩
  · exact absurd h3.symm hx
  · have := small_some b n cap f w h1
    rw [h3] at this
    exact this
/-- What has been said of a number's digits, the least first, when y is left of it. -/
def Said (x y : Nat) (L : List UInt8) : Prop := Lib.decDigits x = (if y = 0 then [] else Lib.decDigits y) ++ L.reverse
theorem Said.step {x y : Nat} {L : List UInt8} (h : Said x y L) (hy : y ≠ 0) : Said x (y / 10) (L ++ [UInt8.ofNat (48 + y % 10)]) := by
  unfold Said at *
  rw [h, if_neg hy, List.reverse_append]
  have : Lib.decDigits y = (if y / 10 = 0 then [] else Lib.decDigits (y / 10)) ++ [UInt8.ofNat (48 + y % 10)] := by
    rw [Lib.decDigits]
    by_cases q : y < 10
    · rw [dif_pos q, if_pos (by omega), Nat.mod_eq_of_lt q]; rfl
    · rw [dif_neg q, if_neg (by omega)]
  rw [this]
  simp
theorem info5 : (Tryz.prog.info? 5).map (fun i => (i.zero, i.size, i.bytes)) = some (some (.int .u8 0), 1, 1) := by kernel_rfl
/-- Bytes as the cells hold them. -/
def u8s (L : List UInt8) : List Value := L.map fun c => .int .u8 (c.toNat : Int)
/-- What holds ahead of each round: b owns the digits so far; y is left. -/
structure Rnd (w : World) (x y : Nat) (L : List UInt8) (vb va : Value) (wr : World) : Prop where
  own : wr.ownsRow w.heap.size 5 1 vb L.length (u8s L)
  num : Num wr va y
  said : Said x y L
  len : 10 ^ L.length * y ≤ x
  cnt : L.length ≤ 20
  bel : Below w.heap.size w wr
set_option maxRecDepth 100000 in
set_option maxHeartbeats 2000000 in
theorem text_zero (bz : Nat) (A : Option Addr) (cap : Nat) (w : World) (h1 : w.cell? ⟨bz, 1, none⟩ = some (.slice A 0 cap)) :
    Calls Tryz.prog 24 #[ptr bz, .int .i64 10] w fun e w' => e = .returned (.string ⟨#[48]⟩) ∧ w' = w := by
  go_enter Tryz.func24, Tryz.ntmps24
  go_wp2_with fail
  go_ret
  exact ⟨rfl, rfl⟩
def lenOf : Value → Nat
  | .slice _ n _ => n
  | _ => 0
theorem own_len {w : World} {base n : Nat} {v : Value} {xs : List Value} (h : w.ownsRow base 5 1 v n xs) : lenOf v = n := by
  obtain ⟨_, ⟨rfl, rfl⟩ | ⟨g, cap, cur, rfl, _⟩⟩ := h <;> rfl
theorem own_below {w w' : World} {base n : Nat} {v : Value} {xs : List Value} (h : w.ownsRow base 5 1 v n xs) (hb : Below w.heap.size w w') : w'.ownsRow base 5 1 v n xs := by
  obtain ⟨h0, h | ⟨g, cap, cur, h1, h2, h3, h4⟩⟩ := h
  · exact ⟨h0, Or.inl h⟩
  · refine ⟨h0, Or.inr ⟨g, cap, cur, h1, h2, ?_, h4⟩⟩
    have hg : g < w.heap.size := by
      by_cases q : g < w.heap.size
      · exact q
      · rw [Array.getElem?_eq_none (by omega)] at h3; cases h3
    rw [hb.block g hg]
    exact h3
theorem few {x y : Nat} {k : Nat} (h : 10 ^ k * y ≤ x) (hy : y ≠ 0) (hx : x < 18446744073709551616) : k ≤ 19 := by
  by_cases q : k ≤ 19
  · exact q
  · have h1 : 10 ^ 20 ≤ 10 ^ k := Nat.pow_le_pow_right (by decide) (by omega)
    have h2 : 10 ^ k * 1 ≤ 10 ^ k * y := Nat.mul_le_mul_left _ (by omega)
    have h3 : (10 : Nat) ^ 20 = 100000000000000000000 := by decide
    omega
theorem few_step {x y : Nat} {k : Nat} (h : 10 ^ k * y ≤ x) : 10 ^ (k + 1) * (y / 10) ≤ x := by
  have : 10 ^ (k + 1) * (y / 10) = 10 ^ k * (10 * (y / 10)) := by rw [Nat.pow_succ, Nat.mul_assoc]
  have h2 : 10 ^ k * (10 * (y / 10)) ≤ 10 ^ k * y := Nat.mul_le_mul_left _ (by omega)
  omega
/-- The sign. -/
def sgn (neg : Bool) : List UInt8 := if neg = true then [45] else []
theorem Num.grown {w w' : World} {v : Value} {x : Nat} {row : Option Nat} (h : Num w v x) (hg : w.grownBy w' row) (hne : ∀ g, v.ownBlock = some g → some g ≠ row) : Num w' v x := by
  obtain ⟨n, f, h1, h2, h3⟩ := h
  refine ⟨n, f, ?_, h2, h3⟩
  rcases h1 with h1 | ⟨b, cap, rfl, h1⟩
  · exact Or.inl h1
  · exact Or.inr ⟨b, cap, rfl, ⟨h1.le, h1.lim, h1.capl, Nat.lt_of_lt_of_le h1.lt hg.size, fun i hi => hg.cell (h1.cell i hi) (hne b rfl), h1.word⟩⟩
theorem u8s_snoc (L : List UInt8) (d : Nat) (hd : d < 10) : u8s (L ++ [UInt8.ofNat (48 + d)]) = u8s L ++ [.int .u8 (48 + (d : Int))] := by
  unfold u8s
  rw [List.map_append, List.map_cons, List.map_nil, digit_nat hd]
  simp
theorem lt_of_blk {w : World} {b : Nat} {o : Obj} (h : w.heap[b]? = some o) : b < w.heap.size := by
  rcases Nat.lt_or_ge b w.heap.size with h' | h'
  · exact h'
  · simp [Array.getElem?_eq_none h'] at h
theorem blk_set {w : World} {b o : Nat} {cs : Array Value} {u : Value} {t : TypeId} {f : Nat × Nat} (h : w.heap[b]? = some (.cells cs t f)) : (w.setCell ⟨b, o, none⟩ u).heap[b]? = some (.cells (cs.setIfInBounds o u) t f) := by
  have hlt := lt_of_blk h
  have h' : w.heap[b] = .cells cs t f := by simpa [Array.getElem?_eq_getElem hlt] using h
  show (w.heap.modify b _)[b]? = _
  rw [Array.getElem?_eq_getElem (by simpa using hlt), Array.getElem_modify_self, h']
  rfl
/-- Bytes of which the first k and the last k have changed places. -/
def rv (L : List UInt8) (k p : Nat) : UInt8 := if p < k ∨ L.length - k ≤ p then L.getD (L.length - 1 - p) 0 else L.getD p 0
structure Turned (g cap : Nat) (L : List UInt8) (k : Nat) (w : World) : Prop where
  blk : ∃ cur : Array Value, w.heap[g]? = some (.cells cur 5 (0, 0)) ∧ ∀ p, p < L.length → cur[p]? = some (.int .u8 ((rv L k p).toNat : Int))
theorem Turned.cell {g cap k : Nat} {L : List UInt8} {w : World} (h : Turned g cap L k w) (p : Nat) (hp : p < L.length) : w.cell? ⟨g, p, none⟩ = some (.int .u8 ((rv L k p).toNat : Int)) ∧ w.frozen? ⟨g, p, none⟩ = false := by
  obtain ⟨cur, h1, h2⟩ := h.blk
  have := h2 p hp
  constructor
  · simp [World.cell?, h1, this]
  · simp [World.frozen?, h1]
theorem Turned.step {g cap k : Nat} {L : List UInt8} {w : World} (h : Turned g cap L k w) (hk : k < L.length - 1 - k) :
    Turned g cap L (k + 1) ((w.setCell ⟨g, k, none⟩ (.int .u8 ((rv L k (L.length - 1 - k)).toNat : Int))).setCell ⟨g, L.length - 1 - k, none⟩ (.int .u8 ((rv L k k).toNat : Int))) := by
  obtain ⟨cur, h1, h2⟩ := h.blk
  refine ⟨⟨_, blk_set (blk_set h1), fun p hp => ?_⟩⟩
  have e1 : rv L k (L.length - 1 - k) = L.getD (L.length - 1 - k) 0 := by unfold rv; rw [if_neg (by omega)]
  have e2 : rv L k k = L.getD k 0 := by unfold rv; rw [if_neg (by omega)]
  have hsz : ∀ q, q < L.length → q < cur.size := fun q hq => (Array.getElem?_eq_some_iff.1 (h2 q hq)).1
  rw [e1, e2]
  by_cases q1 : L.length - 1 - k = p
  · subst q1
    rw [Array.getElem?_setIfInBounds, if_pos rfl, if_pos (by simp; exact hsz _ (by omega))]
    have : rv L (k + 1) (L.length - 1 - k) = L.getD k 0 := by
      unfold rv
      rw [if_pos (by omega), show L.length - 1 - (L.length - 1 - k) = k from by omega]
    rw [this]
  · rw [Array.getElem?_setIfInBounds, if_neg q1]
    by_cases q2 : k = p
    · subst q2
      rw [Array.getElem?_setIfInBounds, if_pos rfl, if_pos (hsz _ hp)]
      have : rv L (k + 1) k = L.getD (L.length - 1 - k) 0 := by unfold rv; rw [if_pos (by omega)]
      rw [this]
    · rw [Array.getElem?_setIfInBounds, if_neg q2, h2 p hp]
      have : rv L (k + 1) p = rv L k p := by
        unfold rv
        by_cases q : p < k ∨ L.length - k ≤ p
        · rw [if_pos q, if_pos (by omega)]
        · rw [if_neg q, if_neg (by omega)]
      rw [this]
theorem Turned.done {g cap k : Nat} {L : List UInt8} {w : World} (h : Turned g cap L k w) (hk : ¬ k < L.length - 1 - k) (hk2 : 2 * k ≤ L.length) (j : Nat) (hj : j < L.reverse.length) : w.cell? ((⟨g, 0, none⟩ : Addr).add j) = some (.int .u8 ((L.reverse[j]).toNat : Int)) := by
  have hj' : j < L.length := by simpa using hj
  have e : rv L k j = L.reverse[j] := by
    rw [List.getElem_reverse]
    unfold rv
    have g0 : ∀ q (hq : q < L.length), L.getD q 0 = L[q] := fun q hq => by rw [List.getD_eq_getElem?_getD, List.getElem?_eq_getElem hq]; rfl
    by_cases q : j < k ∨ L.length - k ≤ j
    · rw [if_pos q, g0 _ (by omega)]
    · rw [if_neg q, g0 _ hj']
      congr 1
      omega
  have ha : (⟨g, 0, none⟩ : Addr).add j = ⟨g, j, none⟩ := by cases j <;> simp [Addr.add]
  rw [ha, ← e]
  exact (h.cell j hj').1
set_option maxRecDepth 100000 in
set_option maxHeartbeats 4000000 in
theorem text_pos (bz x : Nat) (neg : Bool) (w : World) (hz : BigInt w bz neg x) (hx : x ≠ 0) (hx64 : x < 18446744073709551616) :
    Calls Tryz.prog 24 #[ptr bz, .int .i64 10] w fun e w' => e = .returned (.string ⟨(sgn neg ++ Lib.decDigits x).toArray⟩) ∧ Below w.heap.size w w' := by
  obtain ⟨v, hc1, hnum⟩ := hz.c1
  obtain ⟨A, n, c, rfl, hn, hpos⟩ := hnum.shape
  have hn0 : ((n : Int) == 0) = false := by have := hpos.2 hx; simp; omega
  have hlt := hz.lt
  go_enter Tryz.func24, Tryz.ntmps24
  go_wp2_with fail
  refine (twin_num _ x _ hnum).mono ?_
  rintro e w1 ⟨⟨va, rfl, hva⟩, b1⟩
  obtain ⟨i0, hi, hz0, hz1, hz2⟩ := info_parts info5
  have hx0 := hz.c0
  clear hz hpos hn0 hn hc1 hnum
  go_wp2_with fail
  go_loopw [5, 6, 7] (fun vb va _ wr => ∃ y L, Rnd w x y L vb va wr) (fun vb _ _ _ => 20 - lenOf vb)
  case atStart => exact ⟨x, [], World.ownsRow_nil _ _ _ _, hva, by simp [Said, hx], by simp, by simp, b1⟩
  case round =>
    obtain ⟨y, L, hR⟩ := hrel
    by_cases hy : y = 0
    · subst hy
      obtain ⟨A, n, c, rfl, hn, hpos⟩ := hR.num.shape
      have hn0 : n = 0 := by
        rcases Nat.eq_zero_or_pos n with q | q
        · exact q
        · exact absurd rfl (hpos.1 q)
      subst hn0
      have hsaid : Lib.decDigits x = L.reverse := by have := hR.said; unfold Said at this; rw [if_pos rfl, List.nil_append] at this; exact this
      have hLn := hR.cnt
      have hLp : 0 < L.length := by
        rcases Nat.eq_zero_or_pos L.length with q | q
        · rw [List.length_eq_zero_iff.1 q] at hsaid
          exact absurd hsaid (by rw [List.reverse_nil]; exact fun h => by have := dec_ne x; exact this h)
        · exact q
      have hc0 : wr.cell? ⟨bz, 0, none⟩ = some (.bool neg) := by rw [hR.bel.cell hlt]; exact hx0
      have hown := hR.own
      have hB := hR.bel
      have hbs := hB.size
      have HSd : Hid (Lib.decDigits x = L.reverse) := hsaid
      clear hpos hR hsaid
      go_upto_region 13 with fail
      go_cut [52] (fun s52 wx => s52 = .bool neg ∧ wr = wx)
      case first =>
        go_wp2_with fail
        go_meet
        case rel => exact ⟨rfl, rfl⟩
      case rest =>
      obtain ⟨rfl, rfl⟩ := hcut
      clear hc0
      obtain ⟨L2, hL2⟩ : ∃ L2, L2 = L ++ sgn neg := ⟨_, rfl⟩
      have HL2 : Hid (L2 = L ++ sgn neg) := hL2
      have hL2n : L2.length ≤ 21 := by rw [hL2, List.length_append]; cases neg <;> simp [sgn] <;> omega
      have hL2p : 0 < L2.length := by rw [hL2, List.length_append]; omega
      clear hL2
      go_upto_if 52 with fail
      go_cut [5] (fun vb wx => wx.ownsRow w.heap.size 5 1 vb L2.length (u8s L2) ∧ Below w.heap.size w wx)
      case first =>
        cases neg
        · have e2 : L2 = L := by rw [HL2.out]; simp [sgn]
          subst e2
          go_wp2_with fail
          go_meet
          case rel => exact ⟨hown, hB⟩
        · have e2 : L2 = L ++ [45] := by rw [HL2.out]; simp [sgn]
          subst e2
          clear hL2n hL2p HL2
          go_wp2_with (first | (at_builtin; refine wpList_append_own _ rfl _ _ 69 rfl w.heap.size 5 i0 (.int .u8 0) 1 1 Tryz.underlying69 hi hz0 hz1 hz2 rfl (by decide) _ _ _ rfl (hown.alloc _) ⟨wr.heap.size, 0, none⟩ 1 1 [.int .u8 45] rfl rfl ?c1 ?c2 ?c3 ?c4 ?c5 ?_))
          case c1 =>
            intro j u hj
            match j, hj with
            | 0, hj => simp at hj; subst hj; simp [Addr.add]
          case c2 => intro u hu; simp at hu; subst hu; rfl
          case c3 => unfold maxLen; omega
          case c4 => omega
          case c5 => simp; omega
          · intro v' w3 hown' hgrow _
            have hb3 : Below w.heap.size w w3 := (hB.alloc hbs _).grown hgrow (by simp; omega) (fun k hk => by have := hown.lt k hk; omega)
            have hown3 : w3.ownsRow w.heap.size 5 1 v' (L ++ [45]).length (u8s (L ++ [45])) := by
              rw [List.length_append]
              unfold u8s at hown' ⊢
              rw [List.map_append]
              exact hown'
            clear hown'
            go_wp2_with fail
            go_meet
            case rel => exact ⟨hown3, hb3⟩
      case rest =>
      clear hown hB hbs hLn hLp
      obtain ⟨hown, hB⟩ := hcut
      obtain ⟨hl0, ⟨_, hl1⟩ | ⟨g, cap, cur, rfl, hg, hblk, hcap, hcapm, hcs, htk⟩⟩ := hown
      · omega
      have hT0 : Turned g cap L2 0 wc := by
        refine ⟨⟨cur, hblk, fun p hp => ?_⟩⟩
        have h1 : cur.toList[p]? = (u8s L2)[p]? := by rw [← htk, Nat.mul_one, List.getElem?_take_of_lt hp]
        have h2 : rv L2 0 p = L2.getD p 0 := by unfold rv; rw [if_neg (by omega)]
        rw [h2]
        have h3 : cur[p]? = cur.toList[p]? := by simp
        rw [h3, h1]
        unfold u8s
        rw [List.getElem?_map, List.getD_eq_getElem?_getD, List.getElem?_eq_getElem hp]
        rfl
      clear hl0 hblk hcs htk hcap hcapm
      go_wp2_with fail
      go_loopw [8, 9] (fun i j wr => ∃ k : Nat, 2 * k ≤ L2.length ∧ i = .int .i64 k ∧ j = .int .i64 ((L2.length : Int) - 1 - k) ∧ Turned g cap L2 k wr ∧ Below w.heap.size w wr) (fun i _ _ => L2.length - (intOf i).toNat)
      case atStart => exact ⟨0, by omega, rfl, by simp, hT0, hB⟩
      case round =>
        clear hT0 hB
        obtain ⟨k, hk, rfl, rfl, hT, hB⟩ := hrel
        by_cases hlk : k < L2.length - 1 - k
        · obtain ⟨j, hj⟩ : ∃ j, j = L2.length - 1 - k := ⟨_, rfl⟩
          have ej : ((L2.length : Int) - 1 - k) = (j : Int) := by omega
          have c1 := (hT.cell k (by omega)).1
          have c2 := (hT.cell j (by omega)).1
          have f1 := (hT.cell k (by omega)).2
          have f2 := (hT.cell j (by omega)).2
          have hst := hT.step hlk
          rw [← hj] at hst
          have HJ : Hid (j = L2.length - 1 - k) := hj
          have hkj : k < j := by omega
          have hjl : j < L2.length := by omega
          rw [ej]
          clear ej hj hT
          go_wp2_with fail
          exact ⟨⟨k + 1, by omega, rfl, by congr 1; have := HJ.out; omega, hst, (hB.setCell hg _).setCell hg _⟩, by simp [intOf]; omega⟩
        · have hdone := fun q hq => hT.done hlk hk q hq
          have hcv := run_convert_bytes_back (P := Tryz.prog) wr 69 9 5 ⟨g, 0, none⟩ cap L2.reverse Tryz.underlying69 Tryz.underlying5 Tryz.underlying9 hdone
          rw [List.length_reverse] at hcv
          have hge : ¬ (k : Int) < (L2.length : Int) - 1 - k := by omega
          clear hT hdone
          go_wp2_with fail
          go_ret
          refine ⟨?_, hB⟩
          rw [HL2.out, List.reverse_append, HSd.out]
          cases neg <;> rfl
    · obtain ⟨A, n, c, rfl, hn, hpos⟩ := hR.num.shape
      have hn0 : (0 : Int) < n := by have := hpos.2 hy; omega
      have hL := few hR.len hy hx64
      clear hpos
      go_wp2_with fail
      refine (small_num _ y _ hR.num hy).mono ?_
      rintro e w2 ⟨⟨va2, rfl, hva2, hfresh⟩, b2⟩
      have hown := own_below hR.own b2
      have hr : (y : Int) % 10 < 10 := by omega
      have hr0 : 0 ≤ (y : Int) % 10 := by omega
      have hd : y % 10 < 10 := Nat.mod_lt _ (by decide)
      have hdg := digit_nat hd
      have hsz := b2.size
      have hbs := hR.bel.size
      go_wp2_with (first | (at_builtin; refine wpList_append_own _ rfl _ _ 69 rfl w.heap.size 5 i0 (.int .u8 0) 1 1 Tryz.underlying69 hi hz0 hz1 hz2 rfl (by decide) _ _ _ rfl (hown.alloc _) ⟨w2.heap.size, 0, none⟩ 1 1 [.int .u8 (48 + (y : Int) % 10)] rfl rfl ?c1 ?c2 ?c3 ?c4 ?c5 ?_))
      case c1 =>
        intro j u hj
        match j, hj with
        | 0, hj => simp at hj; subst hj; simp [Addr.add]
      case c2 => intro u hu; simp at hu; subst hu; rfl
      case c3 => unfold maxLen; omega
      case c4 => omega
      case c5 => simp; omega
      · intro v' w3 hown' hgrow _
        have hb3 : Below w.heap.size w w3 := ((hR.bel.trans (b2.mono hbs)).alloc (by omega) _).grown hgrow (by simp; omega) (fun k hk => by have := hown.lt k hk; omega)
        have hnum3 : Num w3 va2 (y / 10) := (hva2.below ((Below.refl _ _).alloc (Nat.le_refl _) _)).grown hgrow (fun g hg q => by
          have h1 := hfresh g hg
          have h2 := (hR.own.lt g q.symm).2
          omega)
        have hvl := own_len hown'
        have hvl0 := own_len hR.own
        have HR3 : Hid (Rnd w x (y / 10) (L ++ [UInt8.ofNat (48 + y % 10)]) v' va2 w3) := ⟨by rw [List.length_append, u8s_snoc L _ hd]; simpa using hown', hnum3, hR.said.step hy, by rw [List.length_append]; exact few_step hR.len, by rw [List.length_append]; simp; omega, hb3⟩
        clear hR hown hown' hnum3 hva2 hgrow hfresh
        go_wp2_with fail
        exact ⟨⟨_, _, HR3.out⟩, by rw [hvl, hvl0]; omega⟩
end Go.Proofs.YtnelglmbckgbgaaGreatDoor

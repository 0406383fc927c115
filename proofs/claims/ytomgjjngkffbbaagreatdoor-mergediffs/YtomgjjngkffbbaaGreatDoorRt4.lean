
/- The reference's quoted texts. Condition: the place lies in the text, which has at most 200 bytes. -/
import Derived.Test.YtomgjjngkffbbaaGreatDoorRt2
import Derived.OwnWalk
import Derived.Laws.IdiomStrings
import Derived.Deep.QuietTactic
import Derived.BigQuiet
namespace Go.Proofs.YtomgjjngkffbbaaGreatDoor.fm
open Go.RowKit
theorem fin4 {w : World} {b : Nat} {a0 a1 a2 a3 u0 u1 u2 u3 : Value} {t : TypeId} (h : w.heap[b]? = some (.cells #[a0, a1, a2, a3] t (0, 0))) {Q : World → Prop}
    (hq : ∀ w2, w2.heap[b]? = some (.cells #[u0, u1, u2, u3] t (0, 0)) → Kp (· = b) w w2 → Q w2) : Q ((((w.setCell ⟨b, 0, none⟩ u0).setCell ⟨b, 1, none⟩ u1).setCell ⟨b, 2, none⟩ u2).setCell ⟨b, 3, none⟩ u3) := by
  refine hq _ ?_ (((((Kp.refl (· = b) w).setCell (Or.inl rfl) u0).setCell (Or.inl rfl) u1).setCell (Or.inl rfl) u2).setCell (Or.inl rfl) u3)
  have h0 : (w.setCell ⟨b, 0, none⟩ u0).heap[b]? = some (.cells #[u0, a1, a2, a3] t (0, 0)) := by rw [blk_set h]; rfl
  have h1 : ((w.setCell ⟨b, 0, none⟩ u0).setCell ⟨b, 1, none⟩ u1).heap[b]? = some (.cells #[u0, u1, a2, a3] t (0, 0)) := by rw [blk_set h0]; rfl
  have h2 : (((w.setCell ⟨b, 0, none⟩ u0).setCell ⟨b, 1, none⟩ u1).setCell ⟨b, 2, none⟩ u2).heap[b]? = some (.cells #[u0, u1, u2, a3] t (0, 0)) := by rw [blk_set h1]; rfl
  rw [blk_set h2]; rfl
def u8s (l : List UInt8) : List Value := l.map fun b => .int .u8 (b.toNat : Int)
theorem info5a : (Tryz.prog.info? 5).map (fun i => (i.zero, i.size, i.bytes)) = some (some (.int .u8 0), 1, 1) := by kernel_rfl
theorem info5 : ∃ i, Tryz.prog.info? 5 = some i ∧ i.zero = some (.int .u8 0) ∧ i.size = 1 ∧ i.bytes = 1 := by
  have h := info5a
  rw [Option.map_eq_some_iff] at h
  obtain ⟨i, h1, h2⟩ := h
  simp only [Prod.mk.injEq] at h2
  exact ⟨i, h1, h2.1, h2.2.1, h2.2.2⟩
theorem conv_bytes {w : World} {B : Nat} {v : Value} {acc : List UInt8} (h : w.ownsRow B 5 1 v acc.length (u8s acc)) : (convert 46 9 v).run Tryz.prog w = .ok (.string ⟨acc.toArray⟩) w := by
  rcases h.2 with ⟨rfl, h0⟩ | ⟨g, cap, cur, rfl, hb, hg, hc, hm, hz, ht⟩
  · obtain rfl : acc = [] := List.eq_nil_of_length_eq_zero h0
    rw [run_convert_bytes_string w 46 9 5 none 0 0 Tryz.underlying46 Tryz.underlying5 Tryz.underlying9]
    simp [Conv.bytesToString]
    rfl
  · refine run_convert_bytes_back (P := Tryz.prog) w 46 9 5 ⟨g, 0, none⟩ cap acc Tryz.underlying46 Tryz.underlying5 Tryz.underlying9 fun j hj => ?_
    refine World.ownsRow.cells h (g := g) rfl j _ ?_
    unfold u8s
    rw [List.getElem?_map, List.getElem?_eq_getElem hj]
    rfl
set_option maxRecDepth 100000 in
set_option maxHeartbeats 4000000 in
theorem token_quote (s : ByteArray) (k : Nat) (w : World) (hs : s.size ≤ 200) (hk : k ≤ s.size) (hlt0 : skip s k < s.size) (hx : nx s (skip s k) = 34) (RK : Value) (hRK : RK = match quote s (skip s k + 1) [] with | none => KV 9 (skip s k : Nat) (skip s k : Nat) nul | some (l, e) => KV 2 (skip s k : Nat) (e : Nat) ⟨l.toArray⟩) :
    Calls Tryz.prog 54 #[.string s, .int .i64 k] w fun e w' => e = .returned (RK) ∧ Below w.heap.size w w' := by
  have hb0 : Below w.heap.size w (w.alloc (.cells KZ 105)) := (Below.refl _ _).alloc (Nat.le_refl _) _
  have hk1 := (skip_spec s k).2.2 hk
  have HRK : Hid (RK = match quote s (skip s k + 1) [] with | none => KV 9 (skip s k : Nat) (skip s k : Nat) nul | some (l, e) => KV 2 (skip s k : Nat) (e : Nat) ⟨l.toArray⟩) := hRK
  have HX : Hid (nx s (skip s k) = 34) := hx
  clear hRK hx
  obtain ⟨i0, hi, hz0, hz1, hz2⟩ := info5
  go_enter Tryz.func54, Tryz.ntmps54
  go_wp2_with fail
  go_loopw [1] (fun i wr => ∃ j : Nat, i = .int .i64 j ∧ j ≤ s.size ∧ skip s j = skip s k ∧ wr = w.alloc (.cells KZ 105)) (fun i _ => s.size - (intOf i).toNat)
  case atStart => exact ⟨k, rfl, hk, rfl, rfl⟩
  case round =>
    obtain ⟨j, rfl, hj, hsk, rfl⟩ := hrel
    by_cases c32 : nx s j = 32
    · have hlt := nx_lt (s := s) (k := j) (by omega)
      have hq : ((s[j].toNat : Nat) : Int) = 32 := by rw [nx_in hlt] at c32; omega
      have hq' : (((s[j].toNat : Nat) : Int) == 32) = true := by rw [beq_iff_eq]; exact hq
      have HS : Hid (skip s j = skip s k) := hsk
      have HC : Hid (nx s j = 32) := c32
      clear hsk c32 hq 
      go_wp2_with fail
      exact ⟨⟨j + 1, by simp, hlt, by rw [← HS.out, skip_blank HC.out], trivial⟩, by simp [intOf]; omega⟩
    · have hja : j = skip s k := by rw [← hsk, skip_else c32]
      subst hja
      clear hsk
      have hq2 : (((skip s k : Nat) : Int) == (s.size : Int)) = false := by rw [beq_eq_false_iff_ne]; omega
      have hb : (((s[skip s k].toNat : Nat) : Int) == 32) = false := by rw [beq_eq_false_iff_ne, ← nx_in hlt0]; omega
      have h34 : (((nx s (skip s k) : Nat) : Int) == 34) = true := by rw [beq_iff_eq, HX.out]; rfl
      clear c32
      go_wp2_with fail
      rw [← nx_in hlt0]
      refine (wordly_any _ _).mono ?_
      rintro e w1 ⟨rfl, rfl⟩
      rw [HX.out, show isW 34 = false from rfl]
      clear h34
      go_wp2_with fail
      have hqz := blk_new w (.cells KZ 105)
      have hs0 : w.heap.size + 1 ≤ (w.alloc (.cells KZ 105)).heap.size := by simp
      generalize w.alloc (.cells KZ 105) = wz at *
      go_loopw [8, 9] (fun v i wr => ∃ (acc : List UInt8) (j : Nat), i = .int .i64 j ∧ wr.ownsRow (w.heap.size + 1) 5 1 v acc.length (u8s acc) ∧ j ≤ s.size ∧ acc.length ≤ j ∧ quote s (skip s k + 1) [] = quote s j acc ∧ wr.heap[w.heap.size]? = some (.cells KZ 105 (0, 0)) ∧ Below w.heap.size w wr ∧ w.heap.size + 1 ≤ wr.heap.size) (fun _ i _ => s.size - (intOf i).toNat)
      case atStart => exact ⟨[], skip s k + 1, by simp, World.ownsRow_nil _ _ _ _, hlt0, Nat.zero_le _, rfl, hqz, hb0, hs0⟩
      case round =>
        clear hqz hs0 hb0
        obtain ⟨acc, j, rfl, hown, hj, hal, hqq, hq, hB, hs1⟩ := hrel
        have HQQ : Hid (quote s (skip s k + 1) [] = quote s j acc) := hqq
        clear hqq
        by_cases hlt : j < s.size
        · have hbl : s[j].toNat < 256 := UInt8.toNat_lt s[j]
          by_cases c34 : s[j].toNat = 34
          · have e34 : (((s[j].toNat : Nat) : Int) == 34) = true := by rw [beq_iff_eq]; omega
            have es : s[j] = 34 := UInt8.toNat.inj (by rw [c34]; rfl)
            by_cases cn : nx s (j + 1) = 34
            · have hlt2 := nx_lt (s := s) (k := j + 1) (by omega)
              have en : (((s[j + 1].toNat : Nat) : Int) == 34) = true := by rw [beq_iff_eq, ← nx_in hlt2]; omega
              have hltI : ((j : Nat) : Int) + 1 < (s.size : Int) := by omega
              have HQ2 : Hid (quote s (skip s k + 1) [] = quote s (j + 2) (acc ++ [34])) := by
                unfold Hid
                rw [HQQ.out, quote, dif_pos hlt, if_pos es, if_pos cn]
              clear c34 es cn HQQ
              go_wp2_with (first | (at_builtin; refine wpList_append_own _ rfl _ _ 46 rfl (w.heap.size + 1) 5 i0 (.int .u8 0) 1 1 Tryz.underlying46 hi hz0 hz1 hz2 rfl (by decide) _ _ _ rfl (hown.alloc _) ⟨wr.heap.size, 0, none⟩ 1 1 [.int .u8 34] rfl rfl ?c1 ?c2 ?c3 ?c4 ?c5 ?_))
              case c1 =>
                intro q u hj
                match q, hj with
                | 0, hj => simp at hj; subst hj; simp [Addr.add]
              case c2 => intro u hu; simp at hu; subst hu; rfl
              case c3 => unfold maxLen; omega
              case c4 => omega
              case c5 => simp; omega
              · intro v' w3 hown' hgrow _
                have hb3 : Below w.heap.size w w3 := (hB.alloc hB.size _).grown hgrow (by simp; omega) (fun q hq => by have := hown.lt q hq; omega)
                have hq3 : w3.heap[w.heap.size]? = some (.cells KZ 105 (0, 0)) := by
                  rw [hgrow.block _ (by simp; omega) (fun e => by have := hown.lt _ e.symm; omega), Below.heap_alloc _ _ _ (by omega)]; exact hq
                have hown3 : w3.ownsRow (w.heap.size + 1) 5 1 v' (acc ++ [34]).length (u8s (acc ++ [34])) := by
                  rw [List.length_append]
                  unfold u8s at hown' ⊢
                  rw [List.map_append]
                  exact hown'
                have hs3 : w.heap.size + 1 ≤ w3.heap.size := by have := hgrow.size; simp at this; omega
                clear hown'
                go_wp2_with fail
                exact ⟨⟨acc ++ [34], j + 2, by simp, hown3, by omega, by simp; omega, HQ2.out, hq3, hb3, hs3⟩, by simp [intOf]; omega⟩
            · have HRT : Hid (RK = KV 2 (skip s k : Nat) (j + 1 : Nat) ⟨acc.toArray⟩) := by
                have h1 := HRK.out
                rw [HQQ.out, quote, dif_pos hlt, if_pos es, if_neg cn] at h1
                exact h1
              have hcv := conv_bytes hown
              obtain ⟨z0, z1, z2, z3⟩ := cells4 hq
              have zf : ∀ o, wr.frozen? ⟨w.heap.size, o, none⟩ = false := fun o => by simp [World.frozen?, hq]
              have HCN : Hid (¬ nx s (j + 1) = 34) := cn
              clear c34 es cn HQQ HRK
              by_cases hlt2 : j + 1 < s.size
              · have hltI : ((j : Nat) : Int) + 1 < (s.size : Int) := by omega
                have en : (((s[j + 1].toNat : Nat) : Int) == 34) = false := by rw [beq_eq_false_iff_ne, ← nx_in hlt2]; have := HCN.out; omega
                go_wp2_with fail
                refine fin4 hq (Q := bodyPost _ _ _ _ _) ?_
                intro w9 hq9 hk9
                clear z0 z1 z2 z3 zf
                obtain ⟨z0, z1, z2, z3⟩ := cells4 hq9
                exact bodyPost_ret (v := KV 2 (skip s k : Nat) ((j : Nat) + 1) ⟨acc.toArray⟩) (by simp [results, Tryz.results54, go_sem, z0, z1, z2, z3]) rfl ⟨by rw [HRT.out]; rfl, hB.trans (hk9.toBelow hB.size (fun n hn e => by omega))⟩
              · have hltI : ¬ ((j : Nat) : Int) + 1 < (s.size : Int) := by omega
                go_wp2_with fail
                refine fin4 hq (Q := bodyPost _ _ _ _ _) ?_
                intro w9 hq9 hk9
                clear z0 z1 z2 z3 zf
                obtain ⟨z0, z1, z2, z3⟩ := cells4 hq9
                exact bodyPost_ret (v := KV 2 (skip s k : Nat) ((j : Nat) + 1) ⟨acc.toArray⟩) (by simp [results, Tryz.results54, go_sem, z0, z1, z2, z3]) rfl ⟨by rw [HRT.out]; rfl, hB.trans (hk9.toBelow hB.size (fun n hn e => by omega))⟩
          · have e34 : (((s[j].toNat : Nat) : Int) == 34) = false := by rw [beq_eq_false_iff_ne]; omega
            have es : ¬ s[j] = 34 := fun e => c34 (by rw [e]; rfl)
            have HQ2 : Hid (quote s (skip s k + 1) [] = quote s (j + 1) (acc ++ [s[j]])) := by
              unfold Hid
              rw [HQQ.out, quote, dif_pos hlt, if_neg es]
            clear c34 es HQQ
            go_wp2_with (first | (at_builtin; refine wpList_append_own _ rfl _ _ 46 rfl (w.heap.size + 1) 5 i0 (.int .u8 0) 1 1 Tryz.underlying46 hi hz0 hz1 hz2 rfl (by decide) _ _ _ rfl (hown.alloc _) ⟨wr.heap.size, 0, none⟩ 1 1 [.int .u8 (s[j].toNat : Int)] rfl rfl ?c1 ?c2 ?c3 ?c4 ?c5 ?_))
            case c1 =>
              intro q u hj
              match q, hj with
              | 0, hj => simp at hj; subst hj; simp [Addr.add]
            case c2 => intro u hu; simp at hu; subst hu; rfl
            case c3 => unfold maxLen; omega
            case c4 => omega
            case c5 => simp; omega
            · intro v' w3 hown' hgrow _
              have hb3 : Below w.heap.size w w3 := (hB.alloc hB.size _).grown hgrow (by simp; omega) (fun q hq => by have := hown.lt q hq; omega)
              have hq3 : w3.heap[w.heap.size]? = some (.cells KZ 105 (0, 0)) := by
                rw [hgrow.block _ (by simp; omega) (fun e => by have := hown.lt _ e.symm; omega), Below.heap_alloc _ _ _ (by omega)]; exact hq
              have hown3 : w3.ownsRow (w.heap.size + 1) 5 1 v' (acc ++ [s[j]]).length (u8s (acc ++ [s[j]])) := by
                rw [List.length_append]
                unfold u8s at hown' ⊢
                rw [List.map_append]
                exact hown'
              have hs3 : w.heap.size + 1 ≤ w3.heap.size := by have := hgrow.size; simp at this; omega
              clear hown'
              go_wp2_with fail
              exact ⟨⟨acc ++ [s[j]], j + 1, by simp, hown3, by omega, by simp; omega, HQ2.out, hq3, hb3, hs3⟩, by simp [intOf]; omega⟩
        · have HRT : Hid (RK = KV 9 (skip s k : Nat) (skip s k : Nat) nul) := by
            have h1 := HRK.out
            rw [HQQ.out, quote, dif_neg hlt] at h1
            exact h1
          obtain ⟨z0, z1, z2, z3⟩ := cells4 hq
          have zf : ∀ o, wr.frozen? ⟨w.heap.size, o, none⟩ = false := fun o => by simp [World.frozen?, hq]
          clear HQQ HRK
          go_wp2_with fail
          refine fin4 hq (Q := bodyPost _ _ _ _ _) ?_
          intro w9 hq9 hk9
          clear z0 z1 z2 z3 zf
          obtain ⟨z0, z1, z2, z3⟩ := cells4 hq9
          exact bodyPost_ret (v := KV 9 (skip s k : Nat) (skip s k : Nat) nul) (by simp [results, Tryz.results54, go_sem, z0, z1, z2, z3]) rfl ⟨by rw [HRT.out], hB.trans (hk9.toBelow hB.size (fun n hn e => by omega))⟩
end Go.Proofs.YtomgjjngkffbbaaGreatDoor.fm
/- What is bad, as the reference's token. Condition: the place lies in the text, which has at most 200 bytes. -/
namespace Go.Proofs.YtomgjjngkffbbaaGreatDoor.fm
open Go.RowKit
abbrev wrC : Array Value := #[.string nul, .string bt0, .string bt1, .string bt2, .string bt3, .string bt4, .string bt5]
theorem wrongs_any (w : World) :
    Calls Tryz.prog 74 #[] w fun e w' => e = .returned (.slice (some ⟨w.heap.size, 0, none⟩) 7 7) ∧ w' = w.alloc (.cells wrC 9) := by
  go_enter Tryz.func74, Tryz.ntmps74
  go_wp2
  go_ret
  exact ⟨rfl, rfl⟩
theorem wr_cell {w : World} {g : Nat} (h : w.heap[g]? = some (.cells wrC 9 (0, 0))) (i : Nat) (h1 : 1 ≤ i) (h6 : i ≤ 6) : w.cell? ⟨g, i, none⟩ = some (.string (sh 4 (i : Nat) YtomgjjngkffbbaaGreatDoor.nul)) := by
  rw [cell_blk h]
  obtain ⟨⟨e1, e2, e3⟩, e4, e5, e6⟩ := shBad
  match i, h1, h6 with
  | 1, _, _ => rw [e1]; rfl
  | 2, _, _ => rw [e2]; rfl
  | 3, _, _ => rw [e3]; rfl
  | 4, _, _ => rw [e4]; rfl
  | 5, _, _ => rw [e5]; rfl
  | 6, _, _ => rw [e6]; rfl
theorem shBad_le (i : Nat) (h1 : 1 ≤ i) (h6 : i ≤ 6) : (sh 4 (i : Nat) YtomgjjngkffbbaaGreatDoor.nul).size ≤ 7 := by
  obtain ⟨⟨e1, e2, e3⟩, e4, e5, e6⟩ := shBad
  match i, h1, h6 with
  | 1, _, _ => rw [e1]; decide
  | 2, _, _ => rw [e2]; decide
  | 3, _, _ => rw [e3]; decide
  | 4, _, _ => rw [e4]; decide
  | 5, _, _ => rw [e5]; decide
  | 6, _, _ => rw [e6]; decide
theorem pre_cut (s t : ByteArray) (a : Nat) : ((s.extract a (a + t.size)).toList == t.toList) = pre s a t.data.toList := by
  rw [ByteArray.toList_eq, ByteArray.toList_eq]
  unfold pre
  rw [Bool.eq_iff_iff, List.isPrefixOf_iff_prefix, beq_iff_eq]
  have e : (s.extract a (a + t.size)).data.toList = (s.data.toList.drop a).take t.size := by
    simp
  rw [e]
  constructor
  · intro h1; rw [← h1]; exact List.take_prefix _ _
  · intro h1; rw [List.prefix_iff_eq_take.1 h1]; simp
set_option maxRecDepth 100000 in
set_option maxHeartbeats 4000000 in
theorem token_bad (s : ByteArray) (k : Nat) (w : World) (hs : s.size ≤ 200) (hk : k ≤ s.size) (hlt0 : skip s k < s.size) (hx : nx s (skip s k) = 35) (RK : Value) (hRK : RK = match badAt s (skip s k) with | none => KV 9 (skip s k : Nat) (skip s k : Nat) nul | some (n, len) => KV 3 (skip s k : Nat) (skip s k + len : Nat) (sh 4 (n : Nat) YtomgjjngkffbbaaGreatDoor.nul)) :
    Calls Tryz.prog 54 #[.string s, .int .i64 k] w fun e w' => e = .returned (RK) ∧ Below w.heap.size w w' := by
  have hb0 : Below w.heap.size w (w.alloc (.cells KZ 105)) := (Below.refl _ _).alloc (Nat.le_refl _) _
  have hk1 := (skip_spec s k).2.2 hk
  rw [badAt_from] at hRK
  have HRK : Hid (RK = match badFrom s (skip s k) 6 1 with | none => KV 9 (skip s k : Nat) (skip s k : Nat) nul | some (n, len) => KV 3 (skip s k : Nat) (skip s k + len : Nat) (sh 4 (n : Nat) YtomgjjngkffbbaaGreatDoor.nul)) := hRK
  have HX : Hid (nx s (skip s k) = 35) := hx
  clear hRK hx
  go_enter Tryz.func54, Tryz.ntmps54
  go_wp2_with fail
  go_loopw [1] (fun i wr => ∃ j : Nat, i = .int .i64 j ∧ j ≤ s.size ∧ skip s j = skip s k ∧ wr = w.alloc (.cells KZ 105)) (fun i _ => s.size - (intOf i).toNat)
  case atStart => exact ⟨k, rfl, hk, rfl, rfl⟩
  case round =>
    obtain ⟨j, rfl, hj, hsk, rfl⟩ := hrel
    by_cases c32 : nx s j = 32
    · have hlt := nx_lt (s := s) (k := j) (by omega)
      have hq : ((s[j].toNat : Nat) : Int) = 32 := by rw [nx_in hlt] at c32; omega
      have hq' : (((s[j].toNat : Nat) : Int) == 32) = true := by rw [beq_iff_eq]; exact hq
      have HS : Hid (skip s j = skip s k) := hsk
      have HC : Hid (nx s j = 32) := c32
      clear hsk c32 hq 
      go_wp2_with fail
      exact ⟨⟨j + 1, by simp, hlt, by rw [← HS.out, skip_blank HC.out], trivial⟩, by simp [intOf]; omega⟩
    · have hja : j = skip s k := by rw [← hsk, skip_else c32]
      subst hja
      clear hsk
      have hq2 : (((skip s k : Nat) : Int) == (s.size : Int)) = false := by rw [beq_eq_false_iff_ne]; omega
      have hb : (((s[skip s k].toNat : Nat) : Int) == 32) = false := by rw [beq_eq_false_iff_ne, ← nx_in hlt0]; omega
      clear c32
      go_wp2_with fail
      rw [← nx_in hlt0]
      refine (wordly_any _ _).mono ?_
      rintro e w1 ⟨rfl, rfl⟩
      rw [HX.out, show isW 35 = false from rfl]
      go_wp2_with fail
      refine (wrongs_any _).mono ?_
      rintro e w2 ⟨rfl, rfl⟩
      have hqz : ((w.alloc (.cells KZ 105)).alloc (.cells wrC 9)).heap[w.heap.size]? = some (.cells KZ 105 (0, 0)) := by rw [Below.heap_alloc _ _ _ (by simp)]; exact blk_new _ _
      have hgz := blk_new (w.alloc (.cells KZ 105)) (.cells wrC 9)
      have hbz := hb0.alloc hb0.size (.cells wrC 9)
      generalize (w.alloc (.cells KZ 105)).heap.size = g at *
      generalize (w.alloc (.cells KZ 105)).alloc (.cells wrC 9) = wz at *
      go_wp2_with fail
      go_loopw [11] (fun a wr => ∃ i : Nat, a = .int .i64 i ∧ 1 ≤ i ∧ i ≤ 7 ∧ badFrom s (skip s k) 6 1 = badFrom s (skip s k) (7 - i) i ∧ wr.heap[g]? = some (.cells wrC 9 (0, 0)) ∧ wr.heap[w.heap.size]? = some (.cells KZ 105 (0, 0)) ∧ Below w.heap.size w wr) (fun a _ => 7 - (intOf a).toNat)
      case atStart => exact ⟨1, rfl, by omega, by omega, rfl, hgz, hqz, hbz⟩
      case round =>
        clear hgz hqz hbz hb0
        obtain ⟨i, rfl, h1, h7, hbf, hg, hq, hB⟩ := hrel
        have HBF : Hid (badFrom s (skip s k) 6 1 = badFrom s (skip s k) (7 - i) i) := hbf
        clear hbf
        by_cases h6 : i ≤ 6
        · have hle : (i : Int) < 7 := by omega
          have hwc := wr_cell hg i h1 h6
          have hl7 := shBad_le i h1 h6
          have HST : Hid (badFrom s (skip s k) (7 - i) i = if pre s (skip s k) (sh 4 (i : Nat) YtomgjjngkffbbaaGreatDoor.nul).data.toList = true then some (i, (sh 4 (i : Nat) YtomgjjngkffbbaaGreatDoor.nul).size) else badFrom s (skip s k) (7 - (i + 1)) (i + 1)) := by
            unfold Hid
            rw [show 7 - i = (7 - (i + 1)) + 1 from by omega, badFrom]
          have HRT0 : Hid (pre s (skip s k) (sh 4 (i : Nat) YtomgjjngkffbbaaGreatDoor.nul).data.toList = true → RK = KV 3 (skip s k : Nat) (skip s k + (sh 4 (i : Nat) YtomgjjngkffbbaaGreatDoor.nul).size : Nat) (sh 4 (i : Nat) YtomgjjngkffbbaaGreatDoor.nul)) := fun hp => by
            have h1 := HRK.out
            rw [HBF.out, HST.out, if_pos hp] at h1
            exact h1
          have HB0 : Hid (pre s (skip s k) (sh 4 (i : Nat) YtomgjjngkffbbaaGreatDoor.nul).data.toList = false → badFrom s (skip s k) 6 1 = badFrom s (skip s k) (7 - (i + 1)) (i + 1)) := fun hp => by
            rw [HBF.out, HST.out, if_neg (by simp [hp])]
          have HPC : Hid (((s.extract (skip s k) (skip s k + (sh 4 (i : Nat) YtomgjjngkffbbaaGreatDoor.nul).size)).toList == (sh 4 (i : Nat) YtomgjjngkffbbaaGreatDoor.nul).toList) = pre s (skip s k) (sh 4 (i : Nat) YtomgjjngkffbbaaGreatDoor.nul).data.toList) := pre_cut s _ _
          have hne := shBad_ne i h1 h6
          have HLE : Hid (pre s (skip s k) (sh 4 (i : Nat) YtomgjjngkffbbaaGreatDoor.nul).data.toList = true → skip s k + (sh 4 (i : Nat) YtomgjjngkffbbaaGreatDoor.nul).size ≤ s.size) := fun e => by
            have := pre_le e hne
            simpa using this
          clear hne HST HBF
          generalize (sh 4 (i : Nat) YtomgjjngkffbbaaGreatDoor.nul) = st at *
          have hi7 : i < 7 := by omega
          have hsI : ((skip s k : Nat) : Int) + (st.size : Int) = ((skip s k + st.size : Nat) : Int) := by omega
          by_cases hfit : skip s k + st.size ≤ s.size
          · have hfI : ((skip s k : Nat) : Int) + (st.size : Int) ≤ (s.size : Int) := by omega
            have hpc := HPC.out
            cases hp : pre s (skip s k) st.data.toList with
            | true =>
              rw [hp] at hpc
              have HRT : Hid (RK = KV 3 (skip s k : Nat) (skip s k + st.size : Nat) st) := HRT0.out hp
              clear hp HRK HLE HPC HRT0 HB0 hsI
              go_wp2_with fail
              go_quiet (fail)
              replace hq : (wr.drewN nq).heap[w.heap.size]? = some (.cells KZ 105 (0, 0)) := hq
              replace hwc : (wr.drewN nq).cell? ⟨g, i, none⟩ = some (.string st) := hwc
              replace hB : Below w.heap.size w (wr.drewN nq) := below_drewN hB nq
              generalize wr.drewN nq = wr at *
              obtain ⟨z0, z1, z2, z3⟩ := cells4 hq
              have zf : ∀ o, wr.frozen? ⟨w.heap.size, o, none⟩ = false := fun o => by simp [World.frozen?, hq]
              go_wp2_with fail
              refine fin4 hq (Q := bodyPost _ _ _ _ _) ?_
              intro w9 hq9 hk9
              clear z0 z1 z2 z3 zf
              obtain ⟨z0, z1, z2, z3⟩ := cells4 hq9
              exact bodyPost_ret (v := KV 3 (skip s k : Nat) ((skip s k : Nat) + (st.size : Int)) st) (by simp [results, Tryz.results54, go_sem, z0, z1, z2, z3]) rfl ⟨by rw [HRT.out]; rfl, hB.trans (hk9.toBelow hB.size (fun n hn e => by omega))⟩
            | false =>
              rw [hp] at hpc
              have HB2 : Hid (badFrom s (skip s k) 6 1 = badFrom s (skip s k) (7 - (i + 1)) (i + 1)) := HB0.out hp
              clear hp HLE HPC HRT0 HB0 hsI
              go_wp2_with fail
              go_quiet (fail)
              go_wp2_with fail
              exact ⟨⟨i + 1, by simp, by omega, by omega, HB2.out, hg, hq, below_drewN hB nq⟩, by simp [intOf]; omega⟩
          · have hfI : ¬ ((skip s k : Nat) : Int) + (st.size : Int) ≤ (s.size : Int) := by omega
            have HB2 : Hid (badFrom s (skip s k) 6 1 = badFrom s (skip s k) (7 - (i + 1)) (i + 1)) := HB0.out (by
              cases hp : pre s (skip s k) st.data.toList with
              | true => exact absurd (HLE.out hp) hfit
              | false => rfl)
            clear HLE HPC HRT0 HB0 hsI
            have hfd : decide (((skip s k : Nat) : Int) + (st.size : Int) ≤ (s.size : Int)) = false := by simpa using hfI
            go_wp2_with fail
            go_quiet (fail)
            go_wp2_with fail
            exact ⟨⟨i + 1, by simp, by omega, by omega, HB2.out, hg, hq, below_drewN hB nq⟩, by simp [intOf]; omega⟩
        · obtain rfl : i = 7 := by omega
          have HRT : Hid (RK = KV 9 (skip s k : Nat) (skip s k : Nat) nul) := by
            have h1 := HRK.out
            rw [HBF.out] at h1
            exact h1
          obtain ⟨z0, z1, z2, z3⟩ := cells4 hq
          have zf : ∀ o, wr.frozen? ⟨w.heap.size, o, none⟩ = false := fun o => by simp [World.frozen?, hq]
          clear HBF HRK
          go_wp2_with fail
          refine fin4 hq (Q := bodyPost _ _ _ _ _) ?_
          intro w9 hq9 hk9
          clear z0 z1 z2 z3 zf
          obtain ⟨z0, z1, z2, z3⟩ := cells4 hq9
          exact bodyPost_ret (v := KV 9 (skip s k : Nat) (skip s k : Nat) nul) (by simp [results, Tryz.results54, go_sem, z0, z1, z2, z3]) rfl ⟨by rw [HRT.out], hB.trans (hk9.toBelow hB.size (fun n hn e => by omega))⟩
end Go.Proofs.YtomgjjngkffbbaaGreatDoor.fm

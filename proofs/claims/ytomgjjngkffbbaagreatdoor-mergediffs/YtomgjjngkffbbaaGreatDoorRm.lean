
/- The reference's token at any place; its signs, how tight they hold; what it says of names. Condition: the place lies in the text, which has at most 200 bytes. -/
import Derived.Test.YtomgjjngkffbbaaGreatDoorRt4
namespace Go.Proofs.YtomgjjngkffbbaaGreatDoor.fm
open Go.RowKit
/-- A token: its kind, where it begins and ends, what it says. -/
structure Tk where
  kind : Int
  a : Nat
  e : Nat
  t : ByteArray
def two2 (s : ByteArray) (a : Nat) : Bool := (decide (nx s a = 60) && decide (nx s (a + 1) = 62)) || (decide (nx s a = 60) && decide (nx s (a + 1) = 61)) || (decide (nx s a = 62) && decide (nx s (a + 1) = 61))
def tkR (s : ByteArray) (k : Nat) : Tk :=
  if skip s k = s.size then ⟨0, skip s k, skip s k, nul⟩
  else if isW (nx s (skip s k)) = true then ⟨1, skip s k, tokEnd s (skip s k), tok s (skip s k)⟩
  else if nx s (skip s k) = 34 then (match quote s (skip s k + 1) [] with | none => ⟨9, skip s k, skip s k, nul⟩ | some (l, e) => ⟨2, skip s k, e, ⟨l.toArray⟩⟩)
  else if nx s (skip s k) = 35 then (match badAt s (skip s k) with | none => ⟨9, skip s k, skip s k, nul⟩ | some (n, len) => ⟨3, skip s k, skip s k + len, sh 4 (n : Nat) YtomgjjngkffbbaaGreatDoor.nul⟩)
  else if two2 s (skip s k) = true then ⟨4, skip s k, skip s k + 2, s.extract (skip s k) (skip s k + 2)⟩
  else ⟨4, skip s k, skip s k + 1, s.extract (skip s k) (skip s k + 1)⟩
theorem token_at (s : ByteArray) (k : Nat) (w : World) (hs : s.size ≤ 200) (hk : k ≤ s.size) :
    Calls Tryz.prog 54 #[.string s, .int .i64 k] w fun e w' => e = .returned (KV (tkR s k).kind ((tkR s k).a : Nat) ((tkR s k).e : Nat) (tkR s k).t) ∧ Below w.heap.size w w' := by
  have hk1 := (skip_spec s k).2.2 hk
  unfold tkR
  by_cases h0 : skip s k = s.size
  · rw [if_pos h0]; exact token_end s k w hs hk h0
  rw [if_neg h0]
  have hlt : skip s k < s.size := by omega
  by_cases h1 : isW (nx s (skip s k)) = true
  · rw [if_pos h1]; exact token_word s k w hs hk h1
  rw [if_neg h1]
  have h1' : isW (nx s (skip s k)) = false := by simpa using h1
  by_cases h2 : nx s (skip s k) = 34
  · rw [if_pos h2]
    refine (token_quote s k w hs hk hlt h2 _ rfl).mono ?_
    rintro e w1 ⟨rfl, hb⟩
    refine ⟨?_, hb⟩
    cases quote s (skip s k + 1) [] with
    | none => rfl
    | some p => rfl
  rw [if_neg h2]
  by_cases h3 : nx s (skip s k) = 35
  · rw [if_pos h3]
    refine (token_bad s k w hs hk hlt h3 _ rfl).mono ?_
    rintro e w1 ⟨rfl, hb⟩
    refine ⟨?_, hb⟩
    cases badAt s (skip s k) with
    | none => rfl
    | some p => rfl
  rw [if_neg h3]
  by_cases h4 : two2 s (skip s k) = true
  · rw [if_pos h4]
    unfold two2 at h4
    simp at h4
    rcases h4 with (⟨a, b⟩ | ⟨a, b⟩) | ⟨a, b⟩
    · exact token_sign_ne s k w hs hk hlt ⟨a, b⟩
    · exact token_sign_le s k w hs hk hlt ⟨a, b⟩
    · exact token_sign_ge s k w hs hk hlt ⟨a, b⟩
  · rw [if_neg h4]
    unfold two2 at h4
    simp at h4
    exact token_sign_one s k w hs hk hlt ⟨h1', h2, h3⟩ ⟨fun q => h4.1.1 q.1 q.2, fun q => h4.1.2 q.1 q.2, fun q => h4.2 q.1 q.2⟩
theorem tk_spec (s : ByteArray) (k : Nat) (hk : k ≤ s.size) : (tkR s k).a = skip s k ∧ skip s k ≤ (tkR s k).e ∧ (tkR s k).e ≤ s.size := by
  have hk1 := (skip_spec s k).2.2 hk
  have ht := tok_spec s (skip s k)
  unfold tkR
  by_cases h0 : skip s k = s.size
  · rw [if_pos h0]; exact ⟨rfl, Nat.le_refl _, hk1⟩
  rw [if_neg h0]
  by_cases h1 : isW (nx s (skip s k)) = true
  · rw [if_pos h1]; exact ⟨rfl, ht.1, ht.2.2.1 hk1⟩
  rw [if_neg h1]
  by_cases h2 : nx s (skip s k) = 34
  · rw [if_pos h2]
    cases hq : quote s (skip s k + 1) [] with
    | none => exact ⟨rfl, Nat.le_refl _, hk1⟩
    | some p =>
      obtain ⟨l, e⟩ := p
      have := quote_spec s _ _ _ _ hq
      exact ⟨rfl, by simp only; omega, this.2⟩
  rw [if_neg h2]
  by_cases h3 : nx s (skip s k) = 35
  · rw [if_pos h3]
    cases hq : badAt s (skip s k) with
    | none => exact ⟨rfl, Nat.le_refl _, hk1⟩
    | some p =>
      obtain ⟨n, len⟩ := p
      have := badAt_spec hq
      exact ⟨rfl, by simp only; omega, this.2.2.2⟩
  rw [if_neg h3]
  by_cases h4 : two2 s (skip s k) = true
  · rw [if_pos h4]
    unfold two2 at h4
    simp at h4
    have := nx_lt (s := s) (k := skip s k + 1) (by omega)
    exact ⟨rfl, by simp only; omega, by simp only; omega⟩
  · rw [if_neg h4]
    exact ⟨rfl, by simp only; omega, by simp only; omega⟩
theorem tight_any (op : Nat) (h1 : 1 ≤ op) (w : World) : Calls Tryz.prog 72 #[.int .i64 (op : Nat)] w fun e w' => e = .returned (.int .i64 (lev op : Nat)) ∧ w' = w := by
  by_cases h6 : op ≤ 6
  · have e : lev op = 1 := by unfold lev; rw [if_neg (by omega), if_pos h6]
    have h6I : (op : Int) ≤ 6 := by omega
    rw [e]
    clear e
    go_enter Tryz.func72, Tryz.ntmps72
    go_wp2
    go_ret
    exact ⟨rfl, rfl⟩
  have h6I : ¬ (op : Int) ≤ 6 := by omega
  by_cases h7 : op = 7
  · subst h7
    go_enter Tryz.func72, Tryz.ntmps72
    go_wp2
    go_ret
    exact ⟨rfl, rfl⟩
  have h7I : ((op : Int) == 7) = false := by rw [beq_eq_false_iff_ne]; omega
  by_cases h9 : op ≤ 9
  · have e : lev op = 3 := by unfold lev; rw [if_neg (by omega), if_neg h6, if_neg h7, if_pos h9]
    have h9I : (op : Int) ≤ 9 := by omega
    rw [e]
    clear e
    go_enter Tryz.func72, Tryz.ntmps72
    go_wp2
    go_ret
    exact ⟨rfl, rfl⟩
  · have e : lev op = 4 := by unfold lev; rw [if_neg (by omega), if_neg h6, if_neg h7, if_neg h9]
    have h9I : ¬ (op : Int) ≤ 9 := by omega
    rw [e]
    clear e
    go_enter Tryz.func72, Tryz.ntmps72
    go_wp2
    go_ret
    exact ⟨rfl, rfl⟩
/-- The reference's reader: the text, the place, where it is wrong and how, the levels. -/
def PD (w : World) (pb : Nat) (s : ByteArray) (k : Nat) (wr bd : Int) (d : Nat) : Prop := w.heap[pb]? = some (.cells #[.string s, .int .i64 k, .int .i64 wr, .int .i64 bd, .int .i64 d] 102 (0, 0))
theorem PD.cells {w : World} {pb : Nat} {s : ByteArray} {k : Nat} {wr bd : Int} {d : Nat} (h : PD w pb s k wr bd d) :
    (w.cell? ⟨pb, 0, none⟩ = some (.string s) ∧ w.cell? ⟨pb, 1, none⟩ = some (.int .i64 k) ∧ w.cell? ⟨pb, 2, none⟩ = some (.int .i64 wr) ∧ w.cell? ⟨pb, 3, none⟩ = some (.int .i64 bd) ∧ w.cell? ⟨pb, 4, none⟩ = some (.int .i64 d)) ∧ (w.frozen? ⟨pb, 0, none⟩ = false ∧ w.frozen? ⟨pb, 1, none⟩ = false ∧ w.frozen? ⟨pb, 2, none⟩ = false ∧ w.frozen? ⟨pb, 3, none⟩ = false ∧ w.frozen? ⟨pb, 4, none⟩ = false) := by
  unfold PD at h
  simp [World.cell?, World.frozen?, h]
theorem PD.setAt {w : World} {pb : Nat} {s : ByteArray} {k : Nat} {wr bd : Int} {d : Nat} (h : PD w pb s k wr bd d) (k' : Nat) : PD (w.setCell ⟨pb, 1, none⟩ (.int .i64 k')) pb s k' wr bd d := by
  unfold PD at h ⊢
  rw [blk_set h]; rfl
theorem PD.setDeep {w : World} {pb : Nat} {s : ByteArray} {k : Nat} {wr bd : Int} {d : Nat} (h : PD w pb s k wr bd d) (d' : Nat) : PD (w.setCell ⟨pb, 4, none⟩ (.int .i64 d')) pb s k wr bd d' := by
  unfold PD at h ⊢
  rw [blk_set h]; rfl
theorem PD.keep {X : Nat → Prop} {w w' : World} {pb : Nat} {s : ByteArray} {k : Nat} {wr bd : Int} {d : Nat} (h : PD w pb s k wr bd d) (hk : Kp X w w') (hx : ¬ X pb) : PD w' pb s k wr bd d := hk.blk h hx
theorem PD.below {w w' : World} {pb : Nat} {s : ByteArray} {k : Nat} {wr bd : Int} {d : Nat} (h : PD w pb s k wr bd d) (hk : Below w.heap.size w w') : PD w' pb s k wr bd d := by
  unfold PD at h ⊢
  rw [hk.block _ (lt_blk h)]; exact h
theorem PD.lt {w : World} {pb : Nat} {s : ByteArray} {k : Nat} {wr bd : Int} {d : Nat} (h : PD w pb s k wr bd d) : pb < w.heap.size := lt_blk h
theorem fail_first (pb k d : Nat) (wr : Int) (s : ByteArray) (a : Nat) (e : Int) (w : World) (h : PD w pb s k wr 0 d) :
    Calls Tryz.prog 55 #[ptr pb, .int .i64 a, .int .i64 e] w fun x w' => x = .returned (.tuple #[]) ∧ PD w' pb s k a e d ∧ Kp (· = pb) w w' := by
  obtain ⟨⟨c0, c1, c2, c3, c4⟩, f0, f1, f2, f3, f4⟩ := h.cells
  go_enter Tryz.func55, Tryz.ntmps55
  go_wp2
  go_end0
  refine ⟨rfl, ?_, ((Kp.refl (· = pb) w).setCell (Or.inl rfl) _).setCell (Or.inl rfl) _⟩
  unfold PD at h ⊢
  have h1 : (w.setCell ⟨pb, 2, none⟩ (.int .i64 a)).heap[pb]? = some (.cells #[.string s, .int .i64 k, .int .i64 a, .int .i64 0, .int .i64 d] 102 (0, 0)) := by rw [blk_set h]; rfl
  rw [blk_set h1]; rfl
theorem fail_later (pb k d : Nat) (wr bd : Int) (hb : bd ≠ 0) (s : ByteArray) (a : Nat) (e : Int) (w : World) (h : PD w pb s k wr bd d) :
    Calls Tryz.prog 55 #[ptr pb, .int .i64 a, .int .i64 e] w fun x w' => x = .returned (.tuple #[]) ∧ w' = w := by
  obtain ⟨⟨c0, c1, c2, c3, c4⟩, f0, f1, f2, f3, f4⟩ := h.cells
  have hq : (bd == 0) = false := by rw [beq_eq_false_iff_ne]; exact hb
  clear hb
  go_enter Tryz.func55, Tryz.ntmps55
  go_wp2
  go_end0
  exact ⟨rfl, rfl⟩
theorem rdeeper_full (pb k : Nat) (wr : Int) (s : ByteArray) (a : Nat) (w : World) (h : PD w pb s k wr 0 30) :
    Calls Tryz.prog 92 #[ptr pb, .int .i64 a] w fun x w' => x = .returned (.bool false) ∧ PD w' pb s k a 4 30 ∧ Kp (· = pb) w w' := by
  obtain ⟨⟨c0, c1, c2, c3, c4⟩, f0, f1, f2, f3, f4⟩ := h.cells
  go_enter Tryz.func92, Tryz.ntmps92
  go_wp2_with fail
  refine (fail_first pb k 30 wr s a 4 _ h).mono ?_
  rintro e w1 ⟨rfl, hP, hK⟩
  go_wp2_with fail
  go_ret
  exact ⟨rfl, hP, hK⟩
theorem rdeeper_go (pb k d : Nat) (wr bd : Int) (s : ByteArray) (a : Nat) (w : World) (h : PD w pb s k wr bd d) (hd : d < 30) :
    Calls Tryz.prog 92 #[ptr pb, .int .i64 a] w fun x w' => x = .returned (.bool true) ∧ PD w' pb s k wr bd (d + 1) ∧ Kp (· = pb) w w' := by
  obtain ⟨⟨c0, c1, c2, c3, c4⟩, f0, f1, f2, f3, f4⟩ := h.cells
  have hq : ((d : Int) == 30) = false := by rw [beq_eq_false_iff_ne]; omega
  go_enter Tryz.func92, Tryz.ntmps92
  go_wp2_with fail
  go_ret
  exact ⟨rfl, h.setDeep (d + 1), (Kp.refl (· = pb) w).setCell (Or.inl rfl) _⟩
end Go.Proofs.YtomgjjngkffbbaaGreatDoor.fm
/- The reference's signs by their texts, and its names. Condition: as each theorem says. -/
namespace Go.Proofs.YtomgjjngkffbbaaGreatDoor.fm
open Go.RowKit
def sgFrom (t : ByteArray) : Nat → Nat → Nat
  | 0, _ => 0
  | f + 1, i => if ((opTxt i).toList == t.toList) = true then i else sgFrom t f (i + 1)
def sgnOf (t : ByteArray) : Nat := sgFrom t 11 1
abbrev sgC : Array Value := #[.string ⟨#[]⟩, .string ⟨#[61]⟩, .string ⟨#[60, 62]⟩, .string ⟨#[60]⟩, .string ⟨#[60, 61]⟩, .string ⟨#[62]⟩, .string ⟨#[62, 61]⟩, .string ⟨#[38]⟩, .string ⟨#[43]⟩, .string ⟨#[45]⟩, .string ⟨#[42]⟩, .string ⟨#[47]⟩]
theorem sg_cell {w : World} {g : Nat} (h : w.heap[g]? = some (.cells sgC 9 (0, 0))) (i : Nat) (hi : i < 12) : w.cell? ⟨g, i, none⟩ = some (.string (opTxt i)) := by
  rw [cell_blk h]
  match i, hi with
  | 0, _ => rfl
  | 1, _ => rfl
  | 2, _ => rfl
  | 3, _ => rfl
  | 4, _ => rfl
  | 5, _ => rfl
  | 6, _ => rfl
  | 7, _ => rfl
  | 8, _ => rfl
  | 9, _ => rfl
  | 10, _ => rfl
  | 11, _ => rfl
  | i + 12, hi => omega
set_option maxRecDepth 100000 in
set_option maxHeartbeats 2000000 in
theorem sign_any (t : ByteArray) (w : World) : Calls Tryz.prog 71 #[.string t] w fun e w' => e = .returned (.int .i64 (sgnOf t : Nat)) ∧ Below w.heap.size w w' := by
  have hg0 := blk_new w (.cells sgC 9)
  have hb0 : Below w.heap.size w (w.alloc (.cells sgC 9)) := (Below.refl _ _).alloc (Nat.le_refl _) _
  obtain ⟨R, hR⟩ : ∃ R, sgnOf t = R := ⟨_, rfl⟩
  rw [hR]
  have HR : Hid (sgFrom t 11 1 = R) := hR
  clear hR
  go_enter Tryz.func71, Tryz.ntmps71
  go_wp2_with fail
  generalize w.alloc (.cells sgC 9) = w0 at *
  go_loopw [4] (fun a wr => ∃ i : Nat, a = .int .i64 i ∧ 1 ≤ i ∧ i ≤ 12 ∧ sgFrom t (12 - i) i = R ∧ wr = w0) (fun a _ => 12 - (intOf a).toNat)
  case atStart => exact ⟨1, rfl, by omega, by omega, HR.out, rfl⟩
  case round =>
    obtain ⟨i, rfl, h1, h12, hsg, rfl⟩ := hrel
    have HSG : Hid (sgFrom t (12 - i) i = R) := hsg
    clear hsg HR
    by_cases hlt : i < 12
    · have hc := sg_cell hg0 i hlt
      have HST : Hid (sgFrom t (12 - i) i = if ((opTxt i).toList == t.toList) = true then i else sgFrom t (12 - (i + 1)) (i + 1)) := by
        unfold Hid
        rw [show 12 - i = (12 - (i + 1)) + 1 from by omega, sgFrom]
      have hltI : (i : Int) < 12 := by omega
      generalize opTxt i = ot at *
      cases hp : (ot.toList == t.toList) with
      | true =>
        have HRT : Hid (R = i) := by
          have h1 := HSG.out
          rw [HST.out, if_pos hp] at h1
          exact h1.symm
        clear HST HSG
        go_wp2_with fail
        go_ret
        exact ⟨by rw [HRT.out]; rfl, hb0⟩
      | false =>
        have HB : Hid (sgFrom t (12 - (i + 1)) (i + 1) = R) := by
          have h1 := HSG.out
          rw [HST.out, if_neg (by simp [hp])] at h1
          exact h1
        clear HST HSG
        go_wp2_with fail
        exact ⟨⟨i + 1, by simp, by omega, by omega, HB.out, trivial⟩, by simp [intOf]; omega⟩
    · obtain rfl : i = 12 := by omega
      have HRT : Hid (R = 0) := HSG.out.symm
      clear HSG
      go_wp2_with fail
      go_ret
      exact ⟨by rw [HRT.out]; rfl, hb0⟩
set_option maxHeartbeats 2000000 in
theorem called_any (s : ByteArray) (w : World) (hs : s.size ≤ 200) :
    Calls Tryz.prog 91 #[.string s] w fun e w' => e = .returned (.bool (isNm s)) ∧ w' = w := by
  by_cases h2 : (s.size : Int) < 2
  · have hf : isNm s = false := by unfold isNm; rw [decide_eq_false (by omega)]; simp
    rw [hf]
    clear hf
    go_enter Tryz.func91, Tryz.ntmps91
    go_wp2_with fail
    go_ret
    exact ⟨rfl, rfl⟩
  by_cases h10 : (10 : Int) < (s.size : Int)
  · have hf : isNm s = false := by unfold isNm; rw [decide_eq_false (by omega : ¬ s.size ≤ 10)]; simp
    rw [hf]
    clear hf
    go_enter Tryz.func91, Tryz.ntmps91
    go_wp2_with fail
    go_ret
    exact ⟨rfl, rfl⟩
  have hN : isNm s = s.data.toList.all isL := by unfold isNm; rw [decide_eq_true (by omega), decide_eq_true (by omega)]; rfl
  rw [hN]
  clear hN
  obtain ⟨A, hA⟩ : ∃ A, s.data.toList.all isL = A := ⟨_, rfl⟩
  have HAA : Hid (s.data.toList.all isL = A) := hA
  rw [hA]
  clear hA
  go_enter Tryz.func91, Tryz.ntmps91
  go_wp2_with fail
  go_loopw [3] (fun i wr => ∃ k : Nat, k ≤ s.size ∧ i = .int .i64 k ∧ A = (s.data.toList.drop k).all isL ∧ wr = w) (fun i _ => s.size - (intOf i).toNat)
  case atStart => exact ⟨0, Nat.zero_le _, rfl, HAA.out.symm, rfl⟩
  case round =>
    obtain ⟨k, hk, rfl, heq, rfl⟩ := hrel
    have HEQ : Hid (A = (s.data.toList.drop k).all isL) := heq
    clear heq
    by_cases hlt : k < s.size
    · have HD : Hid ((s.data.toList.drop k).all isL = (isL s[k] && (s.data.toList.drop (k + 1)).all isL)) := all_drop s k hlt
      have hb : s[k].toNat < 256 := UInt8.toNat_lt s[k]
      by_cases d1 : s[k].toNat < 65
      · have HF : Hid (A = false) := by unfold Hid; rw [HEQ.out, HD.out, show isL s[k] = false from by unfold isL; rw [decide_eq_false (by omega)]; rfl]; rfl
        have d1' : ((s[k].toNat : Nat) : Int) < 65 := by omega
        clear HEQ HD
        go_wp2_with fail
        go_ret
        exact ⟨by rw [HF.out]; rfl, rfl⟩
      by_cases d2 : 90 < s[k].toNat
      · have HF : Hid (A = false) := by unfold Hid; rw [HEQ.out, HD.out, show isL s[k] = false from by unfold isL; rw [decide_eq_false (by omega : ¬ s[k].toNat ≤ 90)]; simp]; rfl
        have d1' : ¬ ((s[k].toNat : Nat) : Int) < 65 := by omega
        have d2' : (90 : Int) < ((s[k].toNat : Nat) : Int) := by omega
        clear HEQ HD
        go_wp2_with fail
        go_ret
        exact ⟨by rw [HF.out]; rfl, rfl⟩
      · have HF : Hid (A = (s.data.toList.drop (k + 1)).all isL) := by unfold Hid; rw [HEQ.out, HD.out, show isL s[k] = true from by unfold isL; rw [decide_eq_true (by omega), decide_eq_true (by omega)]; rfl]; rfl
        have d1' : ¬ ((s[k].toNat : Nat) : Int) < 65 := by omega
        have d2' : ¬ (90 : Int) < ((s[k].toNat : Nat) : Int) := by omega
        clear HEQ HD
        go_wp2_with fail
        exact ⟨⟨k + 1, by omega, rfl, HF.out, trivial⟩, by simp [intOf]; omega⟩
    · have hl0 : s.data.toList.drop k = [] := List.drop_eq_nil_of_le (by simp; omega)
      have HF : Hid (A = true) := by unfold Hid; rw [HEQ.out, hl0]; rfl
      clear HEQ hl0
      go_wp2_with fail
      go_ret
      exact ⟨by rw [HF.out]; rfl, rfl⟩
end Go.Proofs.YtomgjjngkffbbaaGreatDoor.fm
/- The reference's closing bracket. Condition: the place lies in the text, which has at most 200 bytes. -/
namespace Go.Proofs.YtomgjjngkffbbaaGreatDoor.fm
open Go.RowKit
/-- A token's block. -/
abbrev K4 (t : Tk) : Array Value := #[.int .i64 t.kind, .int .i64 (t.a : Nat), .int .i64 (t.e : Nat), .string t.t]
/-- Behind the token's reading: it lies in a block of its own. -/
structure KS (w : World) (t : Tk) (kb : Nat) (wx : World) : Prop where
  lo : w.heap.size ≤ kb
  blk : wx.heap[kb]? = some (.cells (K4 t) 105 (0, 0))
  below : Below w.heap.size w wx
theorem ks1 {w w1 : World} {t : Tk} (h : Below w.heap.size w w1) : KS w t w1.heap.size (w1.alloc (.cells (K4 t) 105)) := ⟨h.size, blk_new _ _, h.alloc h.size _⟩
theorem kz_a {w w1 : World} (hb : Below (w.drew.alloc (.cells KZ 105)).heap.size (w.drew.alloc (.cells KZ 105)) w1) : w1.heap[w.heap.size]? = some (.cells KZ 105 (0, 0)) := by
  rw [hb.block _ (by simp)]; exact blk_new w.drew _
theorem kz_b {w w1 : World} (hb : Below (w.alloc (.cells KZ 105)).drew.heap.size (w.alloc (.cells KZ 105)).drew w1) : w1.heap[w.heap.size]? = some (.cells KZ 105 (0, 0)) := by
  rw [hb.block _ (by show w.heap.size < (w.alloc (.cells KZ 105)).heap.size; simp)]; exact blk_new w _
theorem cells4f {w : World} {b : Nat} {a0 a1 a2 a3 : Value} {t : TypeId} (h : w.heap[b]? = some (.cells #[a0, a1, a2, a3] t (0, 0))) : (w.cell? ⟨b, 0, none⟩ = some a0 ∧ w.cell? ⟨b, 1, none⟩ = some a1 ∧ w.cell? ⟨b, 2, none⟩ = some a2 ∧ w.cell? ⟨b, 3, none⟩ = some a3) ∧ w.frozen? ⟨b, 0, none⟩ = false ∧ w.frozen? ⟨b, 1, none⟩ = false ∧ w.frozen? ⟨b, 2, none⟩ = false ∧ w.frozen? ⟨b, 3, none⟩ = false := by
  simp [World.cell?, World.frozen?, h]
theorem ks2 {w w1 : World} {t : Tk} (hb : Below (w.drew.alloc (.cells KZ 105)).heap.size (w.drew.alloc (.cells KZ 105)) w1) {Q : World → Prop} (h : ∀ w2, KS w t w.heap.size w2 → Q w2) :
    Q ((((w1.setCell ⟨w.heap.size, 0, none⟩ (.int .i64 t.kind)).setCell ⟨w.heap.size, 1, none⟩ (.int .i64 (t.a : Nat))).setCell ⟨w.heap.size, 2, none⟩ (.int .i64 (t.e : Nat))).setCell ⟨w.heap.size, 3, none⟩ (.string t.t)) := by
  refine fin4 (kz_a hb) (Q := Q) fun w2 hw2 hk2 => h w2 ⟨Nat.le_refl _, hw2, ?_⟩
  have hw1 : Below w.heap.size w w1 := ((Below.refl w.heap.size w).drew.alloc (Nat.le_refl _) _).trans (hb.mono (by simp))
  exact hw1.trans (hk2.toBelow hw1.size (fun n hn e => by omega))
theorem ks3 {w w1 : World} {t : Tk} (hb : Below w.drew.heap.size w.drew w1) : KS w t w1.heap.size (w1.alloc (.cells (K4 t) 105)) := ks1 (t := t) (show Below w.heap.size w w1 from ⟨hb.os, hb.tape, hb.output, hb.size, hb.block⟩)
end Go.Proofs.YtomgjjngkffbbaaGreatDoor.fm
/- The reference's tokens against chapter 3's reading, in plain Lean; how its reader's calls end. Condition: the place lies in the text. -/
namespace Go.Proofs.YtomgjjngkffbbaaGreatDoor.fm
open Go.RowKit
theorem kb1 {w w1 : World} (hb : Below w.drew.heap.size w.drew w1) : Below w.heap.size w w1 := ⟨hb.os, hb.tape, hb.output, hb.size, hb.block⟩
theorem kb2 {w w1 : World} {o : Obj} (hb : Below (w.drew.alloc o).heap.size (w.drew.alloc o) w1) : Below w.heap.size w w1 := ((Below.refl w.heap.size w).drew.alloc (Nat.le_refl _) _).trans (hb.mono (by simp))
theorem exT1 {s : ByteArray} {k : Nat} (h : k < s.size) : (s.extract k (k + 1)).toList = [s[k]] := by
  rw [ByteArray.toList_eq]
  apply List.ext_getElem
  · simp; omega
  · intro i h1 h2
    simp at h2
    subst h2
    simp
    rfl
theorem exT2 {s : ByteArray} {k : Nat} (h : k + 1 < s.size) : (s.extract k (k + 2)).toList = [s[k], s[k + 1]] := by
  rw [ByteArray.toList_eq]
  apply List.ext_getElem
  · simp; omega
  · intro i h1 h2
    simp at h2
    match i, h2 with
    | 0, _ => simp; rfl
    | 1, _ => simp; rfl
    | i + 2, h2 => omega
/-- A sign of one byte that stands at a place, and nothing else, is told as that sign. -/
theorem tk_byte (s : ByteArray) (k : Nat) (c : UInt8) (hc : c = 40 ∨ c = 41 ∨ c = 44 ∨ c = 45) (hk : k ≤ s.size) :
    (((tkR s k).kind = 4 ∧ ((tkR s k).t.toList == [c]) = true) ↔ nx s (skip s k) = c.toNat) ∧ (nx s (skip s k) = c.toNat → (tkR s k).e = skip s k + 1) := by
  have hk1 := (skip_spec s k).2.2 hk
  have hcn : isW c.toNat = false ∧ c.toNat ≠ 34 ∧ c.toNat ≠ 35 ∧ c.toNat ≠ 60 ∧ c.toNat ≠ 62 ∧ c.toNat ≠ 0 := by
    rcases hc with rfl | rfl | rfl | rfl <;> decide
  obtain ⟨n1, n2, n3, n4, n5, n6⟩ := hcn
  unfold tkR
  by_cases h0 : skip s k = s.size
  · rw [if_pos h0]
    have hz := nx_out (s := s) (k := skip s k) (by omega)
    exact ⟨⟨fun h => by simp at h, fun h => by omega⟩, fun h => by omega⟩
  rw [if_neg h0]
  have hlt : skip s k < s.size := by omega
  by_cases h1 : isW (nx s (skip s k)) = true
  · rw [if_pos h1]
    have hz : nx s (skip s k) ≠ c.toNat := fun e => by rw [e, n1] at h1; cases h1
    exact ⟨⟨fun h => by simp at h, fun h => absurd h hz⟩, fun h => absurd h hz⟩
  rw [if_neg h1]
  by_cases h2 : nx s (skip s k) = 34
  · rw [if_pos h2]
    refine ⟨⟨fun h => ?_, fun h => by omega⟩, fun h => by omega⟩
    cases hq : quote s (skip s k + 1) [] <;> (rw [hq] at h; simp at h)
  rw [if_neg h2]
  by_cases h3 : nx s (skip s k) = 35
  · rw [if_pos h3]
    refine ⟨⟨fun h => ?_, fun h => by omega⟩, fun h => by omega⟩
    cases hq : badAt s (skip s k) <;> (rw [hq] at h; simp at h)
  rw [if_neg h3]
  by_cases h4 : two2 s (skip s k) = true
  · rw [if_pos h4]
    unfold two2 at h4
    simp at h4
    have hl2 := nx_lt (s := s) (k := skip s k + 1) (by omega)
    refine ⟨⟨fun h => ?_, fun h => by omega⟩, fun h => by omega⟩
    have h5 := h.2
    simp only at h5
    rw [exT2 hl2] at h5
    simp at h5
  · rw [if_neg h4]
    refine ⟨?_, fun _ => rfl⟩
    simp only
    rw [exT1 hlt, nx_in hlt]
    simp
    exact ⟨fun h => by rw [h], fun h => UInt8.toNat_inj.1 h⟩
theorem tk_zero (s : ByteArray) (k : Nat) (hk : k ≤ s.size) : (tkR s k).kind = 0 ↔ ¬ skip s k < s.size := by
  have hk1 := (skip_spec s k).2.2 hk
  unfold tkR
  by_cases h0 : skip s k = s.size
  · rw [if_pos h0]; simp; omega
  rw [if_neg h0]
  have hlt : skip s k < s.size := by omega
  refine ⟨fun h => ?_, fun h => absurd hlt h⟩
  exfalso
  by_cases h1 : isW (nx s (skip s k)) = true
  · rw [if_pos h1] at h; simp at h
  rw [if_neg h1] at h
  by_cases h2 : nx s (skip s k) = 34
  · rw [if_pos h2] at h
    cases hq : quote s (skip s k + 1) [] <;> (rw [hq] at h; simp at h)
  rw [if_neg h2] at h
  by_cases h3 : nx s (skip s k) = 35
  · rw [if_pos h3] at h
    cases hq : badAt s (skip s k) <;> (rw [hq] at h; simp at h)
  rw [if_neg h3] at h
  split at h <;> simp at h
theorem sgn_list {t u : ByteArray} (h : t.toList = u.toList) : sgnOf t = sgnOf u := by
  unfold sgnOf
  simp only [sgFrom, h]
/-- A byte that begins no operator. -/
theorem sgn_one (t : ByteArray) (c : UInt8) (h : t.toList = [c]) :
    sgnOf t = if c.toNat = 61 then 1 else if c.toNat = 60 then 3 else if c.toNat = 62 then 5 else if c.toNat = 38 then 7 else if c.toNat = 43 then 8 else if c.toNat = 45 then 9 else if c.toNat = 42 then 10 else if c.toNat = 47 then 11 else 0 := by
  rw [sgn_list (u := ⟨#[c]⟩) (by rw [h, ByteArray.toList_eq])]
  have : ∀ n : Fin 256, sgnOf ⟨#[UInt8.ofNat n.val]⟩ = if n.val = 61 then 1 else if n.val = 60 then 3 else if n.val = 62 then 5 else if n.val = 38 then 7 else if n.val = 43 then 8 else if n.val = 45 then 9 else if n.val = 42 then 10 else if n.val = 47 then 11 else 0 := by decide +kernel
  have h1 := this ⟨c.toNat, UInt8.toNat_lt c⟩
  simp only [UInt8.ofNat_toNat] at h1
  exact h1
theorem tk_sign (s : ByteArray) (k : Nat) (hk : k ≤ s.size) :
    ((tkR s k).kind = 4 → sgnOf (tkR s k).t = (opAt s (skip s k)).1 ∧ ((opAt s (skip s k)).1 ≠ 0 → (tkR s k).e = skip s k + (opAt s (skip s k)).2)) ∧ ((tkR s k).kind ≠ 4 → (opAt s (skip s k)).1 = 0) := by
  have hk1 := (skip_spec s k).2.2 hk
  have hno : ∀ c, nx s (skip s k) = c → c ≠ 61 → c ≠ 60 → c ≠ 62 → c ≠ 38 → c ≠ 43 → c ≠ 45 → c ≠ 42 → c ≠ 47 → (opAt s (skip s k)).1 = 0 := by
    intro c h a1 a2 a3 a4 a5 a6 a7 a8
    subst h
    unfold opAt
    rw [if_neg a1, if_neg a2, if_neg a3, if_neg a4, if_neg a5, if_neg a6, if_neg a7, if_neg a8]
  unfold tkR
  by_cases h0 : skip s k = s.size
  · rw [if_pos h0]
    have hz := nx_out (s := s) (k := skip s k) (by omega)
    exact ⟨fun h => by simp at h, fun _ => hno 0 hz (by omega) (by omega) (by omega) (by omega) (by omega) (by omega) (by omega) (by omega)⟩
  rw [if_neg h0]
  have hlt : skip s k < s.size := by omega
  by_cases h1 : isW (nx s (skip s k)) = true
  · rw [if_pos h1]
    refine ⟨fun h => by simp at h, fun _ => ?_⟩
    generalize hc : nx s (skip s k) = c at h1
    apply hno c hc <;> (rintro rfl; revert h1; decide)
  rw [if_neg h1]
  by_cases h2 : nx s (skip s k) = 34
  · rw [if_pos h2]
    refine ⟨fun h => ?_, fun _ => hno 34 h2 (by omega) (by omega) (by omega) (by omega) (by omega) (by omega) (by omega) (by omega)⟩
    cases hq : quote s (skip s k + 1) [] <;> (rw [hq] at h; simp at h)
  rw [if_neg h2]
  by_cases h3 : nx s (skip s k) = 35
  · rw [if_pos h3]
    refine ⟨fun h => ?_, fun _ => hno 35 h3 (by omega) (by omega) (by omega) (by omega) (by omega) (by omega) (by omega) (by omega)⟩
    cases hq : badAt s (skip s k) <;> (rw [hq] at h; simp at h)
  rw [if_neg h3]
  by_cases h4 : two2 s (skip s k) = true
  · rw [if_pos h4]
    unfold two2 at h4
    simp at h4
    have hl2 := nx_lt (s := s) (k := skip s k + 1) (by omega)
    refine ⟨fun _ => ?_, fun h => absurd rfl h⟩
    simp only
    have e1 := nx_in hlt
    have e2 := nx_in hl2
    have hsz : ∀ a b : UInt8, s[skip s k].toNat = a.toNat → s[skip s k + 1].toNat = b.toNat → sgnOf (s.extract (skip s k) (skip s k + 2)) = sgnOf ⟨#[a, b]⟩ := fun a b ha hb => by
      apply sgn_list
      rw [exT2 hl2, UInt8.toNat_inj.1 ha, UInt8.toNat_inj.1 hb, ByteArray.toList_eq]
    rcases h4 with (⟨a, b⟩ | ⟨a, b⟩) | ⟨a, b⟩
    · rw [hsz 60 62 (by rw [← e1, a]; rfl) (by rw [← e2, b]; rfl)]
      unfold opAt
      rw [if_neg (by omega), if_pos a, if_pos b]
      exact ⟨by decide +kernel, fun _ => rfl⟩
    · rw [hsz 60 61 (by rw [← e1, a]; rfl) (by rw [← e2, b]; rfl)]
      unfold opAt
      rw [if_neg (by omega), if_pos a, if_neg (by omega), if_pos b]
      exact ⟨by decide +kernel, fun _ => rfl⟩
    · rw [hsz 62 61 (by rw [← e1, a]; rfl) (by rw [← e2, b]; rfl)]
      unfold opAt
      rw [if_neg (by omega), if_neg (by omega), if_pos a, if_pos b]
      exact ⟨by decide +kernel, fun _ => rfl⟩
  · rw [if_neg h4]
    unfold two2 at h4
    simp at h4
    refine ⟨fun _ => ?_, fun h => absurd rfl h⟩
    simp only
    rw [sgn_one _ _ (exT1 hlt), ← nx_in hlt]
    unfold opAt
    repeat' split
    all_goals first | omega | (refine ⟨rfl, fun h => ?_⟩; first | rfl | exact absurd rfl h)
/-- What stands where no sign, quote or bad value stands: a word, or nothing that is one. -/
theorem tk_word (s : ByteArray) (k : Nat) (hk : k ≤ s.size) (h1 : isW (nx s (skip s k)) = true) :
    tkR s k = ⟨1, skip s k, tokEnd s (skip s k), tok s (skip s k)⟩ := by
  have hk1 := (skip_spec s k).2.2 hk
  have hlt := nx_lt (s := s) (k := skip s k) (isW_pos h1)
  unfold tkR
  rw [if_neg (by omega), if_pos h1]
theorem tk_kind1 (s : ByteArray) (k : Nat) (h1 : (tkR s k).kind = 1) : isW (nx s (skip s k)) = true := by
  unfold tkR at h1
  by_cases h0 : skip s k = s.size
  · rw [if_pos h0] at h1; simp at h1
  rw [if_neg h0] at h1
  by_cases h2 : isW (nx s (skip s k)) = true
  · exact h2
  rw [if_neg h2] at h1
  by_cases h3 : nx s (skip s k) = 34
  · rw [if_pos h3] at h1
    cases hq : quote s (skip s k + 1) [] <;> (rw [hq] at h1; simp at h1)
  rw [if_neg h3] at h1
  by_cases h4 : nx s (skip s k) = 35
  · rw [if_pos h4] at h1
    cases hq : badAt s (skip s k) <;> (rw [hq] at h1; simp at h1)
  rw [if_neg h4] at h1
  split at h1 <;> simp at h1
theorem tok_none {s : ByteArray} {k : Nat} (h : isW (nx s k) = false) : tok s k = ⟨#[]⟩ := tok_empty s (tok_out h)
/-- How a call of the reference's reader ends: its place may stand ahead of blanks that are passed; a fault is noted. -/
def OutR (w : World) (pb : Nat) (s : ByteArray) (d : Nat) (wr : Int) (r : Rs T) (e : Ending) (w' : World) : Prop :=
  match r with
  | .ok t k => ∃ v j, e = .returned v ∧ Nd w' (Own w w') v t ∧ PD w' pb s j wr 0 d ∧ j ≤ s.size ∧ skip s j = skip s k ∧ Kp (· = pb) w w'
  | .err k c => ∃ v t j, e = .returned v ∧ Nd w' (Own w w') v t ∧ PD w' pb s j (k : Nat) c d ∧ j ≤ s.size ∧ c ≠ 0 ∧ Kp (· = pb) w w'
theorem OutR.mono {w0 w : World} {pb : Nat} {s : ByteArray} {d : Nat} {wr : Int} {r : Rs T} {e : Ending} {w' : World} (h : OutR w pb s d wr r e w') (hk : Kp (· = pb) w0 w) : OutR w0 pb s d wr r e w' := by
  cases r with
  | ok t k =>
    obtain ⟨v, j, h1, h2, h3, h4, h5, h6⟩ := h
    exact ⟨v, j, h1, h2.mono (fun _ _ => rfl) (fun b hb => ⟨Nat.le_trans hk.size hb.1, hb.2⟩), h3, h4, h5, hk.trans h6 (fun n e => .inl e)⟩
  | err k c =>
    obtain ⟨v, t, j, h1, h2, h3, h4, h5, h6⟩ := h
    exact ⟨v, t, j, h1, h2.mono (fun _ _ => rfl) (fun b hb => ⟨Nat.le_trans hk.size hb.1, hb.2⟩), h3, h4, h5, hk.trans h6 (fun n e => .inl e)⟩
section
variable (L : Lex) (s : ByteArray)
theorem Rest_skip {l d : Nat} {t : T} {a b : Nat} (h1 : 1 ≤ l) (ha : a ≤ s.size) (hb : b ≤ s.size) (h : skip s a = skip s b) : Rest L s l d t a = Rest L s l d t b := by
  rw [Rest_eq L s l d t a h1 ha, Rest_eq L s l d t b h1 hb, h]
theorem Chain_skip (n : Nat) : ∀ {l d : Nat} {t : T} {a b : Nat}, 5 - l = n → 1 ≤ l → l ≤ 4 → a ≤ s.size → b ≤ s.size → skip s a = skip s b → Chain L s l d t a = Chain L s l d t b := by
  induction n with
  | zero => intro l d t a b hn h1 h4; omega
  | succ n ih =>
    intro l d t a b hn h1 h4 ha hb h
    rw [Chain_eq L s l d t a h4, Chain_eq L s l d t b h4]
    by_cases hl : l = 4
    · subst hl
      rw [Chain_top L s 5 d t a (by omega), Chain_top L s 5 d t b (by omega)]
      exact Rest_skip L s h1 ha hb h
    · rw [ih (by omega) (by omega) (by omega) ha hb h]
/-- Places with the same behind their blanks serve alike. -/
theorem OutR.chain {w : World} {pb d : Nat} {wr : Int} {e : Ending} {w' : World} {l : Nat} {t : T} {a b : Nat} (h1 : 1 ≤ l) (ha : a ≤ s.size) (hb : b ≤ s.size) (h : skip s a = skip s b) (ho : OutR w pb s d wr (Chain L s l d t a) e w') : OutR w pb s d wr (Chain L s l d t b) e w' := by
  by_cases h4 : l ≤ 4
  · rw [← Chain_skip L s _ rfl h1 h4 ha hb h]; exact ho
  · rw [Chain_top L s l d t a (by omega)] at ho
    rw [Chain_top L s l d t b (by omega)]
    obtain ⟨v, j, q1, q2, q3, q4, q5, q6⟩ := ho
    exact ⟨v, j, q1, q2, q3, q4, q5.trans h, q6⟩
end
end Go.Proofs.YtomgjjngkffbbaaGreatDoor.fm

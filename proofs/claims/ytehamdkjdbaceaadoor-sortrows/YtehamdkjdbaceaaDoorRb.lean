
/- The document's columns; rows that are alike; rows that are like none ahead; two lists of numbers. Conditions: as each theorem says. -/
import Derived.Test.YtehamdkjdbaceaaDoorRa
import Derived.Laws.StructEq
namespace Go.Proofs.YtehamdkjdbaceaaDoor.so
open Go.RowKit Go.Sort Go.Shelf
def RB (T : Tb) (x : Int) (e : Ending) : Prop := ∃ b : Bool, e = .returned (.bool b) ∧ (b = true ↔ colOk T x)
def CB (T : Tb) (x : Int) (b : Bool) : Prop := (b = true ↔ colOk T x)
set_option maxRecDepth 100000 in
set_option maxHeartbeats 1000000 in
theorem rcolumn_any (T : Tb) (p : Option Addr) (c : Nat) (x : Int) (w : World) (hT : TM w p T) (hq : T.q ≤ 60) (hL : ∀ i, i < T.q → T.L i ≤ 12) :
    Calls Tryd.prog 19 #[.slice p T.q c, .int .i64 x] w fun e w' => RB T x e ∧ w' = w := by
  obtain ⟨W, hW⟩ : ∃ W : Nat, wid T = W := ⟨_, rfl⟩
  have HP : Hid (∀ b : Bool, (b = true ↔ (0 ≤ x ∧ x < (W : Int))) → (b = true ↔ colOk T x)) := by
    intro b h; unfold colOk; rw [hW]; exact h
  obtain ⟨q, P, L, C, v⟩ := T
  simp only at hq hL ⊢
  by_cases h0 : q = 0
  · subst h0
    have e : (12 : Int) = W := by rw [← hW]; rfl
    have HE : Hid ((12 : Int) = W) := e
    clear hT hL hW e
    by_cases h1 : 0 ≤ x
    · have h1' : x ≥ 0 := h1
      go_enter Tryd.func19, Tryd.ntmps19
      go_wp2_with fail
      go_ret
      exact ⟨⟨decide (x < 12), by simp, HP.out _ (by rw [← HE.out]; simp; intro _; exact h1)⟩, rfl⟩
    · have h1' : ¬ x ≥ 0 := h1
      go_enter Tryd.func19, Tryd.ntmps19
      go_wp2_with fail
      go_ret
      exact ⟨⟨false, rfl, HP.out _ (by simp; omega)⟩, rfl⟩
  · have e : L 0 = W := by rw [← hW]; unfold wid; rw [if_neg h0]
    rcases hT with h | ⟨g, o, rfl, hg, h3⟩
    · exact absurd h h0
    obtain ⟨y0, -⟩ := h3 0 (by show 0 < q; omega)
    have hl := hL 0 (by omega)
    have hq1 : (0 : Int) < (q : Int) := by omega
    simp only [Nat.add_zero] at y0
    rw [e] at y0 hl
    clear h3 hg hL h0 hW e
    by_cases h1 : 0 ≤ x
    · have h1' : x ≥ 0 := h1
      go_enter Tryd.func19, Tryd.ntmps19
      go_wp2_with fail
      go_ret
      exact ⟨⟨decide (x < (W : Int)), by simp, HP.out _ (by simp; intro _; exact h1)⟩, rfl⟩
    · have h1' : ¬ x ≥ 0 := h1
      go_enter Tryd.func19, Tryd.ntmps19
      go_wp2_with fail
      go_ret
      exact ⟨⟨false, rfl, HP.out _ (by simp; omega)⟩, rfl⟩
set_option maxRecDepth 100000 in
set_option maxHeartbeats 4000000 in
theorem rcolumns_any (T : Tb) (p : Option Addr) (c : Nat) (p2 : Option Addr) (n c2 : Nat) (d : Nat → Int) (w : World) (hT : TM w p T) (hI : IM w p2 n d) (hq : T.q ≤ 9223372036854775807) (hn : n ≤ 9223372036854775807) (hL : ∀ i, i < T.q → T.L i ≤ 9223372036854775807) :
    Calls Tryd.prog 8 #[.slice p T.q c, .slice p2 n c2] w fun e w' => (∃ x, e = .returned (.int .i64 x) ∧ CF T n d x) ∧ Bw w w' := by
  have HC : Hid (∀ wx, TM wx p T → Calls Tryd.prog 5 #[.slice p T.q c] wx fun e w' => (∃ x, e = .returned (.int .i64 x) ∧ TF T x) ∧ Bw wx w') := fun wx h => rtable_any T p c wx h hq hL
  have HWD : Hid (Snd T → ∀ x wx, TM wx p T → Calls Tryd.prog 19 #[.slice p T.q c, .int .i64 x] wx fun e w' => RB T x e ∧ w' = wx) := fun hs x wx h => rcolumn_any T p c x wx h hs.few hs.thin
  have HT : Hid (TM w p T) := hT
  have HI : Hid (IM w p2 n d) := hI
  clear hT hI hL
  obtain ⟨q, eq⟩ : ∃ q, T.q = q := ⟨_, rfl⟩
  rw [eq] at HC HWD hq ⊢
  clear eq
  go_enter Tryd.func8, Tryd.ntmps8
  have HW := HC.out w HT.out
  go_wp2_with fail
  refine HW.mono ?_
  clear HC HW
  rintro e w1 ⟨⟨x, rfl, hx⟩, hb⟩
  have HX : Hid (TF T x) := hx
  have HB : Hid (Bw w w1) := hb
  clear hx hb
  by_cases hx0 : x = 0
  · subst hx0
    by_cases h12 : 12 < (n : Int)
    · go_wp2_with fail
      go_ret
      exact ⟨⟨4, rfl, .inr ⟨HX.out, .inl ⟨rfl, by omega⟩⟩⟩, HB.out⟩
    have hn12 : n ≤ 12 := by omega
    have HWX := fun x => HWD.out HX.out.zero x w1 (HT.out.next HB.out)
    go_wp2_with fail
    go_loopw [6] (fun i wr => ∃ j : Nat, i = .int .i64 j ∧ j ≤ n ∧ w1 = wr ∧ Hid (∀ i, i < j → colOk T (d i))) (fun i _ => n - (intOf i).toNat)
    case atStart => exact ⟨0, rfl, Nat.zero_le _, rfl, fun i hi => absurd hi (Nat.not_lt_zero _)⟩
    case round =>
      obtain ⟨j, rfl, hj, rfl, HD⟩ := hrel
      by_cases hlt : j < n
      · have hlt' : (j : Int) < (n : Int) := by omega
        have hj0 : (0 : Int) ≤ (j : Int) := by omega
        rcases HI.out.next HB.out with h | ⟨g, o, rfl, hg, h3⟩
        · omega
        have y0 := h3 j hlt
        clear h3 hg
        obtain ⟨x, hx⟩ : ∃ x, d j = x := ⟨_, rfl⟩
        have HXJ : Hid (d j = x) := hx
        rw [hx] at y0
        clear hx
        go_wp2_with fail
        refine (HWX _).mono ?_
        rintro e w2 ⟨⟨b, rfl, hb⟩, rfl⟩
        have HBD : Hid (CB T (d j) b) := by rw [HXJ.out]; exact hb
        clear hb
        cases b with
        | true =>
          go_wp2_with fail
          exact ⟨⟨j + 1, by simp, hlt, trivial, fun i hi => by
            by_cases e : i = j
            · subst e; exact (show true = true ↔ _ from HBD.out).1 rfl
            · exact HD.out i (by omega)⟩, by simp [intOf]; omega⟩
        | false =>
          go_wp2_with fail
          go_ret
          exact ⟨⟨1, rfl, .inr ⟨HX.out, .inr (.inl ⟨rfl, hn12, j, hlt, fun h => by have := (show false = true ↔ _ from HBD.out).2 h; cases this⟩)⟩⟩, HB.out⟩
      · have hj2 : ¬ (j : Int) < (n : Int) := by omega
        go_wp2_with fail
        go_ret
        exact ⟨⟨0, rfl, .inr ⟨HX.out, .inr (.inr ⟨rfl, hn12, fun i hi => HD.out i (by omega)⟩)⟩⟩, HB.out⟩
  · go_wp2_with fail
    go_ret
    exact ⟨⟨x, rfl, .inl ⟨hx0, HX.out⟩⟩, HB.out⟩
theorem eqInV (k n : Int) (s : ByteArray) (k' n' : Int) (s' : ByteArray) (W : World) : (Op.equalIn 10000 45 (V k n s) (V k' n' s')).run Tryd.prog W = .ok (k == k' && n == n' && s.toList == s'.toList) W := by
  have hS : Tryd.prog.underlying 45 = some (.struct (Tryd.prog.fieldsOf 45)) := by kernel_rfl
  have hp : Tryd.prog.stoodInHeld 45 = false := by kernel_rfl
  rw [run_equalIn_struct W 9999 45 _ _ hS hp]
  simp only [Program.fieldsOf, Tryd.underlying45]
  by_cases h1 : k = k' <;> by_cases h2 : n = n' <;> by_cases h3 : s.toList = s'.toList <;> simp [Op.eqFields, go_sem, h1, h2, h3]
theorem neqV (k n : Int) (s : ByteArray) (k' n' : Int) (s' : ByteArray) (W : World) : (binOp BinOp.neq 45 (V k n s) (V k' n' s')).run Tryd.prog W = .ok (.bool (!(k == k' && n == n' && s.toList == s'.toList))) W := by
  rw [run_neq_struct, eqInV]; rfl
theorem bytes_ext {s t : ByteArray} : s.toList = t.toList ↔ s = t := by
  constructor
  · intro h
    rw [ByteArray.toList_eq, ByteArray.toList_eq] at h
    obtain ⟨⟨a⟩⟩ := s
    obtain ⟨⟨b⟩⟩ := t
    simp at h
    rw [h]
  · intro h; rw [h]
theorem tM : Tryd.prog.eqGuardType Tryd.prog.depth 45 = false := by kernel_rfl
set_option maxRecDepth 100000 in
set_option maxHeartbeats 4000000 in
theorem ralike_any (p1 : Option Addr) (l1 c1 : Nat) (a : Nat → Vl) (p2 : Option Addr) (l2 c2 : Nat) (b : Nat → Vl) (p3 : Option Addr) (n c3 : Nat) (c : Nat → Int) (w : World) (h1 : VM w p1 l1 a) (h2 : VM w p2 l2 b) (h3 : IM w p3 n c) (hn : n ≤ 12) (hc : ∀ i, i < n → 0 ≤ c i ∧ c i < (l1 : Int) ∧ c i < (l2 : Int)) (ha : ∀ i, i < l1 → (a i).ok = true) (hb : ∀ i, i < l2 → (b i).ok = true) :
    Calls Tryd.prog 27 #[.slice p1 l1 c1, .slice p2 l2 c2, .slice p3 n c3] w fun e w' => e = .returned (.bool (alk a b n c)) ∧ Gr w w' := by
  have H1 : Hid (VM w p1 l1 a) := h1
  have H2 : Hid (VM w p2 l2 b) := h2
  have H3 : Hid (IM w p3 n c) := h3
  have HC : Hid (∀ i, i < n → 0 ≤ c i ∧ c i < (l1 : Int) ∧ c i < (l2 : Int)) := hc
  have HOA : Hid (∀ i, i < l1 → (a i).ok = true) := ha
  have HOB : Hid (∀ i, i < l2 → (b i).ok = true) := hb
  clear h1 h2 h3 hc ha hb
  obtain ⟨A, hA⟩ : ∃ A, alk a b n c = A := ⟨_, rfl⟩
  have HA : Hid (alk a b n c = A) := hA
  rw [hA]
  clear hA
  have mixed := mixed
  have tM := tM
  go_enter Tryd.func27, Tryd.ntmps27
  go_wp2_with fail
  go_loopw [7] (fun i wr => ∃ j : Nat, i = .int .i64 j ∧ j ≤ n ∧ Hid (Gr w wr) ∧ Hid (∀ i, i < j → (a (c i).toNat).cmp (b (c i).toNat) = 0)) (fun i _ => n - (intOf i).toNat)
  case atStart => exact ⟨0, rfl, Nat.zero_le _, Gr.refl _, fun i hi => absurd hi (Nat.not_lt_zero _)⟩
  case round =>
    obtain ⟨j, rfl, hj, HB, HD⟩ := hrel
    by_cases hlt : j < n
    · have hlt' : (j : Int) < (n : Int) := by omega
      have hj0 : (0 : Int) ≤ (j : Int) := by omega
      obtain ⟨hx0, hx1, hx2⟩ := HC.out j hlt
      rcases H3.out.next HB.out.below with h | ⟨g3, o3, rfl, hg3, h3⟩
      · omega
      have y0 := h3 j hlt
      clear h3 hg3
      obtain ⟨t, ht⟩ : ∃ t : Nat, c j = (t : Int) := ⟨(c j).toNat, by omega⟩
      have HX : Hid ((c j).toNat = t) := by show (c j).toNat = t; omega
      rw [ht] at y0 hx0 hx1 hx2
      rcases H1.out.next HB.out.below with h | ⟨g1, o1, rfl, hg1, h1⟩
      · omega
      rcases H2.out.next HB.out.below with h | ⟨g2, o2, rfl, hg2, h2⟩
      · omega
      obtain ⟨z1, z2, z3⟩ := h1 t (by omega)
      obtain ⟨x1, x2, x3⟩ := h2 t (by omega)
      have hzero := Vl.cmp_zero (HOA.out t (by omega)) (HOB.out t (by omega))
      have HQ : Hid ((a (c j).toNat).cmp (b (c j).toNat) = 0 ↔ a t = b t) := by show _ ↔ _; rw [HX.out]; exact hzero
      generalize a t = va at *
      generalize b t = vb at *
      obtain ⟨k1, n1, s1⟩ := va
      obtain ⟨k2, n2, s2⟩ := vb
      dsimp only at z1 z2 z3 x1 x2 x3
      have y0q : ∀ m, (wr.drewN m).cell? ⟨g3, o3 + j, none⟩ = some (.int .i64 (t : Int)) := fun m => y0
      have z1q : ∀ m, (wr.drewN m).cell? ⟨g1, o1 + t * 3, none⟩ = some (.int .i64 k1) := fun m => z1
      have z2q : ∀ m, (wr.drewN m).cell? ⟨g1, o1 + t * 3 + 1, none⟩ = some (.int .i64 n1) := fun m => z2
      have z3q : ∀ m, (wr.drewN m).cell? ⟨g1, o1 + t * 3 + 2, none⟩ = some (.string s1) := fun m => z3
      have x1q : ∀ m, (wr.drewN m).cell? ⟨g2, o2 + t * 3, none⟩ = some (.int .i64 k2) := fun m => x1
      have x2q : ∀ m, (wr.drewN m).cell? ⟨g2, o2 + t * 3 + 1, none⟩ = some (.int .i64 n2) := fun m => x2
      have x3q : ∀ m, (wr.drewN m).cell? ⟨g2, o2 + t * 3 + 2, none⟩ = some (.string s2) := fun m => x3
      obtain ⟨B, hB⟩ : ∃ B, (!(k1 == k2 && n1 == n2 && s1.toList == s2.toList)) = B := ⟨_, rfl⟩
      have hne : ∀ W, (binOp BinOp.neq 45 (V k1 n1 s1) (V k2 n2 s2)).run Tryd.prog W = .ok (.bool B) W := fun W => by rw [neqV, hB]
      have HBV : Hid (B = false ↔ (a (c j).toNat).cmp (b (c j).toNat) = 0) := by
        show _ ↔ _
        rw [HQ.out, ← hB]
        simp [bytes_ext, and_assoc]
      clear hB
      clear h1 h2 hg1 hg2 ht hzero z1 z2 z3 x1 x2 x3 y0
      go_wp2_with fail
      go_quiet (fail)
      have HB2 : Hid (Gr w (wr.drewN nq)) := HB.out.trans ⟨nq, #[], by rw [grow_empty]⟩
      clear z1q z2q z3q x1q x2q x3q y0q HB hne
      generalize wr.drewN nq = w2 at *
      cases B with
      | false =>
        go_wp2_with fail
        exact ⟨⟨j + 1, by simp, hlt, HB2, fun i hi => by
          by_cases e : i = j
          · subst e; exact HBV.out.1 rfl
          · exact HD.out i (by omega)⟩, by simp [intOf]; omega⟩
      | true =>
        have HF : Hid (A = false) := by show A = false; rw [← HA.out]; exact alk_false hlt (fun h => by have := HBV.out.2 h; cases this)
        go_wp2_with fail
        go_ret
        exact ⟨by rw [HF.out]; rfl, HB2.out⟩
    · have hj2 : ¬ (j : Int) < (n : Int) := by omega
      go_wp2_with fail
      go_ret
      exact ⟨by rw [← HA.out, alk_true.2 (fun i hi => HD.out i (by omega))]; rfl, HB.out⟩
end Go.Proofs.YtehamdkjdbaceaaDoor.so

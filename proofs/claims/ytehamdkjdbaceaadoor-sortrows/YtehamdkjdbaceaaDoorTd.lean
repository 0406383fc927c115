
/- Go's own stable sort: one that is put into a row in its place. Conditions: as each theorem says. -/
import Derived.Test.YtehamdkjdbaceaaDoorTc
import Derived.Shelf.SlSortCmp.KitK
import Derived.Deep.CutBlock
namespace Go.Proofs.YtehamdkjdbaceaaDoor.so
open Go.RowKit Go.Sort
variable {α : Type} [Inhabited α] {P : Program}
theorem at_list (E F : List α) (x : α) : (E ++ x :: F).toArray[E.length]! = x := by simp
theorem at_get {l : List α} {i : Nat} {x : α} (h : l[i]? = some x) : l.toArray[i]! = x := by
  obtain ⟨h1, h2⟩ := List.getElem?_eq_some_iff.1 h
  rw [getElem!_pos l.toArray i (by simpa using h1)]
  simpa using h2
theorem at_piece {E Y S : List α} {i : Nat} {y : α} (h : Y[i]? = some y) : (E ++ Y ++ S).toArray[E.length + i]! = y := by
  have hi := (List.getElem?_eq_some_iff.1 h).1
  refine at_get ?_
  rw [List.append_assoc, List.getElem?_append_right (by omega), Nat.add_sub_cancel_left, List.getElem?_append_left hi]
  exact h
/-- Pieces that stand in order, each. -/
structure Mg (lt : α → α → Bool) (T : α → α → Prop) (X Y : List α) : Prop where
  x : X.Pairwise T
  y : Y.Pairwise T
  no : ∀ a ∈ X, ∀ b ∈ Y, lt b a = false → T a b
  yes : ∀ a ∈ X, ∀ b ∈ Y, lt b a = true → T b a
/-- What a merge leaves. -/
def MgO (T : α → α → Prop) (X Y Z : List α) : Prop := Z.Perm (X ++ Y) ∧ Z.Pairwise T
omit [Inhabited α] in
theorem pw_join {T : α → α → Prop} (tr : ∀ a b c, T a b → T b c → T a c) {A B : List α} (hA : A.Pairwise T) (hB : B.Pairwise T) (h : ∀ a b, A.getLast? = some a → B.head? = some b → T a b) : (A ++ B).Pairwise T := by
  refine List.pairwise_append.2 ⟨hA, hB, fun a ha b hb => ?_⟩
  have hAn : A ≠ [] := fun e => by rw [e] at ha; cases ha
  have hBn : B ≠ [] := fun e => by rw [e] at hb; cases hb
  obtain ⟨A', l, rfl⟩ : ∃ A' l, A = A' ++ [l] := ⟨A.dropLast, A.getLast hAn, (List.dropLast_concat_getLast hAn).symm⟩
  obtain ⟨f, B', rfl⟩ : ∃ f B', B = f :: B' := List.exists_cons_of_ne_nil hBn
  have h1 : T l f := h l f (by simp) rfl
  have h2 : a = l ∨ T a l := by
    rcases List.mem_append.1 ha with ha | ha
    · exact .inr ((List.pairwise_append.1 hA).2.2 a ha l (by simp))
    · exact .inl (by simpa using ha)
  have h3 : b = f ∨ T f b := by
    rcases List.mem_cons.1 hb with rfl | hb
    · exact .inl rfl
    · exact .inr ((List.pairwise_cons.1 hB).1 b hb)
  rcases h2 with rfl | h2
  · rcases h3 with rfl | h3
    · exact h1
    · exact tr _ _ _ h1 h3
  · rcases h3 with rfl | h3
    · exact tr _ _ _ h2 h1
    · exact tr _ _ _ h2 (tr _ _ _ h1 h3)
omit [Inhabited α] in
theorem mg_one {lt : α → α → Bool} {T : α → α → Prop} (tr : ∀ a b c, T a b → T b c → T a c) {x : α} {Y : List α} (M : Mg lt T [x] Y) {t : Nat} (ht : t ≤ Y.length) (h1 : t = 0 ∨ ∃ y, Y[t - 1]? = some y ∧ lt y x = true) (h2 : t = Y.length ∨ ∃ y, Y[t]? = some y ∧ lt y x = false) : MgO T [x] Y (Y.take t ++ [x] ++ Y.drop t) := by
  constructor
  · have : (Y.take t ++ [x] ++ Y.drop t).Perm ([x] ++ (Y.take t ++ Y.drop t)) := by
      rw [← List.append_assoc]
      exact List.Perm.append_right _ List.perm_append_comm
    rwa [List.take_append_drop] at this
  · have hY : (Y.take t ++ Y.drop t).Pairwise T := by rw [List.take_append_drop]; exact M.y
    have hY' := List.pairwise_append.1 hY
    refine pw_join tr (pw_join tr hY'.1 (by simp) (fun a b ha hb => ?_)) hY'.2.1 (fun a b ha hb => ?_)
    · have eb : b = x := by simpa using hb.symm
      subst eb
      rcases h1 with h1 | ⟨y, hy, hyx⟩
      · subst h1; simp at ha
      · have e : a = y := by
          rw [List.getLast?_eq_getElem?, List.length_take, Nat.min_eq_left ht, List.getElem?_take] at ha
          by_cases h0 : t = 0
          · subst h0; simp at ha
          · rw [if_pos (by omega), hy] at ha
            injection ha with ha
            exact ha.symm
        subst e
        exact M.yes b (by simp) a (List.mem_of_getElem? hy) hyx
    · have ea : a = x := by simpa using ha.symm
      subst ea
      rcases h2 with h2 | ⟨y, hy, hyx⟩
      · subst h2; simp at hb
      · have e : b = y := by
          rw [List.head?_drop, hy] at hb
          injection hb with hb
          exact hb.symm
        subst e
        exact M.no a (by simp) b (List.mem_of_getElem? hy) hyx
omit [Inhabited α] in
theorem mg_last {lt : α → α → Bool} {T : α → α → Prop} (tr : ∀ a b c, T a b → T b c → T a c) {y : α} {X : List α} (M : Mg lt T X [y]) {t : Nat} (ht : t ≤ X.length) (h1 : t = 0 ∨ ∃ x, X[t - 1]? = some x ∧ lt y x = false) (h2 : t = X.length ∨ ∃ x, X[t]? = some x ∧ lt y x = true) : MgO T X [y] (X.take t ++ [y] ++ X.drop t) := by
  constructor
  · have : (X.take t ++ [y] ++ X.drop t).Perm (X.take t ++ X.drop t ++ [y]) := by
      rw [List.append_assoc, List.append_assoc]
      exact List.Perm.append_left _ List.perm_append_comm
    rwa [List.take_append_drop] at this
  · have hY : (X.take t ++ X.drop t).Pairwise T := by rw [List.take_append_drop]; exact M.x
    have hY' := List.pairwise_append.1 hY
    refine pw_join tr (pw_join tr hY'.1 (by simp) (fun a b ha hb => ?_)) hY'.2.1 (fun a b ha hb => ?_)
    · have eb : b = y := by simpa using hb.symm
      subst eb
      rcases h1 with h1 | ⟨x, hx, hyx⟩
      · subst h1; simp at ha
      · have e : a = x := by
          rw [List.getLast?_eq_getElem?, List.length_take, Nat.min_eq_left ht, List.getElem?_take] at ha
          by_cases h0 : t = 0
          · subst h0; simp at ha
          · rw [if_pos (by omega), hx] at ha
            injection ha with ha
            exact ha.symm
        subst e
        exact M.no a (List.mem_of_getElem? hx) b (by simp) hyx
    · have ea : a = y := by simpa using ha.symm
      subst ea
      rcases h2 with h2 | ⟨x, hx, hyx⟩
      · subst h2; simp at hb
      · have e : b = x := by
          rw [List.head?_drop, hx] at hb
          injection hb with hb
          exact hb.symm
        subst e
        exact M.yes b (List.mem_of_getElem? hx) a (by simp) hyx
/-- One that was ahead of a row goes so far into it. -/
def sA (E : List α) (x : α) (Y S : List α) (t : Nat) : List α := E ++ Y.take t ++ [x] ++ Y.drop t ++ S
omit [Inhabited α] in
theorem sA_zero (E : List α) (x : α) (Y S : List α) : sA E x Y S 0 = E ++ [x] ++ Y ++ S := by simp [sA]
omit [Inhabited α] in
theorem sA_len (E : List α) (x : α) (Y S : List α) (t : Nat) : (sA E x Y S t).length = (E ++ [x] ++ Y ++ S).length := by
  unfold sA; simp only [List.length_append, List.length_take, List.length_drop, List.length_cons, List.length_nil]; omega
theorem sA_step (E : List α) (x : α) (Y S : List α) {t : Nat} (ht : t < Y.length) : swp (sA E x Y S t).toArray (E.length + t) (E.length + t + 1) = (sA E x Y S (t + 1)).toArray := by
  have hY : Y.drop t = Y[t] :: Y.drop (t + 1) := List.drop_eq_getElem_cons ht
  have e1 : sA E x Y S t = (E ++ Y.take t) ++ x :: ([] ++ Y[t] :: (Y.drop (t + 1) ++ S)) := by unfold sA; rw [hY]; simp only [List.append_assoc, List.cons_append, List.nil_append]
  have e2 : sA E x Y S (t + 1) = (E ++ Y.take t) ++ Y[t] :: ([] ++ x :: (Y.drop (t + 1) ++ S)) := by
    unfold sA
    rw [List.take_add_one, List.getElem?_eq_getElem ht]
    simp only [Option.toList_some, List.append_assoc, List.cons_append, List.nil_append]
  have := swp_list (E ++ Y.take t) [] (Y.drop (t + 1) ++ S) x Y[t]
  have l1 : (E ++ Y.take t).length = E.length + t := by simp; omega
  rw [l1] at this
  rw [e1, e2]
  exact this
theorem swp_two (P S : List α) (x y : α) : swp (P ++ x :: y :: S).toArray (P.length + 1) P.length = (P ++ y :: x :: S).toArray := by
  have hx : (P ++ x :: y :: S).toArray[P.length]! = x := by simp
  have hy : (P ++ x :: y :: S).toArray[P.length + 1]! = y := at_get (by simp)
  unfold swp
  rw [hx, hy]
  apply Array.ext'
  rw [Array.toList_setIfInBounds, Array.toList_setIfInBounds]
  rw [List.set_append_right _ _ (by omega), show P.length + 1 - P.length = 1 by omega, List.set_cons_succ, List.set_cons_zero, List.set_append_right _ _ (Nat.le_refl _), Nat.sub_self, List.set_cons_zero]
theorem sA_back (E : List α) (x : α) (Y S : List α) {t : Nat} (ht : t < Y.length) : swp (sA E x Y S (t + 1)).toArray (E.length + t + 1) (E.length + t) = (sA E x Y S t).toArray := by
  have hY : Y.drop t = Y[t] :: Y.drop (t + 1) := List.drop_eq_getElem_cons ht
  have e1 : sA E x Y S t = (E ++ Y.take t) ++ x :: Y[t] :: (Y.drop (t + 1) ++ S) := by unfold sA; rw [hY]; simp only [List.append_assoc, List.cons_append, List.nil_append]
  have e2 : sA E x Y S (t + 1) = (E ++ Y.take t) ++ Y[t] :: x :: (Y.drop (t + 1) ++ S) := by
    unfold sA
    rw [List.take_add_one, List.getElem?_eq_getElem ht]
    simp only [Option.toList_some, List.append_assoc, List.cons_append, List.nil_append]
  have := swp_two (E ++ Y.take t) (Y.drop (t + 1) ++ S) Y[t] x
  have l1 : (E ++ Y.take t).length = E.length + t := by simp; omega
  rw [l1] at this
  rw [e1, e2]
  exact this
omit [Inhabited α] in
theorem sA_end (E : List α) (x : α) (Y S : List α) : sA E x Y S Y.length = E ++ Y ++ [x] ++ S := by simp [sA]
set_option maxRecDepth 1000000 in
set_option maxHeartbeats 2000000 in
theorem symA (K : KT P) (enc : α → Value) (cf : α → α → Int) (T : α → α → Prop) (tr : ∀ a b c, T a b → T b c → T a c) (g : Nat) (cb : Array Value) (blk off cap : Nat) (d0 : Array α) (w0 : World)
    (eg : ∀ args w, (callFunc g args).run P w = .ok (.enter g args) w) (hcmp : CmpLays1 P g cb enc cf blk off d0.size w0) (R : Row1 enc w0 blk off d0) (hsz : d0.size ≤ 4398046511104)
    (E : List α) (x : α) (Y S : List α) (hY : 0 < Y.length) (M : Mg (ltOf cf) T [x] Y) (w : World) (hs : d0.size = (E ++ [x] ++ Y ++ S).length) (hW : SW enc w0 blk off (E ++ [x] ++ Y ++ S).toArray w) :
    Calls P 45 #[.slice (some ⟨blk, off, none⟩) d0.size cap, .int .i64 (E.length : Nat), .int .i64 ((E.length + 1 : Nat) : Int), .int .i64 ((E.length + 1 + Y.length : Nat) : Int), .func (.func g) #[] cb] w fun e w' => e = .returned (.tuple #[]) ∧ ∃ Z, MgO T [x] Y Z ∧ SW enc w0 blk off (E ++ Z ++ S).toArray w' := by
  obtain ⟨z, hz⟩ : ∃ z, d0.size = z := ⟨_, rfl⟩
  obtain ⟨a, ha⟩ : ∃ a, E.length = a := ⟨_, rfl⟩
  obtain ⟨m, hm⟩ : ∃ m, a + 1 = m := ⟨_, rfl⟩
  obtain ⟨b, hb⟩ : ∃ b, m + Y.length = b := ⟨_, rfl⟩
  rw [ha, hm, hb, hz]
  have hbz : b ≤ z := by rw [← hz, hs, ← hb, ← hm, ← ha]; simp; omega
  have hz1 : z ≤ 4398046511104 := by omega
  have ham : a < m := by omega
  have hab : m < b := by omega
  have HB : Hid (m + Y.length = b ∧ E.length = a ∧ d0.size = z ∧ (E ++ [x] ++ Y ++ S).length = z) := ⟨hb, ha, hz, by rw [← hs, hz]⟩
  have HM : Hid (Mg (ltOf cf) T [x] Y) := M
  have HC : Aside (CmpLays1 P g cb enc cf blk off d0.size w0) := hcmp
  have S0 : Aside (SW enc w0 blk off (E ++ [x] ++ Y ++ S).toArray w) := hW
  have hsD : (E ++ [x] ++ Y ++ S).toArray.size = d0.size := by rw [List.size_toArray, hs]
  have hxa : (E ++ [x] ++ Y ++ S).toArray[a]! = x := at_get (by rw [← ha]; simp)
  have HYa : Hid (∀ i y, Y[i]? = some y → (E ++ [x] ++ Y ++ S).toArray[m + i]! = y) := fun i y h => by
    have := at_piece (E := E ++ [x]) (S := S) h
    rwa [List.length_append, ha, show a + [x].length = m from hm] at this
  have mixed := K.mixed; have t0 := K.t0; have a0 := K.a0; have z0 := K.z0; have v0 := K.v0; have t3 := K.t3; have a3 := K.a3; have z3 := K.z3; have v3 := K.v3; have t4 := K.t4; have a4 := K.a4; have z4 := K.z4; have v4 := K.v4; have t22 := K.t22; have a22 := K.a22; have z22 := K.z22; have v22 := K.v22; have t79 := K.t79; have a79 := K.a79; have z79 := K.z79; have v79 := K.v79; have t99 := K.t99; have a99 := K.a99; have z99 := K.z99; have v99 := K.v99
  have u22 := run_underlying K.t22
  have hcl0 := R.hO.cells
  simp only [Value.cells] at hcl0
  have hst := R.hO.store P
  have FG := K.fSy
  have hw1 : IntKind.i64.wrap ((m : Int) - (a : Int)) = 1 := by rw [IntKind.wrap_i64]; omega
  have he1 : (m : Int) - (a : Int) = 1 := by omega
  have HM1 : Hid (a + 1 = m) := hm
  clear hW hs hsz hz ha hb hm hcmp M hY
  generalize hD : (E ++ [x] ++ Y ++ S).toArray = D at *
  have HD : Hid ((E ++ [x] ++ Y ++ S).toArray = D) := hD
  clear hD
  go_enter FG, Tryd.ntmps45
  go_upto_block 0 with fail
  go_cut [10] (fun s10 wx => ∃ i : Nat, s10 = .int .i64 i ∧ m ≤ i ∧ i ≤ b ∧ (i = m ∨ ∃ y, Y[i - m - 1]? = some y ∧ ltOf cf y x = true) ∧ (i = b ∨ ∃ y, Y[i - m]? = some y ∧ ltOf cf y x = false) ∧ Aside (SW enc w0 blk off D wx))
  case first =>
    go_wp2_with fail
    go_loopw [10, 11] (fun s10 s11 wr => ∃ i j : Nat, s10 = .int .i64 i ∧ s11 = .int .i64 j ∧ m ≤ i ∧ i ≤ j ∧ j ≤ b ∧ Hid ((i = m ∨ ∃ y, Y[i - m - 1]? = some y ∧ ltOf cf y x = true) ∧ (j = b ∨ ∃ y, Y[j - m]? = some y ∧ ltOf cf y x = false)) ∧ Aside (SW enc w0 blk off D wr)) (fun s10 s11 _ => (intOf s11).toNat - (intOf s10).toNat)
    case atStart => exact ⟨m, b, rfl, rfl, Nat.le_refl _, by omega, Nat.le_refl _, ⟨.inl rfl, .inl rfl⟩, S0⟩
    case round =>
      obtain ⟨i, j, rfl, rfl, hai, hij, hjb, HK, S1⟩ := hrel
      by_cases hlt : i < j
      · have hlt' : (i : Int) < (j : Int) := by omega
        have hi0 : (0 : Int) ≤ (i : Int) := by omega
        have hj3 : (j : Int) ≤ 4398046511104 := by omega
        obtain ⟨h, hh⟩ : ∃ h : Nat, (i + j) / 2 = h := ⟨_, rfl⟩
        have hh' : ((i : Int) + (j : Int)) / 2 = (h : Int) := by omega
        have hhz : (h : Int) < (z : Int) := by omega
        have haz : (a : Int) < (z : Int) := by omega
        have hh0 : (0 : Int) ≤ (h : Int) := by omega
        have ha0 : (0 : Int) ≤ (a : Int) := by omega
        have hhij : i ≤ h ∧ h < j := by omega
        obtain ⟨y, hy⟩ : ∃ y, Y[h - m]? = some y := ⟨_, List.getElem?_eq_getElem (by have := HB.out.1; omega)⟩
        have HY : Hid (Y[h - m]? = some y) := hy
        have hyD : D[h]! = y := by have := HYa.out _ _ hy; rwa [show m + (h - m) = h by omega] at this
        have l1 := S1.out.cl R (by omega) h (by have := HB.out.2.2.1; omega)
        have l2 := S1.out.cl R (by omega) a (by have := HB.out.2.2.1; omega)
        have hcg := S1.out.cmp HC.out (by omega) y x
        rw [hyD] at l1
        rw [hxa] at l2
        clear hy hyD hh
        by_cases hlv : cf y x < 0
        · go_wp2_with fail
          try simp only [hh']
          go_quiet_grown (first | (go_at_fn g; refine Calls.grown_of (hcg _ _)))
          go_wp2_with fail
          refine ⟨⟨h + 1, j, rfl, rfl, by omega, by omega, hjb, ⟨.inr ⟨y, by rw [show h + 1 - m - 1 = h - m by omega]; exact HY.out, decide_eq_true hlv⟩, HK.out.2⟩, S1.out.grown nq osq⟩, by simp [intOf]; omega⟩
        · go_wp2_with fail
          try simp only [hh']
          go_quiet_grown (first | (go_at_fn g; refine Calls.grown_of (hcg _ _)))
          go_wp2_with fail
          refine ⟨⟨i, h, rfl, rfl, hai, by omega, by omega, ⟨HK.out.1, .inr ⟨y, HY.out, decide_eq_false (by omega)⟩⟩, S1.out.grown nq osq⟩, by simp [intOf]; omega⟩
      · have hlt' : ¬ (i : Int) < (j : Int) := by omega
        have e : i = j := by omega
        subst e
        go_wp2_with fail
        go_meet
        case rel => exact ⟨i, rfl, hai, hjb, HK.out.1, HK.out.2, S1⟩
  case rest =>
  obtain ⟨i, rfl, hai, hib, hF1, hF2, S1⟩ := hcut
  have HK : Hid ((i = m ∨ ∃ y, Y[i - m - 1]? = some y ∧ ltOf cf y x = true) ∧ (i = b ∨ ∃ y, Y[i - m]? = some y ∧ ltOf cf y x = false)) := ⟨hF1, hF2⟩
  have S2 : Aside (SW enc w0 blk off (sA E x Y S 0).toArray wc) := by show SW _ _ _ _ _ _; rw [sA_zero, HD.out]; exact S1.out
  have HST : Hid (∀ t, t < Y.length → swp (sA E x Y S t).toArray (a + t) (a + t + 1) = (sA E x Y S (t + 1)).toArray) := fun t ht => by rw [← HB.out.2.1]; exact sA_step E x Y S ht
  have HLN : Hid (∀ t, (sA E x Y S t).toArray.size = d0.size) := fun t => by simp only [List.size_toArray, sA_len]; rw [HB.out.2.2.2, HB.out.2.2.1]
  have HEND : Hid (MgO T [x] Y (Y.take (i - m) ++ [x] ++ Y.drop (i - m))) := mg_one tr HM.out (by have := HB.out.1; omega) (HK.out.1.imp (fun h => by omega) (fun h => h)) (HK.out.2.imp (fun h => by have := HB.out.1; omega) (fun h => h))
  clear hF1 hF2 S0 S1 HYa hxa hsD HC HK HM HD
  go_wp2_with fail
  go_loopw [13] (fun s13 wr => ∃ u : Nat, s13 = .int .i64 u ∧ a ≤ u ∧ u + 1 ≤ i ∧ Aside (SW enc w0 blk off (sA E x Y S (u - a)).toArray wr)) (fun s13 _ => i - (intOf s13).toNat)
  case atStart => exact ⟨a, rfl, Nat.le_refl _, by omega, by rw [Nat.sub_self]; exact S2⟩
  case round =>
    clear S2
    obtain ⟨u, rfl, hau, hui, S3⟩ := hrel
    have hwi : IntKind.i64.wrap ((i : Int) - 1) = (i : Int) - 1 := by rw [IntKind.wrap_i64]; omega
    by_cases hlt : u + 1 < i
    · have hlt' : (u : Int) < (i : Int) - 1 := by omega
      have hsk : (sA E x Y S (u - a)).toArray.size = d0.size := HLN.out _
      have HSP : Hid (swp (sA E x Y S (u - a)).toArray u (u + 1) = (sA E x Y S (u + 1 - a)).toArray) := by
        have := HST.out (u - a) (by have := HB.out.1; have := HM1.out; omega)
        rw [show a + (u - a) = u by omega, show u - a + 1 = u + 1 - a by omega] at this
        exact this
      generalize (sA E x Y S (u - a)).toArray = dk at *
      have hz2 := HB.out.2.2.1
      have pa : (0 : Int) ≤ (u : Int) := by omega
      have ba : (u : Int) < (z : Int) := by omega
      have pc : (0 : Int) ≤ (u : Int) + 1 := by omega
      have bc : (u : Int) + 1 < (z : Int) := by omega
      have ec : ((u : Int) + 1).toNat = u + 1 := by omega
      have rc : IntKind.i64.wrap ((u : Int) + 1) = (u : Int) + 1 := by rw [IntKind.wrap_i64]; omega
      have S4 : Aside (SW enc w0 blk off (swp dk u (u + 1)) ((wr.setCell ⟨blk, off + u, none⟩ (enc dk[u + 1]!)).setCell ⟨blk, off + (u + 1), none⟩ (enc dk[u]!)).drew) := S3.out.swapped R u (u + 1) (by omega) (by omega)
      have l1 := S3.out.c1 R (by omega) u (by omega)
      have l2 := S3.out.c1 R (by omega) (u + 1) (by omega)
      have s1 := S3.out.f1 R (by omega) u (by omega)
      have s2 := S3.out.f1 R (by omega) (u + 1) (by omega)
      obtain ⟨cU, n1⟩ := S3.out.c2 R (by omega) u (u + 1) (by omega) (by omega) (enc dk[u + 1]!)
      generalize dk[u]! = cI at S4 l1
      generalize dk[u + 1]! = cJ at S4 l2 n1
      clear S3 hz2
      go_wp2_with fail
      go_big_region_o
      clear l1 l2 s1 s2
      clear n1
      generalize ((wr.setCell ⟨blk, off + u, none⟩ (enc cJ)).setCell ⟨blk, off + (u + 1), none⟩ (enc cI)).drew = w2 at S4 ⊢
      go_wp2_with fail
      refine ⟨⟨u + 1, rfl, by omega, by omega, ?_⟩, by simp [intOf]; omega⟩
      have := S4.out
      rw [HSP.out] at this
      exact this
    · have hlt' : ¬ (u : Int) < (i : Int) - 1 := by omega
      have HFin : Hid (SW enc w0 blk off (E ++ (Y.take (i - m) ++ [x] ++ Y.drop (i - m)) ++ S).toArray wr) := by
        have := S3.out
        rw [show u - a = i - m by have := HM1.out; omega] at this
        unfold sA at this
        show SW _ _ _ _ _ _
        rw [show E ++ (Y.take (i - m) ++ [x] ++ Y.drop (i - m)) ++ S = E ++ Y.take (i - m) ++ [x] ++ Y.drop (i - m) ++ S by simp]
        exact this
      generalize Y.take (i - m) ++ [x] ++ Y.drop (i - m) = Z at *
      go_wp2_with fail
      exact bodyPost_ret (v := .tuple #[]) (by simp [results, Tryd.results45, go_sem]) rfl ⟨rfl, Z, HEND.out, by have := HFin.out; rwa [List.append_assoc] at this⟩
set_option maxRecDepth 1000000 in
set_option maxHeartbeats 2000000 in
theorem symB (K : KT P) (enc : α → Value) (cf : α → α → Int) (T : α → α → Prop) (tr : ∀ a b c, T a b → T b c → T a c) (g : Nat) (cb : Array Value) (blk off cap : Nat) (d0 : Array α) (w0 : World)
    (eg : ∀ args w, (callFunc g args).run P w = .ok (.enter g args) w) (hcmp : CmpLays1 P g cb enc cf blk off d0.size w0) (R : Row1 enc w0 blk off d0) (hsz : d0.size ≤ 4398046511104)
    (E X : List α) (y : α) (S : List α) (hX : 1 < X.length) (M : Mg (ltOf cf) T X [y]) (w : World) (hs : d0.size = (E ++ X ++ [y] ++ S).length) (hW : SW enc w0 blk off (E ++ X ++ [y] ++ S).toArray w) :
    Calls P 45 #[.slice (some ⟨blk, off, none⟩) d0.size cap, .int .i64 (E.length : Nat), .int .i64 ((E.length + X.length : Nat) : Int), .int .i64 ((E.length + X.length + 1 : Nat) : Int), .func (.func g) #[] cb] w fun e w' => e = .returned (.tuple #[]) ∧ ∃ Z, MgO T X [y] Z ∧ SW enc w0 blk off (E ++ Z ++ S).toArray w' := by
  obtain ⟨z, hz⟩ : ∃ z, d0.size = z := ⟨_, rfl⟩
  obtain ⟨a, ha⟩ : ∃ a, E.length = a := ⟨_, rfl⟩
  obtain ⟨m, hm⟩ : ∃ m, a + X.length = m := ⟨_, rfl⟩
  obtain ⟨b, hb⟩ : ∃ b, m + 1 = b := ⟨_, rfl⟩
  rw [ha, hm, hb, hz]
  have hbz : b ≤ z := by rw [← hz, hs, ← hb, ← hm, ← ha]; simp; omega
  have hz1 : z ≤ 4398046511104 := by omega
  have ham : a < m := by omega
  have hab : m < b := by omega
  have HB : Hid (a + X.length = m ∧ E.length = a ∧ d0.size = z ∧ (E ++ X ++ [y] ++ S).length = z) := ⟨hm, ha, hz, by rw [← hs, hz]⟩
  have HM : Hid (Mg (ltOf cf) T X [y]) := M
  have HC : Aside (CmpLays1 P g cb enc cf blk off d0.size w0) := hcmp
  have S0 : Aside (SW enc w0 blk off (E ++ X ++ [y] ++ S).toArray w) := hW
  have hsD : (E ++ X ++ [y] ++ S).toArray.size = d0.size := by rw [List.size_toArray, hs]
  have hxa : (E ++ X ++ [y] ++ S).toArray[m]! = y := at_get (by rw [← hm, ← ha]; simp)
  have HYa : Hid (∀ i x, X[i]? = some x → (E ++ X ++ [y] ++ S).toArray[a + i]! = x) := fun i x h => by
    have := at_piece (E := E) (S := [y] ++ S) h
    rw [ha, ← List.append_assoc] at this
    exact this
  have mixed := K.mixed; have t0 := K.t0; have a0 := K.a0; have z0 := K.z0; have v0 := K.v0; have t3 := K.t3; have a3 := K.a3; have z3 := K.z3; have v3 := K.v3; have t4 := K.t4; have a4 := K.a4; have z4 := K.z4; have v4 := K.v4; have t22 := K.t22; have a22 := K.a22; have z22 := K.z22; have v22 := K.v22; have t79 := K.t79; have a79 := K.a79; have z79 := K.z79; have v79 := K.v79; have t99 := K.t99; have a99 := K.a99; have z99 := K.z99; have v99 := K.v99
  have u22 := run_underlying K.t22
  have hcl0 := R.hO.cells
  simp only [Value.cells] at hcl0
  have hst := R.hO.store P
  have FG := K.fSy
  have hw1 : IntKind.i64.wrap ((m : Int) - (a : Int)) = (m : Int) - (a : Int) := by rw [IntKind.wrap_i64]; omega
  have hw2 : IntKind.i64.wrap ((b : Int) - (m : Int)) = 1 := by rw [IntKind.wrap_i64]; omega
  have he1 : ((m : Int) - (a : Int) == 1) = false := by simp; omega
  have he3 : ¬ (m : Int) - (a : Int) = 1 := by omega
  have he2 : (b : Int) - (m : Int) = 1 := by omega
  have HM1 : Hid (m + 1 = b) := hb
  clear hW hs hsz hz ha hb hm hcmp M hX
  generalize hD : (E ++ X ++ [y] ++ S).toArray = D at *
  have HD : Hid ((E ++ X ++ [y] ++ S).toArray = D) := hD
  clear hD
  go_enter FG, Tryd.ntmps45
  go_upto_block 4 with fail
  go_cut [14] (fun s10 wx => ∃ i : Nat, s10 = .int .i64 i ∧ a ≤ i ∧ i ≤ m ∧ (i = a ∨ ∃ x, X[i - a - 1]? = some x ∧ ltOf cf y x = false) ∧ (i = m ∨ ∃ x, X[i - a]? = some x ∧ ltOf cf y x = true) ∧ Aside (SW enc w0 blk off D wx))
  case first =>
    go_wp2_with fail
    go_loopw [14, 15] (fun s10 s11 wr => ∃ i j : Nat, s10 = .int .i64 i ∧ s11 = .int .i64 j ∧ a ≤ i ∧ i ≤ j ∧ j ≤ m ∧ Hid ((i = a ∨ ∃ x, X[i - a - 1]? = some x ∧ ltOf cf y x = false) ∧ (j = m ∨ ∃ x, X[j - a]? = some x ∧ ltOf cf y x = true)) ∧ Aside (SW enc w0 blk off D wr)) (fun s10 s11 _ => (intOf s11).toNat - (intOf s10).toNat)
    case atStart => exact ⟨a, m, rfl, rfl, Nat.le_refl _, by omega, Nat.le_refl _, ⟨.inl rfl, .inl rfl⟩, S0⟩
    case round =>
      obtain ⟨i, j, rfl, rfl, hai, hij, hjb, HK, S1⟩ := hrel
      by_cases hlt : i < j
      · have hlt' : (i : Int) < (j : Int) := by omega
        have hi0 : (0 : Int) ≤ (i : Int) := by omega
        have hj3 : (j : Int) ≤ 4398046511104 := by omega
        obtain ⟨h, hh⟩ : ∃ h : Nat, (i + j) / 2 = h := ⟨_, rfl⟩
        have hh' : ((i : Int) + (j : Int)) / 2 = (h : Int) := by omega
        have hhz : (h : Int) < (z : Int) := by omega
        have haz : (m : Int) < (z : Int) := by omega
        have hh0 : (0 : Int) ≤ (h : Int) := by omega
        have ha0 : (0 : Int) ≤ (m : Int) := by omega
        have hhij : i ≤ h ∧ h < j := by omega
        obtain ⟨x, hy⟩ : ∃ x, X[h - a]? = some x := ⟨_, List.getElem?_eq_getElem (by have := HB.out.1; omega)⟩
        have HY : Hid (X[h - a]? = some x) := hy
        have hyD : D[h]! = x := by have := HYa.out _ _ hy; rwa [show a + (h - a) = h by omega] at this
        have l1 := S1.out.cl R (by omega) h (by have := HB.out.2.2.1; omega)
        have l2 := S1.out.cl R (by omega) m (by have := HB.out.2.2.1; omega)
        have hcg := S1.out.cmp HC.out (by omega) y x
        rw [hyD] at l1
        rw [hxa] at l2
        clear hy hyD hh
        by_cases hlv : cf y x < 0
        · have hlv2 : ¬ (0 ≤ cf y x) := by omega
          go_wp2_with fail
          try simp only [hh']
          go_quiet_grown (first | (go_at_fn g; refine Calls.grown_of (hcg _ _)))
          go_wp2_with fail
          refine ⟨⟨i, h, rfl, rfl, hai, by omega, by omega, ⟨HK.out.1, .inr ⟨x, HY.out, decide_eq_true hlv⟩⟩, S1.out.grown nq osq⟩, by simp [intOf]; omega⟩
        · have hlc : (!decide (cf y x < 0)) = true := by simp; omega
          go_wp2_with fail
          try simp only [hh']
          go_quiet_grown (first | (go_at_fn g; refine Calls.grown_of (hcg _ _)))
          go_wp2_with fail
          exact ⟨⟨h + 1, j, rfl, rfl, by omega, by omega, hjb, ⟨.inr ⟨x, by rw [show h + 1 - a - 1 = h - a by omega]; exact HY.out, decide_eq_false (by omega)⟩, HK.out.2⟩, S1.out.grown nq osq⟩, by simp [intOf]; omega⟩
      · have hlt' : ¬ (i : Int) < (j : Int) := by omega
        have e : i = j := by omega
        subst e
        go_wp2_with fail
        go_meet
        case rel => exact ⟨i, rfl, hai, hjb, HK.out.1, HK.out.2, S1⟩
  case rest =>
  obtain ⟨i, rfl, hai, hib, hF1, hF2, S1⟩ := hcut
  have HK : Hid ((i = a ∨ ∃ x, X[i - a - 1]? = some x ∧ ltOf cf y x = false) ∧ (i = m ∨ ∃ x, X[i - a]? = some x ∧ ltOf cf y x = true)) := ⟨hF1, hF2⟩
  have S2 : Aside (SW enc w0 blk off (sA E y X S X.length).toArray wc) := by show SW _ _ _ _ _ _; rw [sA_end, HD.out]; exact S1.out
  have HST : Hid (∀ t, t < X.length → swp (sA E y X S (t + 1)).toArray (a + t + 1) (a + t) = (sA E y X S t).toArray) := fun t ht => by rw [← HB.out.2.1]; exact sA_back E y X S ht
  have HLN : Hid (∀ t, (sA E y X S t).toArray.size = d0.size) := fun t => by simp only [List.size_toArray, sA_len]; rw [HB.out.2.2.1, ← HB.out.2.2.2]; simp; omega
  have HEND : Hid (MgO T X [y] (X.take (i - a) ++ [y] ++ X.drop (i - a))) := mg_last tr HM.out (by have := HB.out.1; omega) (HK.out.1.imp (fun h => by omega) (fun h => h)) (HK.out.2.imp (fun h => by have := HB.out.1; omega) (fun h => h))
  clear hF1 hF2 S0 S1 HYa hxa hsD HC HK HM HD
  go_wp2_with fail
  go_loopw [17] (fun s13 wr => ∃ u : Nat, s13 = .int .i64 u ∧ i ≤ u ∧ u ≤ m ∧ Aside (SW enc w0 blk off (sA E y X S (u - a)).toArray wr)) (fun s13 _ => (intOf s13).toNat)
  case atStart => exact ⟨m, rfl, by omega, Nat.le_refl _, by rw [show m - a = X.length by have := HB.out.1; omega]; exact S2⟩
  case round =>
    clear S2
    obtain ⟨u, rfl, hau, hui, S3⟩ := hrel
    by_cases hlt : i < u
    · have hlt' : (i : Int) < (u : Int) := by omega
      obtain ⟨v, rfl⟩ : ∃ v, u = v + 1 := ⟨u - 1, by omega⟩
      have hsk : (sA E y X S (v + 1 - a)).toArray.size = d0.size := HLN.out _
      have HSP : Hid (swp (sA E y X S (v + 1 - a)).toArray (v + 1) v = (sA E y X S (v - a)).toArray) := by
        have := HST.out (v - a) (by have := HB.out.1; omega)
        rw [show a + (v - a) = v by omega, show v - a + 1 = v + 1 - a by omega] at this
        exact this
      generalize (sA E y X S (v + 1 - a)).toArray = dk at *
      have hz2 := HB.out.2.2.1
      have ev : ((v + 1 : Nat) : Int) = (v : Int) + 1 := rfl
      have pa : (0 : Int) ≤ (v : Int) := by omega
      have ba : (v : Int) < (z : Int) := by omega
      have pc : (0 : Int) ≤ (v : Int) + 1 := by omega
      have bc : (v : Int) + 1 < (z : Int) := by omega
      have ec : ((v : Int) + 1).toNat = v + 1 := by omega
      have rc : IntKind.i64.wrap ((v : Int) + 1 - 1) = (v : Int) := by rw [Int.add_sub_cancel, IntKind.wrap_i64]; omega
      have rd : IntKind.i64.wrap (v : Int) = (v : Int) := by rw [IntKind.wrap_i64]; omega
      have re : (v : Int) + 1 - 1 = (v : Int) := by omega
      have hlt2 : (i : Int) < (v : Int) + 1 := by omega
      have S4 : Aside (SW enc w0 blk off (swp dk (v + 1) v) ((wr.setCell ⟨blk, off + (v + 1), none⟩ (enc dk[v]!)).setCell ⟨blk, off + v, none⟩ (enc dk[v + 1]!)).drew) := S3.out.swapped R (v + 1) v (by omega) (by omega)
      have l1 := S3.out.c1 R (by omega) (v + 1) (by omega)
      have l2 := S3.out.c1 R (by omega) v (by omega)
      have s1 := S3.out.f1 R (by omega) (v + 1) (by omega)
      have s2 := S3.out.f1 R (by omega) v (by omega)
      obtain ⟨cU, n1⟩ := S3.out.c2 R (by omega) (v + 1) v (by omega) (by omega) (enc dk[v]!)
      generalize dk[v + 1]! = cI at S4 l1
      generalize dk[v]! = cJ at S4 l2 n1
      clear S3 hz2
      rw [ev]
      go_wp2_with fail
      go_big_region_o
      clear l1 l2 s1 s2
      clear n1
      generalize ((wr.setCell ⟨blk, off + (v + 1), none⟩ (enc cJ)).setCell ⟨blk, off + v, none⟩ (enc cI)).drew = w2 at S4 ⊢
      go_wp2_with fail
      refine ⟨⟨v, rfl, by omega, by omega, ?_⟩, by simp [intOf]⟩
      have := S4.out
      rw [HSP.out] at this
      exact this
    · have hlt' : ¬ (i : Int) < (u : Int) := by omega
      have e : u = i := by omega
      subst e
      have HFin : Hid (SW enc w0 blk off (E ++ (X.take (u - a) ++ [y] ++ X.drop (u - a)) ++ S).toArray wr) := by
        have := S3.out
        unfold sA at this
        show SW _ _ _ _ _ _
        rw [show E ++ (X.take (u - a) ++ [y] ++ X.drop (u - a)) ++ S = E ++ X.take (u - a) ++ [y] ++ X.drop (u - a) ++ S by simp]
        exact this
      generalize X.take (u - a) ++ [y] ++ X.drop (u - a) = Z at *
      go_wp2_with fail
      exact bodyPost_ret (v := .tuple #[]) (by simp [results, Tryd.results45, go_sem]) rfl ⟨rfl, Z, HEND.out, by have := HFin.out; rwa [List.append_assoc] at this⟩
end Go.Proofs.YtehamdkjdbaceaaDoor.so

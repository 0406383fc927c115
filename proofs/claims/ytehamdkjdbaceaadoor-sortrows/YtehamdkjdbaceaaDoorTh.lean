
/- Go's own stable sort, whole: it puts in order, and equals stay as they stood. Conditions: as each theorem says. -/
import Derived.Test.YtehamdkjdbaceaaDoorTg
import Derived.Test.YtehamdkjdbaceaaDoorTs
namespace Go.Proofs.YtehamdkjdbaceaaDoor.so
open Go.RowKit Go.Sort
/-- Rows of a size, each in order, one behind the other; the last one may be short. -/
inductive Ch {α : Type} (T J : α → α → Prop) (bs : Nat) : List α → Prop
  | last {l : List α} : l.length ≤ bs → l.Pairwise T → Ch T J bs l
  | cons {c l : List α} : c.length = bs → c.Pairwise T → (∀ x ∈ c, ∀ y ∈ l, J x y) → Ch T J bs l → Ch T J bs (c ++ l)
section
variable {α : Type} {T J : α → α → Prop} {bs : Nat}
theorem Ch.small {l : List α} (h : Ch T J bs l) (hl : l.length ≤ bs) : l.Pairwise T := by
  cases h with
  | last _ h => exact h
  | @cons c l hc hp hj hr =>
    have e : l = [] := List.length_eq_zero_iff.1 (by simp at hl; omega)
    subst e
    rw [List.append_nil]
    exact hp
theorem Ch.one {l : List α} (h : Ch T J bs l) (hl : bs < l.length) : ∃ c r, l = c ++ r ∧ c.length = bs ∧ c.Pairwise T ∧ (∀ x ∈ c, ∀ y ∈ r, J x y) ∧ Ch T J bs r := by
  cases h with
  | last h _ => omega
  | @cons c l hc hp hj hr => exact ⟨c, l, rfl, hc, hp, hj, hr⟩
theorem Ch.two {l : List α} (h : Ch T J bs l) (h0 : 0 < bs) (hl : 2 * bs ≤ l.length) : ∃ c d r, l = c ++ d ++ r ∧ c.length = bs ∧ d.length = bs ∧ c.Pairwise T ∧ d.Pairwise T ∧ (∀ x ∈ c, ∀ y ∈ d, J x y) ∧ (∀ x ∈ c ++ d, ∀ y ∈ r, J x y) ∧ Ch T J bs r := by
  obtain ⟨c, r, rfl, hc, hp, hj, hr⟩ := h.one (by omega)
  have hrl : bs ≤ r.length := by simp at hl; omega
  by_cases e : r.length = bs
  · exact ⟨c, r, [], by simp, hc, e, hp, hr.small (by omega), hj, by simp, .last (by simp) (by simp)⟩
  · obtain ⟨d, s, rfl, hd, hp', hj', hr'⟩ := hr.one (by omega)
    refine ⟨c, d, s, by simp, hc, hd, hp, hp', fun x hx y hy => hj x hx y (List.mem_append_left _ hy), fun x hx y hy => ?_, hr'⟩
    rcases List.mem_append.1 hx with hx | hx
    · exact hj x hx y (List.mem_append_right _ hy)
    · exact hj' x hx y hy
/-- What may stand ahead of such rows. -/
def Pre (T J : α → α → Prop) (bs : Nat) (E : List α) : Prop := ∀ R, Ch T J bs R → (∀ x ∈ E, ∀ y ∈ R, J x y) → Ch T J bs (E ++ R)
theorem Pre.nil : Pre T J bs [] := fun _ h _ => h
theorem Pre.snoc {E c : List α} (h : Pre T J bs E) (hc : c.length = bs) (hp : c.Pairwise T) (hj : ∀ x ∈ E, ∀ y ∈ c, J x y) : Pre T J bs (E ++ c) := fun R hR hx => by
  rw [List.append_assoc]
  refine h _ (.cons hc hp (fun x hx' y hy => hx x (List.mem_append_right _ hx') y hy) hR) (fun x hx' y hy => ?_)
  rcases List.mem_append.1 hy with hy | hy
  · exact hj x hx' y hy
  · exact hx x (List.mem_append_left _ hx') y hy
/-- All that is known on the way: what is done, what is left. -/
structure Way (T J : α → α → Prop) (bs bs' : Nat) (D0 E R : List α) : Prop where
  pre : Pre T J bs' E
  rest : Ch T J bs R
  cross : ∀ x ∈ E, ∀ y ∈ R, J x y
  perm : (E ++ R).Perm D0
theorem Way.merge {D0 E c d r Z : List α} (h : Way T J bs (2 * bs) D0 E (c ++ d ++ r)) (hc : c.length = bs) (hd : d.length = bs) (hj : ∀ x ∈ c ++ d, ∀ y ∈ r, J x y) (hr : Ch T J bs r) (hZ : MgO T c d Z) : Way T J bs (2 * bs) D0 (E ++ Z) r := by
  have hm : ∀ z, z ∈ Z ↔ z ∈ c ++ d := fun z => hZ.1.mem_iff
  refine ⟨h.pre.snoc (by rw [hZ.1.length_eq]; simp; omega) hZ.2 (fun x hx y hy => h.cross x hx y (List.mem_append_left _ ((hm y).1 hy))), hr, fun x hx y hy => ?_, ?_⟩
  · rcases List.mem_append.1 hx with hx | hx
    · exact h.cross x hx y (List.mem_append_right _ hy)
    · exact hj x ((hm x).1 hx) y hy
  · refine List.Perm.trans ?_ h.perm
    rw [List.append_assoc]
    exact List.Perm.append_left _ (hZ.1.append_right r)
theorem Way.last {D0 E R Z : List α} (h : Way T J bs (2 * bs) D0 E R) (hl : Z.length ≤ 2 * bs) (hZ : Z.Perm R) (hp : Z.Pairwise T) : Ch T J (2 * bs) (E ++ Z) ∧ (E ++ Z).Perm D0 :=
  ⟨h.pre Z (.last hl hp) (fun x hx y hy => h.cross x hx y (hZ.mem_iff.1 hy)), (List.Perm.append_left _ hZ).trans h.perm⟩
/-- The same while single ones are put in order. -/
structure Way1 (T J : α → α → Prop) (bs : Nat) (D0 E R : List α) : Prop where
  pre : Pre T J bs E
  rest : R.Pairwise J
  cross : ∀ x ∈ E, ∀ y ∈ R, J x y
  perm : (E ++ R).Perm D0
theorem Way1.step {D0 E C r Z : List α} (h : Way1 T J bs D0 E (C ++ r)) (hc : C.length = bs) (hZ : Z.Perm C) (hp : Z.Pairwise T) : Way1 T J bs D0 (E ++ Z) r := by
  have hR := List.pairwise_append.1 h.rest
  refine ⟨h.pre.snoc (by rw [hZ.length_eq]; exact hc) hp (fun x hx y hy => h.cross x hx y (List.mem_append_left _ (hZ.mem_iff.1 hy))), hR.2.1, fun x hx y hy => ?_, ?_⟩
  · rcases List.mem_append.1 hx with hx | hx
    · exact h.cross x hx y (List.mem_append_right _ hy)
    · exact hR.2.2 x (hZ.mem_iff.1 hx) y hy
  · refine List.Perm.trans ?_ h.perm
    rw [List.append_assoc]
    exact List.Perm.append_left _ (hZ.append_right r)
theorem Way1.last {D0 E R Z : List α} (h : Way1 T J bs D0 E R) (hl : R.length ≤ bs) (hZ : Z.Perm R) (hp : Z.Pairwise T) : Ch T J bs (E ++ Z) ∧ (E ++ Z).Perm D0 :=
  ⟨h.pre Z (.last (by rw [hZ.length_eq]; exact hl) hp) (fun x hx y hy => h.cross x hx y (hZ.mem_iff.1 hy)), (List.Perm.append_left _ hZ).trans h.perm⟩
theorem Jn.mg {lt : α → α → Bool} (hJ : Jn lt T J) {c d : List α} (hc : c.Pairwise T) (hd : d.Pairwise T) (h : ∀ x ∈ c, ∀ y ∈ d, J x y) : Mg lt T c d :=
  ⟨hc, hd, fun a ha b hb => (hJ a b (h a ha b hb)).1, fun a ha b hb => (hJ a b (h a ha b hb)).2⟩
end
variable {α : Type} [Inhabited α]
theorem insertion_any (enc : α → Value) (cf : α → α → Int) (T J : α → α → Prop) (tr : ∀ a b c, T a b → T b c → T a c) (hJ : Jn (ltOf cf) T J) (g : Nat) (cb : Array Value) (blk off cap : Nat) (d0 : Array α) (w0 : World)
    (eg : ∀ args w, (callFunc g args).run Tryd.prog w = .ok (.enter g args) w) (hcmp : CmpLays1 Tryd.prog g cb enc cf blk off d0.size w0) (R : Row1 enc w0 blk off d0) (hsz : d0.size ≤ 4398046511104)
    (E C S : List α) (ia ib : Int) (w : World) (e1 : ia = (E.length : Nat)) (e2 : ib = ((E.length + C.length : Nat) : Int)) (hl : (E ++ C ++ S).length = d0.size) (hC : C.Pairwise J) (hW : SW enc w0 blk off (E ++ C ++ S).toArray w) :
    Calls Tryd.prog 44 #[.slice (some ⟨blk, off, none⟩) d0.size cap, .int .i64 ia, .int .i64 ib, .func (.func g) #[] cb] w fun e w' => e = .returned (.tuple #[]) ∧ ∃ Z, Z.Perm C ∧ Z.Pairwise T ∧ SW enc w0 blk off (E ++ Z ++ S).toArray w' := by
  subst e1 e2
  have hsD : (E ++ C ++ S).toArray.size = d0.size := by rw [List.size_toArray, hl]
  obtain ⟨Z, z1, z2, z3⟩ := insertion_list (ltOf cf) T J tr hJ E C S hC
  have h := Any.insertionSortCmpFunc_s (P := Tryd.prog) (ρ := Tryd.sortF_ren) Tryd.sortF enc cf g cb blk off cap E.length (E.length + C.length) d0 (E ++ C ++ S).toArray w0 w eg hcmp R hsD.symm hW (by omega) (by simp <;> omega) (by rw [hsD]; omega)
  change Calls Tryd.prog 44 _ _ _ at h
  rw [hsD, z3] at h
  refine h.mono ?_
  rintro e w' ⟨rfl, hS⟩
  exact ⟨rfl, Z, z1, z2, hS⟩
set_option maxRecDepth 1000000 in
set_option maxHeartbeats 4000000 in
theorem stable_any (enc : α → Value) (cf : α → α → Int) (T J : α → α → Prop) (tr : ∀ a b c, T a b → T b c → T a c) (hJ : Jn (ltOf cf) T J) (g : Nat) (cb : Array Value) (blk off cap : Nat) (d0 : Array α) (w0 : World)
    (eg : ∀ args w, (callFunc g args).run Tryd.prog w = .ok (.enter g args) w) (hcmp : CmpLays1 Tryd.prog g cb enc cf blk off d0.size w0) (R : Row1 enc w0 blk off d0) (hsz : d0.size ≤ 4398046511104)
    (D0 : List α) (w : World) (hl : D0.length = d0.size) (hD : D0.Pairwise J) (hW : SW enc w0 blk off D0.toArray w) :
    Calls Tryd.prog 35 #[.slice (some ⟨blk, off, none⟩) d0.size cap, .int .i64 (d0.size : Nat), .func (.func g) #[] cb] w fun e w' => e = .returned (.tuple #[]) ∧ ∃ Z : List α, Z.Perm D0 ∧ Z.Pairwise T ∧ SW enc w0 blk off Z.toArray w' := by
  obtain ⟨z, hz⟩ : ∃ z, d0.size = z := ⟨_, rfl⟩
  have HI : Hid (∀ (E C S : List α) (ia ib : Int) (wx : World), ia = (E.length : Nat) → ib = ((E.length + C.length : Nat) : Int) → (E ++ C ++ S).length = z → C.Pairwise J → SW enc w0 blk off (E ++ C ++ S).toArray wx → Calls Tryd.prog 44 #[.slice (some ⟨blk, off, none⟩) z cap, .int .i64 ia, .int .i64 ib, .func (.func g) #[] cb] wx fun e w' => e = .returned (.tuple #[]) ∧ ∃ Z, Z.Perm C ∧ Z.Pairwise T ∧ SW enc w0 blk off (E ++ Z ++ S).toArray w') := by
    intro E C S ia ib wx e1 e2 hl hC hW
    have := insertion_any enc cf T J tr hJ g cb blk off cap d0 w0 eg hcmp R hsz E C S ia ib wx e1 e2 (by rw [hz]; exact hl) hC hW
    rwa [hz] at this
  have HS : Hid (∀ (E X Y S : List α) (ia im ib : Int) (wx : World), 0 < X.length → 0 < Y.length → Mg (ltOf cf) T X Y → ia = (E.length : Nat) → im = ((E.length + X.length : Nat) : Int) → ib = ((E.length + X.length + Y.length : Nat) : Int) → (E ++ X ++ Y ++ S).length = z → SW enc w0 blk off (E ++ X ++ Y ++ S).toArray wx → Calls Tryd.prog 45 #[.slice (some ⟨blk, off, none⟩) z cap, .int .i64 ia, .int .i64 im, .int .i64 ib, .func (.func g) #[] cb] wx fun e w' => e = .returned (.tuple #[]) ∧ ∃ Z, MgO T X Y Z ∧ SW enc w0 blk off (E ++ Z ++ S).toArray w') := by
    intro E X Y S ia im ib wx h1 h2 M e1 e2 e3 hl hW
    have := sym_any kt enc cf T tr g cb blk off cap d0 w0 eg hcmp R hsz _ E X Y S (Nat.le_refl _) h1 h2 M ia im ib wx e1 e2 e3 (by rw [hz]; exact hl) hW
    rwa [hz] at this
  have HJ : Hid (Jn (ltOf cf) T J) := hJ
  have HD : Hid (D0.length = z ∧ D0.Pairwise J) := ⟨by rw [hl, hz], hD⟩
  have S0 : Aside (SW enc w0 blk off D0.toArray w) := hW
  have hz1 : (z : Int) ≤ 4398046511104 := by omega
  rw [hz]
  clear hcmp R hsz hl hD hW hz hJ
  go_enter Tryd.func35, Tryd.ntmps35
  go_upto_block 0 with fail
  go_cut [7] (fun s7 wx => ∃ (a : Nat) (E Q : List α), s7 = .int .i64 a ∧ Hid (E.length = a ∧ (E ++ Q).length = z ∧ Q.length ≤ 20 ∧ Way1 T J 20 D0 E Q) ∧ Aside (SW enc w0 blk off (E ++ Q).toArray wx))
  case first =>
    go_wp2_with fail
    go_loopw [7, 8] (fun s7 s8 wr => ∃ (a b : Nat) (E Q : List α), s7 = .int .i64 a ∧ s8 = .int .i64 b ∧ b ≤ z + 20 ∧ Hid (a + 20 = b ∧ E.length = a ∧ (E ++ Q).length = z ∧ Way1 T J 20 D0 E Q) ∧ Aside (SW enc w0 blk off (E ++ Q).toArray wr)) (fun _ s8 _ => z + 40 - (intOf s8).toNat)
    case atStart => exact ⟨0, 20, [], D0, rfl, rfl, by omega, ⟨rfl, rfl, by simpa using HD.out.1, ⟨Pre.nil, HD.out.2, by simp, by simp⟩⟩, S0⟩
    case round =>
      obtain ⟨a, b, E, Q, rfl, rfl, hbz, HK, S1⟩ := hrel
      by_cases hb : b ≤ z
      · have hb' : (b : Int) ≤ (z : Int) := by omega
        obtain ⟨k1, k2, k3, k4⟩ := HK.out
        have hQl : 20 ≤ Q.length := by simp at k3; omega
        have HCC : Hid (Calls Tryd.prog 44 #[.slice (some ⟨blk, off, none⟩) z cap, .int .i64 (a : Int), .int .i64 (b : Int), .func (.func g) #[] cb] wr fun e w' => e = .returned (.tuple #[]) ∧ ∃ Z, Z.Perm (Q.take 20) ∧ Z.Pairwise T ∧ SW enc w0 blk off (E ++ Z ++ Q.drop 20).toArray w') := HI.out E (Q.take 20) (Q.drop 20) _ _ wr (by omega) (by rw [List.length_take]; omega) (by rw [List.append_assoc, List.take_append_drop]; exact k3) (k4.rest.sublist (List.take_sublist _ _)) (by rw [List.append_assoc, List.take_append_drop]; exact S1.out)
        have HQ : Hid (20 ≤ Q.length) := hQl
        clear k1 k2 k3 k4 hQl
        go_wp2_with fail
        refine HCC.out.mono ?_
        rintro e w1 ⟨rfl, Z, z1, z2, hS⟩
        have HN : Hid (E ++ Z ++ Q.drop 20 = E ++ Z ++ Q.drop 20 ∧ (E ++ Z).length = b ∧ (E ++ Z ++ Q.drop 20).length = z ∧ Way1 T J 20 D0 (E ++ Z) (Q.drop 20)) := by
          obtain ⟨k1, k2, k3, k4⟩ := HK.out
          have hq := HQ.out
          have lz : Z.length = 20 := by rw [z1.length_eq, List.length_take]; omega
          refine ⟨rfl, by rw [List.length_append]; omega, ?_, ?_⟩
          · rw [← k3]; simp; omega
          · exact Way1.step (by rw [List.take_append_drop]; exact k4) (by rw [List.length_take]; omega) z1 z2
        have HS1 : Aside (SW enc w0 blk off (E ++ Z ++ Q.drop 20).toArray w1) := hS
        clear z1 z2 hS
        go_wp2_with fail
        exact ⟨⟨b, b + 20, E ++ Z, Q.drop 20, rfl, rfl, by omega, ⟨rfl, HN.out.2.1, HN.out.2.2.1, HN.out.2.2.2⟩, HS1⟩, by simp [intOf]; omega⟩
      · have hb' : ¬ (b : Int) ≤ (z : Int) := by omega
        go_wp2_with fail
        go_meet
        case rel => exact ⟨a, E, Q, rfl, ⟨HK.out.2.1, HK.out.2.2.1, by have := HK.out; have h3 := HK.out.2.2.1; simp at h3; omega, HK.out.2.2.2⟩, S1⟩
  case rest =>
  obtain ⟨a, E, Q, rfl, HK, S1⟩ := hcut
  have HCC : Hid (Calls Tryd.prog 44 #[.slice (some ⟨blk, off, none⟩) z cap, .int .i64 (a : Int), .int .i64 (z : Int), .func (.func g) #[] cb] wc fun e w' => e = .returned (.tuple #[]) ∧ ∃ Z, Z.Perm Q ∧ Z.Pairwise T ∧ SW enc w0 blk off (E ++ Z ++ []).toArray w') := HI.out E Q [] _ _ wc (by have := HK.out.1; omega) (by have := HK.out.1; have h2 := HK.out.2.1; simp at h2; omega) (by rw [List.append_nil]; exact HK.out.2.1) HK.out.2.2.2.rest (by rw [List.append_nil]; exact S1.out)
  clear S1 S0
  go_wp2_with fail
  refine HCC.out.mono ?_
  rintro e w1 ⟨rfl, Z, z1, z2, hS⟩
  have HC0 : Hid ((E ++ Z).length = z ∧ Ch T J 20 (E ++ Z) ∧ (E ++ Z).Perm D0) := by
    obtain ⟨k1, k2, k3, k4⟩ := HK.out
    have := k4.last k3 z1 z2
    exact ⟨by rw [← k2, List.length_append, List.length_append, z1.length_eq], this.1, this.2⟩
  have S2 : Aside (SW enc w0 blk off (E ++ Z).toArray w1) := by show SW _ _ _ _ _ _; rw [List.append_nil] at hS; exact hS
  clear hS z1 z2 HK HCC
  generalize E ++ Z = D1 at *
  go_wp2_with fail
  go_loopw [6] (fun s6 wr => ∃ (bs : Nat) (D : List α), s6 = .int .i64 bs ∧ 0 < bs ∧ bs ≤ 2 * z + 20 ∧ Hid (D.length = z ∧ Ch T J bs D ∧ D.Perm D0) ∧ Aside (SW enc w0 blk off D.toArray wr)) (fun s6 _ => 2 * z + 40 - (intOf s6).toNat)
  case atStart => exact ⟨20, D1, rfl, by omega, by omega, HC0, S2⟩
  case round =>
    clear S2 HC0
    generalize wr = wo at *
    obtain ⟨bs, D, rfl, hbs0, hbsz, HK, S1⟩ := hrel
    by_cases hlt : bs < z
    · have hlt' : (bs : Int) < (z : Int) := by omega
      obtain ⟨b2, hb2⟩ : ∃ b2, 2 * bs = b2 := ⟨_, rfl⟩
      have hb2' : 2 * (bs : Int) = (b2 : Int) := by omega
      have hb2'' : (bs : Int) * 2 = (b2 : Int) := by omega
      have hwb : IntKind.i64.wrap (b2 : Int) = (b2 : Int) := by rw [IntKind.wrap_i64]; omega
      have HB2 : Hid (2 * bs = b2) := hb2
      have hb2z : b2 ≤ 2 * z := by omega
      clear hb2
      go_upto_block 4 with fail
      go_cut [7] (fun s7 wx => ∃ (a : Nat) (E Q : List α), s7 = .int .i64 a ∧ a ≤ z ∧ Hid (E.length = a ∧ (E ++ Q).length = z ∧ Q.length < 2 * bs ∧ Way T J bs (2 * bs) D0 E Q) ∧ Aside (SW enc w0 blk off (E ++ Q).toArray wx))
      case first =>
        go_wp2_with fail
        go_loopw [7, 8] (fun s7 s8 wr => ∃ (a b : Nat) (E Q : List α), s7 = .int .i64 a ∧ s8 = .int .i64 b ∧ a ≤ z ∧ b ≤ z + b2 ∧ Hid (a + b2 = b ∧ E.length = a ∧ (E ++ Q).length = z ∧ Way T J bs (2 * bs) D0 E Q) ∧ Aside (SW enc w0 blk off (E ++ Q).toArray wr)) (fun _ s8 _ => z + b2 + b2 - (intOf s8).toNat)
        case atStart => exact ⟨0, b2, [], D, rfl, rfl, by omega, by omega, ⟨by omega, rfl, by simpa using HK.out.1, ⟨Pre.nil, HK.out.2.1, by simp, by simpa using HK.out.2.2⟩⟩, S1⟩
        case round =>
          clear S1
          obtain ⟨a, b, E, Q, rfl, rfl, haz, hbz, HL, S3⟩ := hrel
          by_cases hb : b ≤ z
          · have hb' : (b : Int) ≤ (z : Int) := by omega
            obtain ⟨k1, k2, k3, k4⟩ := HL.out
            obtain ⟨c, d, r, rfl, hc, hd, hp, hp', hj, hj', hr⟩ := k4.rest.two hbs0 (by have := HB2.out; simp at k3; omega)
            have hwa : IntKind.i64.wrap ((a : Int) + (bs : Int)) = (a : Int) + (bs : Int) := by rw [IntKind.wrap_i64]; omega
            have HCC : Hid (Calls Tryd.prog 45 #[.slice (some ⟨blk, off, none⟩) z cap, .int .i64 (a : Int), .int .i64 ((a : Int) + (bs : Int)), .int .i64 (b : Int), .func (.func g) #[] cb] wr fun e w' => e = .returned (.tuple #[]) ∧ ∃ Z, MgO T c d Z ∧ SW enc w0 blk off (E ++ Z ++ r).toArray w') := HS.out E c d r _ _ _ wr (by omega) (by omega) (HJ.out.mg hp hp' hj) (by omega) (by omega) (by have := HB2.out; omega) (by rw [← k3]; simp) (by have := S3.out; rw [show E ++ c ++ d ++ r = E ++ (c ++ d ++ r) by simp]; exact this)
            have HW : Hid (c.length = bs ∧ d.length = bs ∧ (∀ x ∈ c ++ d, ∀ y ∈ r, J x y) ∧ Ch T J bs r) := ⟨hc, hd, hj', hr⟩
            clear k1 k2 k3 k4 hc hd hp hp' hj hj' hr S3
            go_wp2_with fail
            refine HCC.out.mono ?_
            rintro e w2 ⟨rfl, Z2, hZ2, hS⟩
            have HN : Hid ((E ++ Z2).length = b ∧ (E ++ Z2 ++ r).length = z ∧ Way T J bs (2 * bs) D0 (E ++ Z2) r) := by
              obtain ⟨k1, k2, k3, k4⟩ := HL.out
              obtain ⟨hc, hd, hj', hr⟩ := HW.out
              have lz : Z2.length = 2 * bs := by rw [hZ2.1.length_eq, List.length_append]; omega
              have h2 := HB2.out
              exact ⟨by rw [List.length_append]; omega, by rw [← k3]; simp; omega, k4.merge hc hd hj' hr hZ2⟩
            have HS1 : Aside (SW enc w0 blk off (E ++ Z2 ++ r).toArray w2) := hS
            clear hZ2 hS HCC
            go_wp2_with fail
            exact ⟨⟨b, b + b2, E ++ Z2, r, rfl, by congr 1, hb, by omega, ⟨rfl, HN.out.1, HN.out.2.1, HN.out.2.2⟩, HS1⟩, by simp [intOf]; omega⟩
          · have hb' : ¬ (b : Int) ≤ (z : Int) := by omega
            go_wp2_with fail
            go_meet
            case rel => exact ⟨a, E, Q, rfl, haz, ⟨HL.out.2.1, HL.out.2.2.1, by have h1 := HL.out.1; have h2 := HL.out.2.1; have h3 := HL.out.2.2.1; have h4 := HB2.out; simp at h3; omega, HL.out.2.2.2⟩, S3⟩
      case rest =>
      obtain ⟨a, E, Q, rfl, haz, HL, S3⟩ := hcut
      clear S1
      have hwa : IntKind.i64.wrap ((a : Int) + (bs : Int)) = (a : Int) + (bs : Int) := by rw [IntKind.wrap_i64]; omega
      by_cases hm : a + bs < z
      · have hm' : (a : Int) + (bs : Int) < (z : Int) := by omega
        obtain ⟨k1, k2, k3, k4⟩ := HL.out
        obtain ⟨c, r, rfl, hc, hp, hj, hr⟩ := k4.rest.one (by simp at k2; omega)
        have hrl : r.length ≤ bs := by simp at k3; omega
        have hrp := hr.small hrl
        have HCC : Hid (Calls Tryd.prog 45 #[.slice (some ⟨blk, off, none⟩) z cap, .int .i64 (a : Int), .int .i64 ((a : Int) + (bs : Int)), .int .i64 (z : Int), .func (.func g) #[] cb] wc fun e w' => e = .returned (.tuple #[]) ∧ ∃ Z, MgO T c r Z ∧ SW enc w0 blk off (E ++ Z ++ []).toArray w') := HS.out E c r [] _ _ _ wc (by omega) (by simp at k2; omega) (HJ.out.mg hp hrp hj) (by omega) (by omega) (by simp at k2; omega) (by rw [← k2]; simp) (by have := S3.out; rw [show E ++ c ++ r ++ [] = E ++ (c ++ r) by simp]; exact this)
        have HW : Hid (c.length = bs ∧ r.length ≤ bs) := ⟨hc, hrl⟩
        clear k1 k2 k3 k4 hc hp hj hr hrl hrp S3
        go_wp2_with fail
        refine HCC.out.mono ?_
        rintro e w2 ⟨rfl, Z2, hZ2, hS⟩
        have HN : Hid ((E ++ Z2).length = z ∧ Ch T J b2 (E ++ Z2) ∧ (E ++ Z2).Perm D0) := by
          obtain ⟨k1, k2, k3, k4⟩ := HL.out
          obtain ⟨hc, hr⟩ := HW.out
          have lz : Z2.length = c.length + r.length := by rw [hZ2.1.length_eq, List.length_append]
          have h2 := HB2.out
          have := k4.last (by omega) hZ2.1 hZ2.2
          rw [h2] at this
          exact ⟨by rw [← k2]; simp; omega, this.1, this.2⟩
        have HS1 : Aside (SW enc w0 blk off (E ++ Z2).toArray w2) := by show SW _ _ _ _ _ _; rw [List.append_nil] at hS; exact hS
        clear hZ2 hS HCC
        go_wp2_with fail
        exact ⟨⟨b2, E ++ Z2, by first | rfl | (congr 1), by omega, by omega, HN, HS1⟩, by simp [intOf]; omega⟩
      · have hm' : ¬ (a : Int) + (bs : Int) < (z : Int) := by omega
        have HN : Hid ((E ++ Q).length = z ∧ Ch T J b2 (E ++ Q) ∧ (E ++ Q).Perm D0) := by
          obtain ⟨k1, k2, k3, k4⟩ := HL.out
          have h2 := HB2.out
          have := k4.last (Z := Q) (by omega) (List.Perm.refl _) (k4.rest.small (by simp at k2; omega))
          rw [h2] at this
          exact ⟨k2, this.1, this.2⟩
        go_wp2_with fail
        exact ⟨⟨b2, E ++ Q, by first | rfl | (congr 1), by omega, by omega, HN, S3⟩, by simp [intOf]; omega⟩
    · have hlt' : ¬ (bs : Int) < (z : Int) := by omega
      have HF : Hid (D.Perm D0 ∧ D.Pairwise T) := ⟨HK.out.2.2, HK.out.2.1.small (by rw [HK.out.1]; omega)⟩
      go_wp2_with fail
      go_end0
      exact ⟨rfl, D, HF.out.1, HF.out.2, S1.out⟩
end Go.Proofs.YtehamdkjdbaceaaDoor.so

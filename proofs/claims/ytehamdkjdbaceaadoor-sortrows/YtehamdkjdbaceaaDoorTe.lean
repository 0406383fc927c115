
/- Go's own stable sort: two rows are merged. Conditions: as each theorem says. -/
import Derived.Test.YtehamdkjdbaceaaDoorTd
namespace Go.Proofs.YtehamdkjdbaceaaDoor.so
open Go.RowKit Go.Sort
variable {α : Type} [Inhabited α] {P : Program}
omit [Inhabited α] in
theorem Mg.take {lt : α → α → Bool} {T : α → α → Prop} {X Y : List α} (M : Mg lt T X Y) (i j : Nat) : Mg lt T (X.take i) (Y.take j) :=
  ⟨M.x.sublist (List.take_sublist _ _), M.y.sublist (List.take_sublist _ _), fun a ha b hb => M.no a (List.mem_of_mem_take ha) b (List.mem_of_mem_take hb), fun a ha b hb => M.yes a (List.mem_of_mem_take ha) b (List.mem_of_mem_take hb)⟩
omit [Inhabited α] in
theorem Mg.drop {lt : α → α → Bool} {T : α → α → Prop} {X Y : List α} (M : Mg lt T X Y) (i j : Nat) : Mg lt T (X.drop i) (Y.drop j) :=
  ⟨M.x.sublist (List.drop_sublist _ _), M.y.sublist (List.drop_sublist _ _), fun a ha b hb => M.no a (List.mem_of_mem_drop ha) b (List.mem_of_mem_drop hb), fun a ha b hb => M.yes a (List.mem_of_mem_drop ha) b (List.mem_of_mem_drop hb)⟩
omit [Inhabited α] in
theorem MgO.left {lt : α → α → Bool} {T : α → α → Prop} {X Y : List α} (M : Mg lt T X Y) (h : X = [] ∨ Y = []) : MgO T X Y (X ++ Y) := by
  refine ⟨List.Perm.refl _, ?_⟩
  rcases h with h | h
  · rw [h, List.nil_append]; exact M.y
  · rw [h, List.append_nil]; exact M.x
omit [Inhabited α] in
theorem last_of {T : α → α → Prop} {X : List α} (h : X.Pairwise T) {i : Nat} {l a : α} (hl : X[i - 1]? = some l) (ha : a ∈ X.take i) : a = l ∨ T a l := by
  obtain ⟨p, hp⟩ := List.getElem?_of_mem ha
  rw [List.getElem?_take] at hp
  split at hp
  · next hpi =>
    by_cases e : p = i - 1
    · subst e; rw [hl] at hp; injection hp with hp; exact .inl hp.symm
    · obtain ⟨h1, rfl⟩ := List.getElem?_eq_some_iff.1 hp
      obtain ⟨h2, rfl⟩ := List.getElem?_eq_some_iff.1 hl
      exact .inr (List.pairwise_iff_getElem.1 h p (i - 1) h1 h2 (by omega))
  · cases hp
omit [Inhabited α] in
theorem first_of {T : α → α → Prop} {X : List α} (h : X.Pairwise T) {i : Nat} {f a : α} (hf : X[i]? = some f) (ha : a ∈ X.drop i) : a = f ∨ T f a := by
  obtain ⟨p, hp⟩ := List.getElem?_of_mem ha
  rw [List.getElem?_drop] at hp
  by_cases e : p = 0
  · subst e; rw [Nat.add_zero, hf] at hp; injection hp with hp; exact .inl hp.symm
  · obtain ⟨h1, rfl⟩ := List.getElem?_eq_some_iff.1 hp
    obtain ⟨h2, rfl⟩ := List.getElem?_eq_some_iff.1 hf
    exact .inr (List.pairwise_iff_getElem.1 h i (i + p) h2 h1 (by omega))
omit [Inhabited α] in
theorem mg_split {lt : α → α → Bool} {T : α → α → Prop} (tr : ∀ a b c, T a b → T b c → T a c) {X Y Z1 Z2 : List α} (M : Mg lt T X Y) {i j : Nat}
    (h1 : i = 0 ∨ j = Y.length ∨ ∃ x y, X[i - 1]? = some x ∧ Y[j]? = some y ∧ lt y x = false) (h2 : j = 0 ∨ i = X.length ∨ ∃ x y, X[i]? = some x ∧ Y[j - 1]? = some y ∧ lt y x = true)
    (g1 : MgO T (X.take i) (Y.take j) Z1) (g2 : MgO T (X.drop i) (Y.drop j) Z2) : MgO T X Y (Z1 ++ Z2) := by
  constructor
  · have h3 := g1.1.append g2.1
    refine h3.trans ?_
    have e : (X.take i ++ Y.take j ++ (X.drop i ++ Y.drop j)).Perm (X.take i ++ X.drop i ++ (Y.take j ++ Y.drop j)) := by
      rw [List.append_assoc, List.append_assoc, ← List.append_assoc (Y.take j), ← List.append_assoc (X.drop i)]
      exact List.Perm.append_left _ (List.Perm.append_right _ List.perm_append_comm)
    rwa [List.take_append_drop, List.take_append_drop] at e
  · refine List.pairwise_append.2 ⟨g1.2, g2.2, fun u hu v hv => ?_⟩
    have hX : (X.take i ++ X.drop i).Pairwise T := by rw [List.take_append_drop]; exact M.x
    have hY : (Y.take j ++ Y.drop j).Pairwise T := by rw [List.take_append_drop]; exact M.y
    rcases List.mem_append.1 (g1.1.mem_iff.1 hu) with hu | hu
    · rcases List.mem_append.1 (g2.1.mem_iff.1 hv) with hv | hv
      · exact (List.pairwise_append.1 hX).2.2 u hu v hv
      · rcases h1 with h1 | h1 | ⟨x, y, hx, hy, hyx⟩
        · subst h1; simp at hu
        · subst h1; simp at hv
        · have t1 := M.no x (List.mem_of_getElem? hx) y (List.mem_of_getElem? hy) hyx
          rcases last_of M.x hx hu with rfl | q1
          · rcases first_of M.y hy hv with rfl | q2
            · exact t1
            · exact tr _ _ _ t1 q2
          · rcases first_of M.y hy hv with rfl | q2
            · exact tr _ _ _ q1 t1
            · exact tr _ _ _ q1 (tr _ _ _ t1 q2)
    · rcases List.mem_append.1 (g2.1.mem_iff.1 hv) with hv | hv
      · rcases h2 with h2 | h2 | ⟨x, y, hx, hy, hyx⟩
        · subst h2; simp at hu
        · subst h2; simp at hv
        · have t1 := M.yes x (List.mem_of_getElem? hx) y (List.mem_of_getElem? hy) hyx
          rcases last_of M.y hy hu with rfl | q1
          · rcases first_of M.x hx hv with rfl | q2
            · exact t1
            · exact tr _ _ _ t1 q2
          · rcases first_of M.x hx hv with rfl | q2
            · exact tr _ _ _ q1 t1
            · exact tr _ _ _ q1 (tr _ _ _ t1 q2)
      · exact (List.pairwise_append.1 hY).2.2 u hu v hv
/-- What symMerge does with two rows. -/
def SymOK (P : Program) (enc : α → Value) (T : α → α → Prop) (fv : Value) (blk off cap z : Nat) (w0 : World) (E X Y S : List α) : Prop :=
  ∀ (ia im ib : Int) (w : World), ia = (E.length : Nat) → im = ((E.length + X.length : Nat) : Int) → ib = ((E.length + X.length + Y.length : Nat) : Int) → (E ++ X ++ Y ++ S).length = z → SW enc w0 blk off (E ++ X ++ Y ++ S).toArray w →
    Calls P 45 #[.slice (some ⟨blk, off, none⟩) z cap, .int .i64 ia, .int .i64 im, .int .i64 ib, fv] w fun e w' => e = .returned (.tuple #[]) ∧ ∃ Z, MgO T X Y Z ∧ SW enc w0 blk off (E ++ Z ++ S).toArray w'
/-- Where the search begins and ends. -/
def Rng (a m b mid n s0 r0 : Nat) : Prop := a ≤ s0 ∧ s0 ≤ r0 ∧ r0 ≤ m ∧ r0 ≤ mid ∧ n ≤ s0 + b ∧ (s0 = a ∨ s0 + b = n) ∧ (r0 = m ∨ r0 = mid)
/-- The statements from a region on. -/
def findTail (n : Nat) : Code → Option Code
  | .seq (.region m ops b) c => if m = n then some (.seq (.region m ops b) c) else findTail n c
  | .seq a b => match findTail n a with
    | some c => some c
    | none => findTail n b
  | .cond _ a b => match findTail n a with
    | some c => some c
    | none => findTail n b
  | .loop c => findTail n c
  | .block _ c => findTail n c
  | .scope c => findTail n c
  | _ => none
noncomputable def tail38C : Code := ((Tryd.f45.body.bind (findTail 38)).getD .skip)
def behind : Code → Code
  | .seq _ b => b
  | c => c
noncomputable def tail41C : Code := behind (behind tail38C)
noncomputable def tail43C : Code := behind tail41C
set_option maxRecDepth 1000000 in
set_option maxHeartbeats 4000000 in
theorem tail43 (K : KT P) (enc : α → Value) (T : α → α → Prop) (g : Nat) (cb : Array Value) (blk off cap z : Nat) (w0 : World) (a m b mid n st en : Nat) (E X Y X1 X2 Y1 Y2 S : List α) (hz1 : z ≤ 4398046511104) (hbz : b ≤ z)
    (HG : Hid (a ≤ st ∧ st ≤ m ∧ st ≤ mid ∧ m ≤ en ∧ en ≤ b ∧ n = en + st ∧ E.length = a ∧ X1.length = st - a ∧ X2.length = m - st ∧ Y1.length = en - m ∧ Y2.length = b - en ∧ mid + m = n ∧ (E ++ X1 ++ X2 ++ Y1 ++ Y2 ++ S).length = z))
    (HL1 : Hid ((X1 = [] ∨ Y1 = []) → MgO T X1 Y1 (X1 ++ Y1))) (HL2 : Hid ((X2 = [] ∨ Y2 = []) → MgO T X2 Y2 (X2 ++ Y2)))
    (HSP : Hid (∀ Z1 Z2, MgO T X1 Y1 Z1 → MgO T X2 Y2 Z2 → MgO T X Y (Z1 ++ Z2)))
    (HIHa : Hid (∀ (E' S' : List α), SymOK P enc T (.func (.func g) #[] cb) blk off cap z w0 E' X1 Y1 S' ∨ X1 = [] ∨ Y1 = []))
    (HIHb : Hid (∀ (E' S' : List α), SymOK P enc T (.func (.func g) #[] cb) blk off cap z w0 E' X2 Y2 S' ∨ X2 = [] ∨ Y2 = []))
    (HRot : Hid (∀ (E' X' Y' S' : List α) (ia im ib : Int) (wx : World), 0 < X'.length → 0 < Y'.length → ia = (E'.length : Nat) → im = ((E'.length + X'.length : Nat) : Int) → ib = ((E'.length + X'.length + Y'.length : Nat) : Int) → (E' ++ X' ++ Y' ++ S').length = z → SW enc w0 blk off (E' ++ X' ++ Y' ++ S').toArray wx → Calls P 52 #[.slice (some ⟨blk, off, none⟩) z cap, .int .i64 ia, .int .i64 im, .int .i64 ib, .func (.func g) #[] cb] wx fun e w' => e = .returned (.tuple #[]) ∧ SW enc w0 blk off (E' ++ Y' ++ X' ++ S').toArray w'))
    (wc : World) (Z1 : List α) (hZ1 : MgO T X1 Y1 Z1) (S4 : Aside (SW enc w0 blk off (E ++ Z1 ++ X2 ++ Y2 ++ S).toArray wc))
    (l5 l6 l7 l8 l9 l10 l11 l12 l13 l14 l15 l16 l17 l19 l20 l21 l22 l23 l25 l26 l27 l28 l29 l30 l31 l32 l33 l34 l35 l36 l37 l38 l39 l40 l41 l42 l43 l44 l45 l46 l47 l48 l49 l50 l51 l52 l53 l54 l55 l56 l57 l58 l59 l60 l61 l62 l63 l64 l65 l66 l67 l68 l69 l70 l71 l72 l73 l74 l75 l76 l77 l78 l79 l80 l81 l82 l83 l84 l85 l86 l87 l88 l89 l90 l91 l92 l93 l94 l95 l96 l97 l98 l99 l100 l101 l102 l103 l104 l105 l106 l107 l108 l109 l110 l111 l112 l113 l114 l115 l116 l117 l118 l119 l120 l121 l122 l123 l124 l125 l126 l127 l128 l129 l130 l131 l132 l133 l134 l135 l136 l137 l138 l139 l140 l141 l142 l143 l144 l145 l146 l147 l148 l149 l150 l151 l152 l153 l154 l155 l156 l157 l158 l159 l160 l161 l162 l163 l164 l165 l166 l167 l168 l169 l170 l171 l172 l173 l174 l175 l176 l177 l178 l179 l180 l181 l182 l183 l184 l185 l186 l187 l188 l189 l190 l191 l192 l193 l194 l195 l196 l197 l198 l199 l200 l201 l202 l203 l204 l205 l206 l207 l208 l209 l210 l211 l212 l213 l214 l215 l216 l217 l218 l219 : Value) :
    Code.wp P tail43C (bodyPost P Tryd.f45 fun e w' => e = .returned (.tuple #[]) ∧ ∃ Z, MgO T X Y Z ∧ SW enc w0 blk off (E ++ Z ++ S).toArray w') ⟨#[.slice (some ⟨blk, off, none⟩) z cap, .int .i64 (a : Int), .int .i64 (m : Int), .int .i64 (b : Int), .func (.func g) #[] cb, l5, l6, l7, l8, l9, l10, l11, l12, l13, l14, l15, l16, l17, .int .i64 (mid : Int), l19, l20, l21, l22, l23, .int .i64 (en : Int), l25, l26, l27, l28, l29, l30, l31, l32, l33, l34, l35, l36, l37, l38, l39, l40, l41, l42, l43, l44, l45, l46, l47, l48, l49, l50, l51, l52, l53, l54, l55, l56, l57, l58, l59, l60, l61, l62, l63, l64, l65, l66, l67, l68, l69, l70, l71, l72, l73, l74, l75, l76, l77, l78, l79, l80, l81, l82, l83, l84, l85, l86, l87, l88, l89, l90, l91, l92, l93, l94, l95, l96, l97, l98, l99, l100, l101, l102, l103, l104, l105, l106, l107, l108, l109, l110, l111, l112, l113, l114, l115, l116, l117, l118, l119, l120, l121, l122, l123, l124, l125, l126, l127, l128, l129, l130, l131, l132, l133, l134, l135, l136, l137, l138, l139, l140, l141, l142, l143, l144, l145, l146, l147, l148, l149, l150, l151, l152, l153, l154, l155, l156, l157, l158, l159, l160, l161, l162, l163, l164, l165, l166, l167, l168, l169, l170, l171, l172, l173, l174, l175, l176, l177, l178, l179, l180, l181, l182, l183, l184, l185, l186, l187, l188, l189, l190, l191, l192, l193, l194, l195, l196, l197, l198, l199, l200, l201, l202, l203, l204, l205, l206, l207, l208, l209, l210, l211, l212, l213, l214, l215, l216, l217, l218, l219], []⟩ wc := by
  have _h0 := hz1; have _h1 := hbz; have _h2 := HL1; have _h3 := HIHa; have _h4 := HRot; have _h5 := HL2; have _h6 := HIHb; have _h7 := HSP; have _h8 := HG
  clear _h0 _h1 _h2 _h3 _h4 _h5 _h6 _h7 _h8
  dsimp only
  conv => arg 2; whnf
  have mixed := K.mixed; have t0 := K.t0; have a0 := K.a0; have z0 := K.z0; have v0 := K.v0; have t3 := K.t3; have a3 := K.a3; have z3 := K.z3; have v3 := K.v3; have t4 := K.t4; have a4 := K.a4; have z4 := K.z4; have v4 := K.v4; have t22 := K.t22; have a22 := K.a22; have z22 := K.z22; have v22 := K.v22; have t79 := K.t79; have a79 := K.a79; have z79 := K.z79; have v79 := K.v79
  have e112 : ∀ args w, (callFunc 52 args).run P w = .ok (.enter 52 args) w := enters_of K.fRo (by kernel_rfl) rfl
  have e95 : ∀ args w, (callFunc 45 args).run P w = .ok (.enter 45 args) w := enters_of K.fSy (by kernel_rfl) rfl
  have HZ1 : Hid (MgO T X1 Y1 Z1) := hZ1
  clear hZ1 HIHa HRot HL1
  go_upto_region 43 with fail
  go_cut [213] (fun s wx => (∃ q : Bool, s = .bool q ∧ q = decide (mid < en ∧ en < b)) ∧ wx = wc)
  case first =>
    by_cases h1 : mid < en
    · have h1' : (mid : Int) < (en : Int) := by omega
      by_cases h2 : en < b
      · have h2' : (en : Int) < (b : Int) := by omega
        have hd : decide (mid < en ∧ en < b) = true := decide_eq_true ⟨h1, h2⟩
        go_wp2_with fail
        go_meet
        case rel => exact ⟨⟨true, rfl, hd.symm⟩, rfl⟩
      · have h2' : ¬ (en : Int) < (b : Int) := by omega
        have hd : decide (mid < en ∧ en < b) = false := decide_eq_false (fun h => h2 h.2)
        go_wp2_with fail
        go_meet
        case rel => exact ⟨⟨false, rfl, hd.symm⟩, rfl⟩
    · have h1' : ¬ (mid : Int) < (en : Int) := by omega
      have hd : decide (mid < en ∧ en < b) = false := decide_eq_false (fun h => h1 h.1)
      go_wp2_with fail
      go_meet
      case rel => exact ⟨⟨false, rfl, hd.symm⟩, rfl⟩
  case rest =>
  obtain ⟨⟨q, rfl, hq⟩, rfl⟩ := hcut
  have HQ : Hid (q = decide (mid < en ∧ en < b)) := hq
  clear hq
  go_upto_if 213 with fail
  have HEnd : Hid (∀ w', (∃ Z2, MgO T X2 Y2 Z2 ∧ SW enc w0 blk off (E ++ Z1 ++ Z2 ++ S).toArray w') → ∃ Z, MgO T X Y Z ∧ SW enc w0 blk off (E ++ Z ++ S).toArray w') := fun w' ⟨Z2, h1, h2⟩ => ⟨Z1 ++ Z2, HSP.out Z1 Z2 HZ1.out h1, by rw [← List.append_assoc]; exact h2⟩
  obtain ⟨g1, g2, g3, g4, g5, g6, g7, g8, g9, g10, g11, g12, g13⟩ := HG.out
  have hzl : Z1.length = X1.length + Y1.length := by have := HZ1.out.1.length_eq; simpa using this
  cases q with
  | true =>
    have hq : mid < en ∧ en < b := of_decide_eq_true HQ.out.symm
    have HCC : Hid (Calls P 45 #[.slice (some ⟨blk, off, none⟩) z cap, .int .i64 (mid : Int), .int .i64 (en : Int), .int .i64 (b : Int), .func (.func g) #[] cb] wc fun e w' => e = .returned (.tuple #[]) ∧ ∃ Z, MgO T X2 Y2 Z ∧ SW enc w0 blk off (E ++ Z1 ++ Z ++ S).toArray w') := by
      rcases HIHb.out (E ++ Z1) S with h | h | h
      · refine h _ _ _ wc (by rw [List.length_append]; omega) (by rw [List.length_append]; omega) (by rw [List.length_append]; omega) ?_ S4.out
        rw [← g13]; simp; omega
      · rw [h] at g9; simp at g9; omega
      · rw [h] at g11; simp at g11; omega
    clear g1 g2 g3 g4 g5 g6 g7 g8 g9 g10 g11 g12 g13 hq hzl
    go_wp2_with (go_at_fn 45; refine HCC.out.mono ?_; rintro e w' ⟨rfl, Z2, hZ2, hS2⟩)
    have HF : Hid (∃ Z, MgO T X Y Z ∧ SW enc w0 blk off (E ++ Z ++ S).toArray w') := HEnd.out w' ⟨Z2, hZ2, hS2⟩
    clear hZ2 hS2
    go_end0
    exact ⟨rfl, HF.out⟩
  | false =>
    have hq : ¬ (mid < en ∧ en < b) := of_decide_eq_false HQ.out.symm
    have HE : Hid (MgO T X2 Y2 (X2 ++ Y2)) := HL2.out (by
      by_cases h1 : mid < en
      · exact .inr (List.length_eq_zero_iff.1 (by omega))
      · exact .inl (List.length_eq_zero_iff.1 (by omega)))
    have HF : Hid (∃ Z, MgO T X Y Z ∧ SW enc w0 blk off (E ++ Z ++ S).toArray wc) := HEnd.out wc ⟨X2 ++ Y2, HE.out, by rw [← List.append_assoc]; exact S4.out⟩
    clear g1 g2 g3 g4 g5 g6 g7 g8 g9 g10 g11 g12 g13 hq hzl
    go_wp2_with fail
    go_end0
    exact ⟨rfl, HF.out⟩
set_option maxRecDepth 1000000 in
set_option maxHeartbeats 4000000 in
theorem tail41 (K : KT P) (enc : α → Value) (T : α → α → Prop) (g : Nat) (cb : Array Value) (blk off cap z : Nat) (w0 : World) (a m b mid n st en : Nat) (E X Y X1 X2 Y1 Y2 S : List α) (hz1 : z ≤ 4398046511104) (hbz : b ≤ z)
    (HG : Hid (a ≤ st ∧ st ≤ m ∧ st ≤ mid ∧ m ≤ en ∧ en ≤ b ∧ n = en + st ∧ E.length = a ∧ X1.length = st - a ∧ X2.length = m - st ∧ Y1.length = en - m ∧ Y2.length = b - en ∧ mid + m = n ∧ (E ++ X1 ++ X2 ++ Y1 ++ Y2 ++ S).length = z))
    (HL1 : Hid ((X1 = [] ∨ Y1 = []) → MgO T X1 Y1 (X1 ++ Y1))) (HL2 : Hid ((X2 = [] ∨ Y2 = []) → MgO T X2 Y2 (X2 ++ Y2)))
    (HSP : Hid (∀ Z1 Z2, MgO T X1 Y1 Z1 → MgO T X2 Y2 Z2 → MgO T X Y (Z1 ++ Z2)))
    (HIHa : Hid (∀ (E' S' : List α), SymOK P enc T (.func (.func g) #[] cb) blk off cap z w0 E' X1 Y1 S' ∨ X1 = [] ∨ Y1 = []))
    (HIHb : Hid (∀ (E' S' : List α), SymOK P enc T (.func (.func g) #[] cb) blk off cap z w0 E' X2 Y2 S' ∨ X2 = [] ∨ Y2 = []))
    (HRot : Hid (∀ (E' X' Y' S' : List α) (ia im ib : Int) (wx : World), 0 < X'.length → 0 < Y'.length → ia = (E'.length : Nat) → im = ((E'.length + X'.length : Nat) : Int) → ib = ((E'.length + X'.length + Y'.length : Nat) : Int) → (E' ++ X' ++ Y' ++ S').length = z → SW enc w0 blk off (E' ++ X' ++ Y' ++ S').toArray wx → Calls P 52 #[.slice (some ⟨blk, off, none⟩) z cap, .int .i64 ia, .int .i64 im, .int .i64 ib, .func (.func g) #[] cb] wx fun e w' => e = .returned (.tuple #[]) ∧ SW enc w0 blk off (E' ++ Y' ++ X' ++ S').toArray w'))
    (wc : World) (S3 : Aside (SW enc w0 blk off (E ++ X1 ++ Y1 ++ X2 ++ Y2 ++ S).toArray wc))
    (l5 l6 l7 l8 l9 l10 l11 l12 l13 l14 l15 l16 l17 l19 l21 l22 l23 l25 l26 l27 l28 l29 l30 l31 l32 l33 l34 l35 l36 l37 l38 l39 l40 l41 l42 l43 l44 l45 l46 l47 l48 l49 l50 l51 l52 l53 l54 l55 l56 l57 l58 l59 l60 l61 l62 l63 l64 l65 l66 l67 l68 l69 l70 l71 l72 l73 l74 l75 l76 l77 l78 l79 l80 l81 l82 l83 l84 l85 l86 l87 l88 l89 l90 l91 l92 l93 l94 l95 l96 l97 l98 l99 l100 l101 l102 l103 l104 l105 l106 l107 l108 l109 l110 l111 l112 l113 l114 l115 l116 l117 l118 l119 l120 l121 l122 l123 l124 l125 l126 l127 l128 l129 l130 l131 l132 l133 l134 l135 l136 l137 l138 l139 l140 l141 l142 l143 l144 l145 l146 l147 l148 l149 l150 l151 l152 l153 l154 l155 l156 l157 l158 l159 l160 l161 l162 l163 l164 l165 l166 l167 l168 l169 l170 l171 l172 l173 l174 l175 l176 l177 l178 l179 l180 l181 l182 l183 l184 l185 l186 l187 l188 l189 l190 l191 l192 l193 l194 l195 l196 l197 l198 l199 l200 l201 l202 l203 l204 l205 l206 l207 l208 l209 l210 l211 l212 l213 l214 l215 l216 l217 l218 l219 : Value) :
    Code.wp P tail41C (bodyPost P Tryd.f45 fun e w' => e = .returned (.tuple #[]) ∧ ∃ Z, MgO T X Y Z ∧ SW enc w0 blk off (E ++ Z ++ S).toArray w') ⟨#[.slice (some ⟨blk, off, none⟩) z cap, .int .i64 (a : Int), .int .i64 (m : Int), .int .i64 (b : Int), .func (.func g) #[] cb, l5, l6, l7, l8, l9, l10, l11, l12, l13, l14, l15, l16, l17, .int .i64 (mid : Int), l19, .int .i64 (st : Int), l21, l22, l23, .int .i64 (en : Int), l25, l26, l27, l28, l29, l30, l31, l32, l33, l34, l35, l36, l37, l38, l39, l40, l41, l42, l43, l44, l45, l46, l47, l48, l49, l50, l51, l52, l53, l54, l55, l56, l57, l58, l59, l60, l61, l62, l63, l64, l65, l66, l67, l68, l69, l70, l71, l72, l73, l74, l75, l76, l77, l78, l79, l80, l81, l82, l83, l84, l85, l86, l87, l88, l89, l90, l91, l92, l93, l94, l95, l96, l97, l98, l99, l100, l101, l102, l103, l104, l105, l106, l107, l108, l109, l110, l111, l112, l113, l114, l115, l116, l117, l118, l119, l120, l121, l122, l123, l124, l125, l126, l127, l128, l129, l130, l131, l132, l133, l134, l135, l136, l137, l138, l139, l140, l141, l142, l143, l144, l145, l146, l147, l148, l149, l150, l151, l152, l153, l154, l155, l156, l157, l158, l159, l160, l161, l162, l163, l164, l165, l166, l167, l168, l169, l170, l171, l172, l173, l174, l175, l176, l177, l178, l179, l180, l181, l182, l183, l184, l185, l186, l187, l188, l189, l190, l191, l192, l193, l194, l195, l196, l197, l198, l199, l200, l201, l202, l203, l204, l205, l206, l207, l208, l209, l210, l211, l212, l213, l214, l215, l216, l217, l218, l219], []⟩ wc := by
  have _h0 := hz1; have _h1 := hbz; have _h2 := HL1; have _h3 := HIHa; have _h4 := HRot; have _h5 := HL2; have _h6 := HIHb; have _h7 := HSP; have _h8 := HG
  clear _h0 _h1 _h2 _h3 _h4 _h5 _h6 _h7 _h8
  dsimp only
  conv => arg 2; whnf
  have mixed := K.mixed; have t0 := K.t0; have a0 := K.a0; have z0 := K.z0; have v0 := K.v0; have t3 := K.t3; have a3 := K.a3; have z3 := K.z3; have v3 := K.v3; have t4 := K.t4; have a4 := K.a4; have z4 := K.z4; have v4 := K.v4; have t22 := K.t22; have a22 := K.a22; have z22 := K.z22; have v22 := K.v22; have t79 := K.t79; have a79 := K.a79; have z79 := K.z79; have v79 := K.v79
  have e112 : ∀ args w, (callFunc 52 args).run P w = .ok (.enter 52 args) w := enters_of K.fRo (by kernel_rfl) rfl
  have e95 : ∀ args w, (callFunc 45 args).run P w = .ok (.enter 45 args) w := enters_of K.fSy (by kernel_rfl) rfl
  go_upto_region 41 with fail
  go_cut [199] (fun s wx => (∃ q : Bool, s = .bool q ∧ q = decide (a < st ∧ st < mid)) ∧ wx = wc)
  case first =>
    by_cases h1 : a < st
    · have h1' : (a : Int) < (st : Int) := by omega
      by_cases h2 : st < mid
      · have h2' : (st : Int) < (mid : Int) := by omega
        have hd : decide (a < st ∧ st < mid) = true := decide_eq_true ⟨h1, h2⟩
        go_wp2_with fail
        go_meet
        case rel => exact ⟨⟨true, rfl, hd.symm⟩, rfl⟩
      · have h2' : ¬ (st : Int) < (mid : Int) := by omega
        have hd : decide (a < st ∧ st < mid) = false := decide_eq_false (fun h => h2 h.2)
        go_wp2_with fail
        go_meet
        case rel => exact ⟨⟨false, rfl, hd.symm⟩, rfl⟩
    · have h1' : ¬ (a : Int) < (st : Int) := by omega
      have hd : decide (a < st ∧ st < mid) = false := decide_eq_false (fun h => h1 h.1)
      go_wp2_with fail
      go_meet
      case rel => exact ⟨⟨false, rfl, hd.symm⟩, rfl⟩
  case rest =>
  obtain ⟨⟨q, rfl, hq⟩, rfl⟩ := hcut
  have HQ : Hid (q = decide (a < st ∧ st < mid)) := hq
  clear hq
  go_upto_if 199 with fail
  go_cut [] (fun wx => ∃ Z1, MgO T X1 Y1 Z1 ∧ Aside (SW enc w0 blk off (E ++ Z1 ++ X2 ++ Y2 ++ S).toArray wx))
  case first =>
    obtain ⟨g1, g2, g3, g4, g5, g6, g7, g8, g9, g10, g11, g12, g13⟩ := HG.out
    cases q with
    | true =>
      have hq : a < st ∧ st < mid := of_decide_eq_true HQ.out.symm
      have HCC : Hid (Calls P 45 #[.slice (some ⟨blk, off, none⟩) z cap, .int .i64 (a : Int), .int .i64 (st : Int), .int .i64 (mid : Int), .func (.func g) #[] cb] wc fun e w' => e = .returned (.tuple #[]) ∧ ∃ Z, MgO T X1 Y1 Z ∧ SW enc w0 blk off (E ++ Z ++ (X2 ++ Y2 ++ S)).toArray w') := by
        rcases HIHa.out E (X2 ++ Y2 ++ S) with h | h | h
        · refine h _ _ _ wc (by omega) (by omega) (by omega) ?_ ?_
          · rw [← g13]; simp; omega
          · have := S3.out; rw [show E ++ X1 ++ Y1 ++ (X2 ++ Y2 ++ S) = E ++ X1 ++ Y1 ++ X2 ++ Y2 ++ S by simp]; exact this
        · rw [h] at g8; simp at g8; omega
        · rw [h] at g10; simp at g10; omega
      clear g1 g2 g3 g4 g5 g6 g7 g8 g9 g10 g11 g12 g13 hq
      go_wp2_with (go_at_fn 45; refine HCC.out.mono ?_; rintro e w' ⟨rfl, Z1, hZ1, hS2⟩)
      go_meet
      case rel => exact ⟨Z1, hZ1, by show SW _ _ _ _ _ _; rw [show E ++ Z1 ++ X2 ++ Y2 ++ S = E ++ Z1 ++ (X2 ++ Y2 ++ S) by simp]; exact hS2⟩
    | false =>
      have hq : ¬ (a < st ∧ st < mid) := of_decide_eq_false HQ.out.symm
      have HE : Hid (MgO T X1 Y1 (X1 ++ Y1)) := HL1.out (by
        by_cases h1 : a < st
        · exact .inr (List.length_eq_zero_iff.1 (by omega))
        · exact .inl (List.length_eq_zero_iff.1 (by omega)))
      clear g1 g2 g3 g4 g5 g6 g7 g8 g9 g10 g11 g12 g13 hq
      go_wp2_with fail
      go_meet
      case rel => exact ⟨X1 ++ Y1, HE.out, by show SW _ _ _ _ _ _; rw [show E ++ (X1 ++ Y1) ++ X2 ++ Y2 ++ S = E ++ X1 ++ Y1 ++ X2 ++ Y2 ++ S by simp]; exact S3.out⟩
  case rest =>
  obtain ⟨Z1, hZ1, S4⟩ := hcut
  apply_assumption
  exact tail43 K enc T g cb blk off cap z w0 a m b mid n st en E X Y X1 X2 Y1 Y2 S hz1 hbz HG HL1 HL2 HSP HIHa HIHb HRot wc Z1 hZ1 S4 _ _ _ _ _ _ _ _ _ _ _ _ _ _ _ _ _ _ _ _ _ _ _ _ _ _ _ _ _ _ _ _ _ _ _ _ _ _ _ _ _ _ _ _ _ _ _ _ _ _ _ _ _ _ _ _ _ _ _ _ _ _ _ _ _ _ _ _ _ _ _ _ _ _ _ _ _ _ _ _ _ _ _ _ _ _ _ _ _ _ _ _ _ _ _ _ _ _ _ _ _ _ _ _ _ _ _ _ _ _ _ _ _ _ _ _ _ _ _ _ _ _ _ _ _ _ _ _ _ _ _ _ _ _ _ _ _ _ _ _ _ _ _ _ _ _ _ _ _ _ _ _ _ _ _ _ _ _ _ _ _ _ _ _ _ _ _ _ _ _ _ _ _ _ _ _ _ _ _ _ _ _ _ _ _ _ _ _ _ _ _ _ _ _ _ _ _ _ _ _ _ _ _ _ _ _ _ _ _ _ _ _ _
set_option maxRecDepth 1000000 in
set_option maxHeartbeats 4000000 in
theorem tail38 (K : KT P) (enc : α → Value) (T : α → α → Prop) (g : Nat) (cb : Array Value) (blk off cap z : Nat) (w0 : World) (a m b mid n st en : Nat) (E X Y X1 X2 Y1 Y2 S : List α) (hz1 : z ≤ 4398046511104) (hbz : b ≤ z)
    (HG : Hid (a ≤ st ∧ st ≤ m ∧ st ≤ mid ∧ m ≤ en ∧ en ≤ b ∧ n = en + st ∧ E.length = a ∧ X1.length = st - a ∧ X2.length = m - st ∧ Y1.length = en - m ∧ Y2.length = b - en ∧ mid + m = n ∧ (E ++ X1 ++ X2 ++ Y1 ++ Y2 ++ S).length = z))
    (HL1 : Hid ((X1 = [] ∨ Y1 = []) → MgO T X1 Y1 (X1 ++ Y1))) (HL2 : Hid ((X2 = [] ∨ Y2 = []) → MgO T X2 Y2 (X2 ++ Y2)))
    (HSP : Hid (∀ Z1 Z2, MgO T X1 Y1 Z1 → MgO T X2 Y2 Z2 → MgO T X Y (Z1 ++ Z2)))
    (HIHa : Hid (∀ (E' S' : List α), SymOK P enc T (.func (.func g) #[] cb) blk off cap z w0 E' X1 Y1 S' ∨ X1 = [] ∨ Y1 = []))
    (HIHb : Hid (∀ (E' S' : List α), SymOK P enc T (.func (.func g) #[] cb) blk off cap z w0 E' X2 Y2 S' ∨ X2 = [] ∨ Y2 = []))
    (HRot : Hid (∀ (E' X' Y' S' : List α) (ia im ib : Int) (wx : World), 0 < X'.length → 0 < Y'.length → ia = (E'.length : Nat) → im = ((E'.length + X'.length : Nat) : Int) → ib = ((E'.length + X'.length + Y'.length : Nat) : Int) → (E' ++ X' ++ Y' ++ S').length = z → SW enc w0 blk off (E' ++ X' ++ Y' ++ S').toArray wx → Calls P 52 #[.slice (some ⟨blk, off, none⟩) z cap, .int .i64 ia, .int .i64 im, .int .i64 ib, .func (.func g) #[] cb] wx fun e w' => e = .returned (.tuple #[]) ∧ SW enc w0 blk off (E' ++ Y' ++ X' ++ S').toArray w'))
    (wc : World) (S2 : Aside (SW enc w0 blk off (E ++ X1 ++ X2 ++ Y1 ++ Y2 ++ S).toArray wc))
    (l5 l6 l7 l8 l9 l10 l11 l12 l13 l14 l15 l16 l17 l21 l22 l23 l24 l25 l26 l27 l28 l29 l30 l31 l32 l33 l34 l35 l36 l37 l38 l39 l40 l41 l42 l43 l44 l45 l46 l47 l48 l49 l50 l51 l52 l53 l54 l55 l56 l57 l58 l59 l60 l61 l62 l63 l64 l65 l66 l67 l68 l69 l70 l71 l72 l73 l74 l75 l76 l77 l78 l79 l80 l81 l82 l83 l84 l85 l86 l87 l88 l89 l90 l91 l92 l93 l94 l95 l96 l97 l98 l99 l100 l101 l102 l103 l104 l105 l106 l107 l108 l109 l110 l111 l112 l113 l114 l115 l116 l117 l118 l119 l120 l121 l122 l123 l124 l125 l126 l127 l128 l129 l130 l131 l132 l133 l134 l135 l136 l137 l138 l139 l140 l141 l142 l143 l144 l145 l146 l147 l148 l149 l150 l151 l152 l153 l154 l155 l156 l157 l158 l159 l160 l161 l162 l163 l164 l165 l166 l167 l168 l169 l170 l171 l172 l173 l174 l175 l176 l177 l178 l179 l180 l181 l182 l183 l184 l185 l186 l187 l188 l189 l190 l191 l192 l193 l194 l195 l196 l197 l198 l199 l200 l201 l202 l203 l204 l205 l206 l207 l208 l209 l210 l211 l212 l213 l214 l215 l216 l217 l218 l219 : Value) :
    Code.wp P tail38C (bodyPost P Tryd.f45 fun e w' => e = .returned (.tuple #[]) ∧ ∃ Z, MgO T X Y Z ∧ SW enc w0 blk off (E ++ Z ++ S).toArray w') ⟨#[.slice (some ⟨blk, off, none⟩) z cap, .int .i64 (a : Int), .int .i64 (m : Int), .int .i64 (b : Int), .func (.func g) #[] cb, l5, l6, l7, l8, l9, l10, l11, l12, l13, l14, l15, l16, l17, .int .i64 (mid : Int), .int .i64 (n : Int), .int .i64 (st : Int), l21, l22, l23, l24, l25, l26, l27, l28, l29, l30, l31, l32, l33, l34, l35, l36, l37, l38, l39, l40, l41, l42, l43, l44, l45, l46, l47, l48, l49, l50, l51, l52, l53, l54, l55, l56, l57, l58, l59, l60, l61, l62, l63, l64, l65, l66, l67, l68, l69, l70, l71, l72, l73, l74, l75, l76, l77, l78, l79, l80, l81, l82, l83, l84, l85, l86, l87, l88, l89, l90, l91, l92, l93, l94, l95, l96, l97, l98, l99, l100, l101, l102, l103, l104, l105, l106, l107, l108, l109, l110, l111, l112, l113, l114, l115, l116, l117, l118, l119, l120, l121, l122, l123, l124, l125, l126, l127, l128, l129, l130, l131, l132, l133, l134, l135, l136, l137, l138, l139, l140, l141, l142, l143, l144, l145, l146, l147, l148, l149, l150, l151, l152, l153, l154, l155, l156, l157, l158, l159, l160, l161, l162, l163, l164, l165, l166, l167, l168, l169, l170, l171, l172, l173, l174, l175, l176, l177, l178, l179, l180, l181, l182, l183, l184, l185, l186, l187, l188, l189, l190, l191, l192, l193, l194, l195, l196, l197, l198, l199, l200, l201, l202, l203, l204, l205, l206, l207, l208, l209, l210, l211, l212, l213, l214, l215, l216, l217, l218, l219], []⟩ wc := by
  have _h0 := hz1; have _h1 := hbz; have _h2 := HL1; have _h3 := HIHa; have _h4 := HRot; have _h5 := HL2; have _h6 := HIHb; have _h7 := HSP; have _h8 := HG
  clear _h0 _h1 _h2 _h3 _h4 _h5 _h6 _h7 _h8
  dsimp only
  conv => arg 2; whnf
  have mixed := K.mixed; have t0 := K.t0; have a0 := K.a0; have z0 := K.z0; have v0 := K.v0; have t3 := K.t3; have a3 := K.a3; have z3 := K.z3; have v3 := K.v3; have t4 := K.t4; have a4 := K.a4; have z4 := K.z4; have v4 := K.v4; have t22 := K.t22; have a22 := K.a22; have z22 := K.z22; have v22 := K.v22; have t79 := K.t79; have a79 := K.a79; have z79 := K.z79; have v79 := K.v79
  have e112 : ∀ args w, (callFunc 52 args).run P w = .ok (.enter 52 args) w := enters_of K.fRo (by kernel_rfl) rfl
  have e95 : ∀ args w, (callFunc 45 args).run P w = .ok (.enter 45 args) w := enters_of K.fSy (by kernel_rfl) rfl
  have heni : (n : Int) - (st : Int) = (en : Int) := by have := HG.out.2.2.2.2.2.1; omega
  have hwe : IntKind.i64.wrap (en : Int) = (en : Int) := by have := HG.out.2.2.2.2.1; rw [IntKind.wrap_i64]; omega
  go_upto_region 39 with fail
  go_cut [185] (fun s wx => (∃ q : Bool, s = .bool q ∧ q = decide (st < m ∧ m < en)) ∧ wx = wc)
  case first =>
    by_cases h1 : st < m
    · have h1' : (st : Int) < (m : Int) := by omega
      by_cases h2 : m < en
      · have h2' : (m : Int) < (en : Int) := by omega
        have hd : decide (st < m ∧ m < en) = true := decide_eq_true ⟨h1, h2⟩
        go_wp2_with fail
        go_meet
        case rel => exact ⟨⟨true, rfl, hd.symm⟩, rfl⟩
      · have h2' : ¬ (m : Int) < (en : Int) := by omega
        have hd : decide (st < m ∧ m < en) = false := decide_eq_false (fun h => h2 h.2)
        go_wp2_with fail
        go_meet
        case rel => exact ⟨⟨false, rfl, hd.symm⟩, rfl⟩
    · have h1' : ¬ (st : Int) < (m : Int) := by omega
      have hd : decide (st < m ∧ m < en) = false := decide_eq_false (fun h => h1 h.1)
      go_wp2_with fail
      go_meet
      case rel => exact ⟨⟨false, rfl, hd.symm⟩, rfl⟩
  case rest =>
  obtain ⟨⟨q, rfl, hq⟩, rfl⟩ := hcut
  have HQ : Hid (q = decide (st < m ∧ m < en)) := hq
  clear hq
  go_upto_if 185 with fail
  go_cut [] (fun wx => Aside (SW enc w0 blk off (E ++ X1 ++ Y1 ++ X2 ++ Y2 ++ S).toArray wx))
  case first =>
    obtain ⟨g1, g2, g3, g4, g5, g6, g7, g8, g9, g10, g11, g12, g13⟩ := HG.out
    cases q with
    | true =>
      have hq : st < m ∧ m < en := of_decide_eq_true HQ.out.symm
      have HCC : Hid (Calls P 52 #[.slice (some ⟨blk, off, none⟩) z cap, .int .i64 (st : Int), .int .i64 (m : Int), .int .i64 (en : Int), .func (.func g) #[] cb] wc fun e w' => e = .returned (.tuple #[]) ∧ SW enc w0 blk off (E ++ X1 ++ Y1 ++ X2 ++ (Y2 ++ S)).toArray w') := HRot.out (E ++ X1) X2 Y1 (Y2 ++ S) _ _ _ wc (by omega) (by omega) (by rw [List.length_append]; omega) (by rw [List.length_append]; omega) (by rw [List.length_append]; omega) (by rw [← List.append_assoc]; exact g13) (by rw [← List.append_assoc]; exact S2.out)
      clear g1 g2 g3 g4 g5 g6 g7 g8 g9 g10 g11 g12 g13 hq
      go_wp2_with (go_at_fn 52; refine HCC.out.mono ?_; rintro e w' ⟨rfl, hS2⟩)
      go_meet
      case rel => show SW _ _ _ _ _ _; rw [← List.append_assoc] at hS2; exact hS2
    | false =>
      have hq : ¬ (st < m ∧ m < en) := of_decide_eq_false HQ.out.symm
      have HE : Hid (E ++ X1 ++ Y1 ++ X2 ++ Y2 ++ S = E ++ X1 ++ X2 ++ Y1 ++ Y2 ++ S) := by
        show _ = _
        by_cases h1 : st < m
        · have e : Y1 = [] := List.length_eq_zero_iff.1 (by omega)
          rw [e]; simp
        · have e : X2 = [] := List.length_eq_zero_iff.1 (by omega)
          rw [e]; simp
      clear g1 g2 g3 g4 g5 g6 g7 g8 g9 g10 g11 g12 g13 hq
      go_wp2_with fail
      go_meet
      case rel => show SW _ _ _ _ _ _; rw [HE.out]; exact S2.out
  case rest =>
  have S3 := hcut
  apply_assumption
  exact tail41 K enc T g cb blk off cap z w0 a m b mid n st en E X Y X1 X2 Y1 Y2 S hz1 hbz HG HL1 HL2 HSP HIHa HIHb HRot wc S3 _ _ _ _ _ _ _ _ _ _ _ _ _ _ _ _ _ _ _ _ _ _ _ _ _ _ _ _ _ _ _ _ _ _ _ _ _ _ _ _ _ _ _ _ _ _ _ _ _ _ _ _ _ _ _ _ _ _ _ _ _ _ _ _ _ _ _ _ _ _ _ _ _ _ _ _ _ _ _ _ _ _ _ _ _ _ _ _ _ _ _ _ _ _ _ _ _ _ _ _ _ _ _ _ _ _ _ _ _ _ _ _ _ _ _ _ _ _ _ _ _ _ _ _ _ _ _ _ _ _ _ _ _ _ _ _ _ _ _ _ _ _ _ _ _ _ _ _ _ _ _ _ _ _ _ _ _ _ _ _ _ _ _ _ _ _ _ _ _ _ _ _ _ _ _ _ _ _ _ _ _ _ _ _ _ _ _ _ _ _ _ _ _ _ _ _ _ _ _ _ _ _ _ _ _ _ _ _ _ _ _ _
end Go.Proofs.YtehamdkjdbaceaaDoor.so

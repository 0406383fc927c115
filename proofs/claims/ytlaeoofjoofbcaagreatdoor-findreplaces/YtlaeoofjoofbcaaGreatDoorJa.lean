/-
  DERIVED: THE SHELF's CONTRACTS AT THIS DUMP, IN PLAIN WORDS (tools/lay-plain.mjs out of 'YtlaeoofjoofbcaaGreatDoorShc.lean', which tools/lay-shelf.mjs wrote): THE SAME DECLARATIONS UNDER THE SAME NAMES: 'import', 'namespace', 'open', 'def', 'theorem' AND NOTHING ELSE: no command of the shelf's: FOR A HAND-IN. Each laying: the table of numbers ('.._ren') and one theorem, a field a fact of the dump's own or the kernel's comparison; each contract: ONE APPLICATION.
-/
import Derived.Test.YtlaeoofjoofbcaaGreatDoorRows
import Derived.WalkKit
import Derived.ProofKit
import Derived.WalkSpells
import Derived.WalkLawsBesides
import Derived.Below
import Derived.Lib.Bytealg
import Derived.Lib.Walk
import Derived.Deep.DeepCutAuto
import Derived.Deep.RegionHeld3
import Derived.Sort.Grow
import Derived.OwnWalk
import Derived.Deep.AppendLies
import Derived.Deep.RegionHeldLaw
import Derived.Deep.CutBlock
import Derived.Lib.AppendStr
import Derived.Laws.BytesString
import Derived.BigQuiet
import Derived.Lib.CountLaws
import Derived.Lib.Replace
import Derived.Deep.WholeRow
import Derived.Deep.MidRow
import Derived.Shelf.Strings.Builder1
import Derived.Shelf.Strings.Builder2
import Derived.Shelf.Strings.BuilderF
import Derived.Shelf.Strings.BuilderK
import Derived.Shelf.Utf8.RuneCount
import Derived.Shelf.Strconv.Atoi
import Derived.Shelf.Strconv.Itoa0
import Derived.Shelf.Strconv.Itoa1
import Derived.Shelf.LaysM
import Derived.Shelf.Strconv.Itoa2
import Derived.Shelf.Strconv.Itoa3
import Derived.Shelf.Strconv.AtoiErrFast
import Derived.Shelf.Strconv.ParseIntEmpty
import Derived.Shelf.Strconv.AtoiFail
import Derived.Shelf.Strconv.Clone
import Derived.Shelf.Strconv.SyntaxError
import Derived.Shelf.LaysC
import Derived.Shelf.Strconv.ToError
import Derived.Shelf.Strconv.Lower
import Derived.Shelf.Strconv.ParseUint10
import Derived.Shelf.Strconv.ParseUint10Empty
import Derived.Shelf.Strconv.ParseUint10Any
import Derived.Shelf.Strconv.ParseInt10
import Derived.Shelf.Strconv.AtoiLong
import Derived.Shelf.Strconv.AtoiInnerAll
import Derived.Shelf.Strconv.RangeError
import Derived.Shelf.Strconv.ToErrorRange
import Derived.Shelf.Strconv.AtoiAll
import Derived.Shelf.Strconv.ErrVarAll
import Derived.Shelf.Strings.Search1
import Derived.Shelf.Strings.Search2
import Derived.Shelf.Strings.Search3
import Derived.Shelf.Strings.Cut
import Derived.Shelf.Strings.Count
import Derived.Shelf.Strings.Shaped
import Derived.Shelf.Strings.Prefix
import Derived.Shelf.Strings.Split
import Derived.Shelf.Strings.Replace
import Derived.Shelf.Strings.SplitShaped
import Derived.Shelf.Unicode.Decode
import Derived.Shelf.Strings.RuneCount
import Derived.Shelf.Unicode.DecodeSlow
import Derived.Shelf.Unicode.DecodeAny
import Derived.Ground.Names2Prog
import Derived.Shelf.Slices.SearchI
import Derived.Test.YtlaeoofjoofbcaaGreatDoorProg

/- Bytes that grow, and texts made of them. Nothing is walked here. Conditions: as each theorem says. -/
namespace Go.Proofs.YtlaeoofjoofbcaaGreatDoor.fw
open Go.RowKit Go.Sort Go.Lib
def Hid (P : Prop) : Prop := P
theorem Hid.out {P : Prop} (h : Hid P) : P := h
abbrev nul : ByteArray := { data := #[] }
abbrev Bw (w w' : World) : Prop := Below w.heap.size w w'
theorem bnext {B : Nat} {w x y : World} (h : Below B w x) (h2 : Below x.heap.size x y) (hB : B ≤ x.heap.size) : Below B w y := h.trans (h2.mono hB)
theorem Bw.al (w : World) (o : Obj) : Bw w (w.alloc o) := (Below.refl _ _).alloc (Nat.le_refl _) _
theorem Bw.tr {a b c : World} (h : Bw a b) (h2 : Bw b c) : Bw a c := bnext h h2 h.size
theorem own_next {w : World} {base n t s : Nat} {v : Value} {xs : List Value} (h : w.ownsRow base t s v n xs) {w' : World} (hb : Bw w w') : w'.ownsRow base t s v n xs := by
  obtain ⟨h0, h | ⟨g, cap, cur, h1, h2, h3, h4⟩⟩ := h
  · exact ⟨h0, Or.inl h⟩
  · exact ⟨h0, Or.inr ⟨g, cap, cur, h1, h2, by rw [hb.block g (Array.getElem?_eq_some_iff.1 h3).1]; exact h3, h4⟩⟩
theorem info5 : (Tryz.prog.info? 5).map (fun i => (i.zero, i.size, i.bytes)) = some (some (.int .u8 0), 1, 1) := by kernel_rfl
theorem info_parts {t : TypeId} {z : Value} {s b : Nat} (h : (Tryz.prog.info? t).map (fun i => (i.zero, i.size, i.bytes)) = some (some z, s, b)) : ∃ i, Tryz.prog.info? t = some i ∧ i.zero = some z ∧ i.size = s ∧ i.bytes = b := by
  cases e : Tryz.prog.info? t with
  | none => rw [e] at h; cases h
  | some i =>
    rw [e] at h
    simp only [Option.map_some, Option.some.injEq, Prod.mk.injEq] at h
    exact ⟨i, rfl, h.1, h.2.1, h.2.2⟩
/-- An append whose run is known. -/
theorem wpList_append_eq {P : Program} {w : World} {ops : Array Oper} {rest : List Oper} {o : Oper} {a : Act} {Q : Exit → Act → World → Prop} (hgd : o.guard = none) (s x : Go.Operand) (t u : TypeId)
    (ho : o.op = .call { callee := .builtin .append, args := #[s, x], argTypes := #[t, u] }) (v y v' : Value) (w' : World) (hs : a.eval s = v) (hx : a.eval x = y)
    (hr : (Builtin.append_ #[t, u] o.type #[v, y]).run P w = .ok v' w') (h : wpList P ops Q rest (a.put o.dst v') w') : wpList P ops Q (o :: rest) a w :=
  wpList_plain hgd fun _ hK => by
    unfold Oper.wp execOp
    simp only [ho, resolve, invoke, builtin, Sem.run_bind, Sem.run_pure, Result.andThen_ok, List.map_toArray, List.map_cons, List.map_nil, hs, hx, hr]
    exact hK _ _ h
def bys (l : List UInt8) : List Value := l.map fun b => .int .u8 (b.toNat : Int)
/-- A list of bytes of one's own, and all that stood stands. -/
structure BV (w : World) (v : Value) (xs : List UInt8) (wx : World) : Prop where
  own : wx.ownsRow w.heap.size 5 1 v xs.length (bys xs)
  below : Bw w wx
theorem BV.nil (w : World) : BV w (.slice none 0 0) [] w := ⟨⟨rfl, .inl ⟨rfl, rfl⟩⟩, Below.refl _ _⟩
theorem BV.next {w : World} {v : Value} {xs : List UInt8} {wx wy : World} (h : BV w v xs wx) (hb : Bw wx wy) : BV w v xs wy := ⟨own_next h.own hb, h.below.tr hb⟩
theorem BV.form {w : World} {v : Value} {xs : List UInt8} {wx : World} (h : BV w v xs wx) : ∃ p c, v = .slice p xs.length c ∧ ((xs.length = 0 ∧ p = none ∧ c = 0) ∨ ∃ g, p = some ⟨g, 0, none⟩ ∧ xs.length ≤ c) := by
  rcases h.own.2 with ⟨rfl, h0⟩ | ⟨g, cap, cur, rfl, -, -, hc, -⟩
  · exact ⟨none, 0, by rw [h0], .inl ⟨h0, rfl, rfl⟩⟩
  · exact ⟨_, _, rfl, .inr ⟨g, rfl, hc⟩⟩
theorem BV.one {w : World} {v : Value} {xs : List UInt8} {wx : World} (h : BV w v xs wx) (hl : xs.length < 140737488355328) (y : UInt8) :
    ∃ g c w', (Builtin.append_ #[50, 50] 50 #[v, .slice (some ⟨wx.heap.size, 0, none⟩) 1 1]).run Tryz.prog (wx.alloc (.cells #[.int .u8 (y.toNat : Int)] 5)) = .ok (.slice (some ⟨g, 0, none⟩) (xs.length + 1) c) w' ∧ BV w (.slice (some ⟨g, 0, none⟩) (xs.length + 1) c) (xs ++ [y]) w' := by
  obtain ⟨i0, hi, hz0, hz1, hz2⟩ := info_parts info5
  have hmax : maxLen = 9223372036854775807 := rfl
  have h1 := h.next (Bw.al wx (.cells #[.int .u8 (y.toNat : Int)] 5))
  obtain ⟨g, c, w', r1, r2, r3, -, -⟩ := run_append_lies (P := Tryz.prog) (w := wx.alloc (.cells #[.int .u8 (y.toNat : Int)] 5)) 50 50 w.heap.size 5 i0 (.int .u8 0) 1 1 Tryz.underlying50 hi hz0 hz1 hz2 rfl (by decide) v xs.length (bys xs) h1.own ⟨wx.heap.size, 0, none⟩ 1 1 [.int .u8 (y.toNat : Int)] rfl (World.news_of_block (heap_alloc_new wx _)) (by simp [Value.oneCell']) (by decide) (by omega) (by omega) h1.below.size _ rfl
  refine ⟨g, c, w', r1, ⟨?_, h1.below.grown r3 h1.below.size (fun q hq => (h1.own.lt q hq).1)⟩⟩
  have e : bys (xs ++ [y]) = bys xs ++ [.int .u8 (y.toNat : Int)] := by simp [bys]
  rw [e, List.length_append]
  exact r2
theorem strCells_bys (s : ByteArray) : strCells s = bys s.toList := by
  unfold strCells bys
  rw [ByteArray.toList_eq]
theorem size_list (s : ByteArray) : s.toList.length = s.size := by rw [ByteArray.toList_eq]; rfl
theorem BV.str {w : World} {v : Value} {xs : List UInt8} {wx : World} (h : BV w v xs wx) (s : ByteArray) (hl : xs.length + s.size ≤ 140737488355328) :
    ∃ v' w', (Builtin.append_ #[50, 9] 50 #[v, .string s]).run Tryz.prog wx = .ok v' w' ∧ BV w v' (xs ++ s.toList) w' := by
  obtain ⟨i0, hi, hz0, hz1, hz2⟩ := info_parts info5
  have hmax : maxLen = 9223372036854775807 := rfl
  obtain ⟨v', w', r1, r2, r3, -⟩ := run_append_own_string (P := Tryz.prog) (w := wx) w.heap.size 50 9 50 5 i0 Tryz.underlying50 Tryz.underlying9 hi hz0 hz1 hz2 v xs.length (bys xs) h.own s (by omega) hl h.below.size
  refine ⟨v', w', r1, ⟨?_, h.below.grown r3 h.below.size (fun q hq => (h.own.lt q hq).1)⟩⟩
  have e : bys (xs ++ s.toList) = bys xs ++ strCells s := by rw [strCells_bys]; simp [bys]
  rw [e, List.length_append, size_list]
  exact r2
/-- The text of some bytes. -/
def txt (l : List UInt8) : ByteArray := ⟨l.toArray⟩
theorem BV.text {w : World} {xs : List UInt8} {wx : World} {g n c : Nat} (h : BV w (.slice (some ⟨g, 0, none⟩) n c) xs wx) (k c' : Nat) (hk : k ≤ xs.length) :
    (convert 50 9 (.slice (some ⟨g, 0, none⟩) k c')).run Tryz.prog wx = .ok (.string (txt (xs.take k))) wx := by
  have hlk : (xs.take k).length = k := by rw [List.length_take]; omega
  have h1 := run_convert_bytes_back (P := Tryz.prog) wx 50 9 5 ⟨g, 0, none⟩ c' (xs.take k) Tryz.underlying50 Tryz.underlying5 Tryz.underlying9 (fun j hj => by
    refine World.ownsRow.cells h.own (g := g) rfl j _ ?_
    unfold bys
    rw [hlk] at hj
    rw [List.getElem?_map, List.getElem?_eq_getElem (by omega), List.getElem_take]
    rfl)
  rw [hlk] at h1
  exact h1
theorem nil_text (wx : World) : (convert 50 9 (.slice none 0 0)).run Tryz.prog wx = .ok (.string nul) wx := by
  rw [run_convert_bytes_string wx 50 9 5 none 0 0 Tryz.underlying50 Tryz.underlying5 Tryz.underlying9]
  simp [Conv.bytesToString]
  rfl
end Go.Proofs.YtlaeoofjoofbcaaGreatDoor.fw

/- The document's Count: how often a part stands in a text, and the text with another one in its place, walked. Conditions: as each theorem says. -/
namespace Go.Proofs.YtlaeoofjoofbcaaGreatDoor.fw
open Go.RowKit Go.Sort
/-- How often a part stands in a text, none over another one, and the text with another one in its place. -/
def cntL (p b : List UInt8) : List UInt8 → Nat × List UInt8
  | [] => (0, [])
  | c :: s => if _h : p.isPrefixOf (c :: s) = true ∧ p ≠ [] then ((cntL p b ((c :: s).drop p.length)).1 + 1, b ++ (cntL p b ((c :: s).drop p.length)).2)
    else ((cntL p b s).1, c :: (cntL p b s).2)
termination_by s => s.length
decreasing_by
  · have : 0 < p.length := List.length_pos_iff.2 _h.2
    simp
    omega
  · simp
theorem cnt_nil (p b : List UInt8) : cntL p b [] = (0, []) := by unfold cntL; rfl
theorem cnt_yes {p b s : List UInt8} (h : p.isPrefixOf s = true) (hp : p ≠ []) : cntL p b s = ((cntL p b (s.drop p.length)).1 + 1, b ++ (cntL p b (s.drop p.length)).2) := by
  cases s with
  | nil =>
    cases p with
    | nil => exact absurd rfl hp
    | cons a p => simp at h
  | cons c s =>
    conv => lhs; unfold cntL
    rw [dif_pos ⟨h, hp⟩]
theorem cnt_no {p b s : List UInt8} {c : UInt8} (h : p.isPrefixOf (c :: s) = false) : cntL p b (c :: s) = ((cntL p b s).1, c :: (cntL p b s).2) := by
  conv => lhs; unfold cntL
  rw [dif_neg (fun x => by rw [h] at x; cases x.1)]
theorem cnt_le (p b : List UInt8) : ∀ (k : Nat) (s : List UInt8), s.length ≤ k → (cntL p b s).1 ≤ s.length ∧ (cntL p b s).2.length ≤ s.length * (b.length + 1) := by
  intro k
  induction k with
  | zero => intro s hs; have : s = [] := List.eq_nil_of_length_eq_zero (by omega); subst this; rw [cnt_nil]; simp
  | succ k ih =>
    intro s hs
    cases s with
    | nil => rw [cnt_nil]; simp
    | cons c s =>
      by_cases h : p.isPrefixOf (c :: s) = true ∧ p ≠ []
      · rw [cnt_yes h.1 h.2]
        have hp : 0 < p.length := List.length_pos_iff.2 h.2
        have h1 := ih ((c :: s).drop p.length) (by rw [List.length_drop]; simp at hs ⊢; omega)
        have hl : ((c :: s).drop p.length).length ≤ s.length := by rw [List.length_drop]; simp; omega
        have h3 : ((c :: s).drop p.length).length * (b.length + 1) ≤ s.length * (b.length + 1) := Nat.mul_le_mul_right _ hl
        refine ⟨by simp; omega, ?_⟩
        simp only [List.length_append, List.length_cons, Nat.add_mul, Nat.one_mul] at h1 h3 ⊢
        omega
      · have h2 : cntL p b (c :: s) = ((cntL p b s).1, c :: (cntL p b s).2) := by
          conv => lhs; unfold cntL
          rw [dif_neg h]
        rw [h2]
        have h1 := ih s (by simp at hs; omega)
        refine ⟨by simp; omega, ?_⟩
        simp only [List.length_cons, Nat.add_mul, Nat.one_mul]
        omega
theorem pre_ext {s p : ByteArray} {i : Nat} : ((s.extract i (i + p.size)).toList == p.toList) = p.toList.isPrefixOf (s.toList.drop i) := by
  have e : (s.extract i (i + p.size)).toList = (s.toList.drop i).take p.size := by
    rw [ByteArray.toList_eq, ByteArray.toList_eq]
    simp
  rw [e, Bool.eq_iff_iff, beq_iff_eq, List.isPrefixOf_iff_prefix, List.prefix_iff_eq_take, size_list]
  exact ⟨fun h => h.symm, fun h => h.symm⟩
theorem pre_long {s p : ByteArray} {i : Nat} (h : ¬ i + p.size ≤ s.size) (hi : i ≤ s.size) : p.toList.isPrefixOf (s.toList.drop i) = false := by
  rw [Bool.eq_false_iff]
  intro e
  rw [List.isPrefixOf_iff_prefix] at e
  have := e.length_le
  rw [List.length_drop, size_list, size_list] at this
  omega
/-- How far a text is read. -/
def CN (s p b R : List UInt8) (N : Nat) (i n : Nat) (X : List UInt8) : Prop := n + (cntL p b (s.drop i)).1 = N ∧ X ++ (cntL p b (s.drop i)).2 = R
set_option maxRecDepth 1000000 in
set_option maxHeartbeats 8000000 in
theorem rcount_any (s p b : ByteArray) (w : World) (hs : s.size ≤ 200) (hp : p.size ≤ 140737488355328) (hp0 : 0 < p.size) (hb : b.size ≤ 200) :
    Calls Tryz.prog 7 #[.string s, .string p, .string b] w fun e w' => e = .returned (.tuple #[.int .i64 ((cntL p.toList b.toList s.toList).1 : Int), .string (txt (cntL p.toList b.toList s.toList).2)]) ∧ Bw w w' := by
  have hle := cnt_le p.toList b.toList s.toList.length s.toList (Nat.le_refl _)
  have hpne : p.toList ≠ [] := by intro e; have := size_list p; rw [e] at this; simp at this; omega
  obtain ⟨N, hN⟩ : ∃ N, (cntL p.toList b.toList s.toList).1 = N := ⟨_, rfl⟩
  obtain ⟨R, hR⟩ : ∃ R, (cntL p.toList b.toList s.toList).2 = R := ⟨_, rfl⟩
  have HS0 : Hid (CN s.toList p.toList b.toList R N 0 0 []) := ⟨by simp [hN], by simp [hR]⟩
  have hN200 : N ≤ 200 := by rw [← hN]; have := size_list s; omega
  have hRL : R.length ≤ 100000 := by
    rw [← hR]
    refine Nat.le_trans hle.2 ?_
    rw [size_list, size_list]
    have : s.size * (b.size + 1) ≤ 200 * 201 := Nat.mul_le_mul hs (by omega)
    omega
  rw [hN, hR]
  clear hle hN hR
  have HPN : Hid (p.toList ≠ []) := hpne
  clear hpne
  go_enter Tryz.func7, Tryz.ntmps7
  go_wp2_with fail
  go_loopw [8, 9, 10] (fun s8 s9 s10 wr => ∃ (i n : Nat) (X : List UInt8), s10 = .int .i64 (i : Int) ∧ s8 = .int .i64 (n : Int) ∧ i ≤ s.size ∧ n ≤ 200 ∧ Hid (CN s.toList p.toList b.toList R N i n X) ∧ Hid (BV w s9 X wr) ∧ X.length ≤ 100000) (fun _ _ s10 _ => s.size - (intOf s10).toNat)
  case atStart => exact ⟨0, 0, [], rfl, rfl, Nat.zero_le _, Nat.zero_le _, HS0, BV.nil w, by simp⟩
  case round =>
    obtain ⟨i, n, X, rfl, rfl, hi, hn, HC, HV, hX⟩ := hrel
    obtain ⟨pp, cc, e9, hform⟩ := HV.out.form
    subst e9
    by_cases hlt : i < s.size
    · have hlt' : (i : Int) < (s.size : Int) := by omega
      have hi0 : (0 : Int) ≤ (i : Int) := by omega
      have hat : s.toList[i]? = some s[i] := by
        rw [ByteArray.toList_eq, Array.getElem?_toList]
        exact Array.getElem?_eq_getElem hlt
      have hdr : s.toList.drop i = s[i] :: s.toList.drop (i + 1) := by
        rw [List.drop_eq_getElem_cons (by rw [size_list]; exact hlt)]
        congr 1
        exact (List.getElem?_eq_some_iff.1 hat).2
      cases hq : p.toList.isPrefixOf (s.toList.drop i) with
      | true =>
        have hle2 : i + p.size ≤ s.size := by
          rcases Nat.lt_or_ge s.size (i + p.size) with h | h
          · rw [pre_long (by omega) hi] at hq; cases hq
          · exact h
        have hx := pre_ext (s := s) (p := p) (i := i)
        rw [hq] at hx
        have hcs := cnt_yes (b := b.toList) hq HPN.out
        have HC2 : Hid (CN s.toList p.toList b.toList R N (i + p.size) (n + 1) (X ++ b.toList)) := by
          obtain ⟨c1, c2⟩ := HC.out
          rw [hcs] at c1 c2
          rw [List.drop_drop, size_list] at c1 c2
          exact ⟨by simp only at c1; omega, by rw [← c2]; simp⟩
        have hXL : (X ++ b.toList).length ≤ 100000 := by have := HC2.out.2; rw [← this] at hRL; simp at hRL ⊢; omega
        have hn2 : n + 1 ≤ 200 := by have := HC2.out.1; omega
        obtain ⟨v4, w4, hr4, hV4⟩ := HV.out.str b (by omega)
        have HR4 : Hid ((Builtin.append_ #[50, 9] 50 #[.slice pp X.length cc, .string b]).run Tryz.prog wr = .ok v4 w4) := hr4
        have HV4 : Hid (BV w v4 (X ++ b.toList) w4) := hV4
        have h1 : (i : Int) + (p.size : Int) ≤ (s.size : Int) := by omega
        have h2 : (0 : Int) ≤ (i : Int) + (p.size : Int) := by omega
        have h3 : (i : Int) ≤ (i : Int) + (p.size : Int) := by omega
        clear hr4 hV4 HV HC hcs hat hdr hq hform
        generalize X.length = xl at *
        go_wp2_with (first | (at_builtin; refine wpList_append_eq rfl _ _ 50 9 rfl _ _ _ _ rfl rfl HR4.out ?_))
        exact ⟨⟨i + p.size, n + 1, X ++ b.toList, by congr 1, rfl, hle2, hn2, HC2, HV4, hXL⟩, by simp [intOf]; omega⟩
      | false =>
        have HC2 : Hid (CN s.toList p.toList b.toList R N (i + 1) n (X ++ [s[i]])) := by
          obtain ⟨c1, c2⟩ := HC.out
          rw [hdr] at hq c1 c2
          rw [cnt_no hq] at c1 c2
          exact ⟨c1, by rw [← c2]; simp⟩
        have hXL : (X ++ [s[i]]).length ≤ 100000 := by have := HC2.out.2; rw [← this] at hRL; simp at hRL ⊢; omega
        by_cases hle2 : i + p.size ≤ s.size
        · have hx := pre_ext (s := s) (p := p) (i := i)
          rw [hq] at hx
          have h1 : (i : Int) + (p.size : Int) ≤ (s.size : Int) := by omega
          have h2 : (0 : Int) ≤ (i : Int) + (p.size : Int) := by omega
          have h3 : (i : Int) ≤ (i : Int) + (p.size : Int) := by omega
          obtain ⟨g2, c2, w3, hr, hV3⟩ := HV.out.one (by omega) s[i]
          have HV3 : Hid (BV w (.slice (some ⟨g2, 0, none⟩) (X.length + 1) c2) (X ++ [s[i]]) w3) := hV3
          have HRR : Hid ((Builtin.append_ #[50, 50] 50 #[.slice pp X.length cc, .slice (some ⟨wr.heap.size, 0, none⟩) 1 1]).run Tryz.prog (wr.alloc (.cells #[.int .u8 (s[i].toNat : Int)] 5)) = .ok (.slice (some ⟨g2, 0, none⟩) (X.length + 1) c2) w3) := hr
          clear hr hV3 HV HC hat hdr hq hform
          generalize X.length = xl at *
          go_wp2_with (first | (at_builtin; refine wpList_append_eq rfl _ _ 50 50 rfl _ _ _ _ rfl rfl HRR.out ?_))
          exact ⟨⟨i + 1, n, X ++ [s[i]], rfl, rfl, hlt, hn, HC2, HV3, hXL⟩, by simp [intOf]; omega⟩
        · have h1 : ¬ (i : Int) + (p.size : Int) ≤ (s.size : Int) := by omega
          obtain ⟨g2, c2, w3, hr, hV3⟩ := HV.out.one (by omega) s[i]
          have HV3 : Hid (BV w (.slice (some ⟨g2, 0, none⟩) (X.length + 1) c2) (X ++ [s[i]]) w3) := hV3
          have HRR : Hid ((Builtin.append_ #[50, 50] 50 #[.slice pp X.length cc, .slice (some ⟨wr.heap.size, 0, none⟩) 1 1]).run Tryz.prog (wr.alloc (.cells #[.int .u8 (s[i].toNat : Int)] 5)) = .ok (.slice (some ⟨g2, 0, none⟩) (X.length + 1) c2) w3) := hr
          clear hr hV3 HV HC hat hdr hq hform
          generalize X.length = xl at *
          go_wp2_with (first | (at_builtin; refine wpList_append_eq rfl _ _ 50 50 rfl _ _ _ _ rfl rfl HRR.out ?_))
          exact ⟨⟨i + 1, n, X ++ [s[i]], rfl, rfl, hlt, hn, HC2, HV3, hXL⟩, by simp [intOf]; omega⟩
    · have hlt' : ¬ (i : Int) < (s.size : Int) := by omega
      have hd0 : s.toList.drop i = [] := by rw [List.drop_eq_nil_iff, size_list]; omega
      have hC := HC.out
      unfold CN at hC
      rw [hd0, cnt_nil] at hC
      have hn1 : n = N := by simpa using hC.1
      have hX1 : X = R := by simpa using hC.2
      have HCV : ∀ m, (convert 50 9 (.slice pp X.length cc)).run Tryz.prog (wr.drewN m) = .ok (.string (txt X)) (wr.drewN m) := fun m => by
        rcases hform with ⟨h0, rfl, rfl⟩ | ⟨g, rfl, -⟩
        · rw [h0, List.eq_nil_of_length_eq_zero h0]
          exact nil_text _
        · have := (HV.out.next ⟨rfl, rfl, rfl, Nat.le_refl _, fun _ _ => rfl⟩ : BV w _ X (wr.drewN m)).text X.length cc (Nat.le_refl _)
          rwa [List.take_length] at this
      have HB : Hid (Bw w wr) := HV.out.below
      have HTX : Hid (txt X = txt R) := by rw [hX1]; rfl
      subst hn1
      clear hX1 hC HC HV hform hd0 HS0
      generalize X.length = xl at *
      generalize txt X = TX at *
      go_upto_region 11 with fail
      go_quiet (fail)
      go_wp2_with fail
      exact bodyPost_ret (v := .tuple #[.int .i64 (n : Int), .string TX]) (by simp [results, Tryz.results7, go_sem]) rfl ⟨by rw [HTX.out], HB.out.tr ⟨rfl, rfl, rfl, Nat.le_refl _, fun _ _ => rfl⟩⟩
end Go.Proofs.YtlaeoofjoofbcaaGreatDoor.fw

/- How often a part stands in a text: the library's Count and Replace and the document's Count say the same. Plain: nothing is walked here. Conditions: as each theorem says. -/
namespace Go.Proofs.YtlaeoofjoofbcaaGreatDoor.fw
open Go.RowKit Go.Sort
theorem cnt_miss {p : List UInt8} (hp : p ≠ []) (b : List UInt8) : ∀ s : List UInt8, Lib.index s p = -1 → cntL p b s = (0, s)
  | [], _ => cnt_nil p b
  | c :: s, h => by
    unfold Lib.index at h
    by_cases h1 : p.isPrefixOf (c :: s) = true
    · rw [if_pos h1] at h; cases h
    · rw [if_neg h1] at h
      have h2 : Lib.index s p = -1 := by
        by_cases h3 : (Lib.index s p == -1) = true
        · exact beq_iff_eq.1 h3
        · rw [if_neg h3] at h
          have := Lib.index_ge s p
          omega
      rw [cnt_no (Bool.eq_false_iff.2 h1), cnt_miss hp b s h2]
theorem cnt_hit {p : List UInt8} (hp : p ≠ []) (b : List UInt8) : ∀ (s : List UInt8) (i : Nat), Lib.index s p = (i : Int) → cntL p b s = ((cntL p b (s.drop (i + p.length))).1 + 1, s.take i ++ b ++ (cntL p b (s.drop (i + p.length))).2)
  | [], i, h => by
    unfold Lib.index at h
    rw [if_neg (by cases p with | nil => exact absurd rfl hp | cons a l => simp)] at h
    omega
  | c :: s, i, h => by
    unfold Lib.index at h
    by_cases h1 : p.isPrefixOf (c :: s) = true
    · rw [if_pos h1] at h
      have : i = 0 := by omega
      subst this
      rw [cnt_yes h1 hp, Nat.zero_add]
      simp
    · rw [if_neg h1] at h
      by_cases h3 : (Lib.index s p == -1) = true
      · rw [if_pos h3] at h; omega
      · rw [if_neg h3] at h
        have hge := Lib.index_ge s p
        have hne : Lib.index s p ≠ -1 := fun e => h3 (by rw [e]; rfl)
        obtain ⟨j, rfl⟩ : ∃ j, i = j + 1 := ⟨i - 1, by omega⟩
        have h4 : Lib.index s p = (j : Int) := by omega
        rw [cnt_no (Bool.eq_false_iff.2 h1), cnt_hit hp b s j h4]
        have e : j + 1 + p.length = (j + p.length) + 1 := by omega
        rw [e, List.drop_succ_cons, List.take_succ_cons]
        simp
theorem ix_room {s p : List UInt8} {i : Nat} (hp : p ≠ []) (h : Lib.index s p = (i : Int)) : (s.drop (i + p.length)).length < s.length := by
  have := Lib.drop_shorter (s := s) hp (by rw [h]; intro e; have := beq_iff_eq.1 e; omega)
  rw [h] at this
  exact this
theorem ix_two (s p : List UInt8) : Lib.index s p = -1 ∨ ∃ i : Nat, Lib.index s p = (i : Int) := by
  have := Lib.index_ge s p
  by_cases h : Lib.index s p = -1
  · exact .inl h
  · exact .inr ⟨(Lib.index s p).toNat, by omega⟩
theorem count_is {p : List UInt8} (hp : p ≠ []) (b : List UInt8) : ∀ (k : Nat) (s : List UInt8), s.length ≤ k → Lib.count s p = (cntL p b s).1 := by
  intro k
  induction k with
  | zero =>
    intro s hs
    have : s = [] := List.eq_nil_of_length_eq_zero (by omega)
    subst this
    rcases ix_two [] p with h | ⟨i, h⟩
    · rw [Lib.count_miss h, cnt_nil]
    · have := ix_room hp h
      simp at this
  | succ k ih =>
    intro s hs
    rcases ix_two s p with h | ⟨i, h⟩
    · rw [Lib.count_miss h, cnt_miss hp b s h]
    · have hr := ix_room hp h
      rw [Lib.count_hit hp h, cnt_hit hp b s i h, ih _ (by omega)]
      dsimp only
      omega
theorem replK_is {p : List UInt8} (hp : p ≠ []) (b : List UInt8) : ∀ (k : Nat) (s : List UInt8), s.length ≤ k → Lib.replaceK p b (cntL p b s).1 s = (cntL p b s).2 := by
  intro k
  induction k with
  | zero =>
    intro s hs
    have : s = [] := List.eq_nil_of_length_eq_zero (by omega)
    subst this
    rw [cnt_nil]
    rfl
  | succ k ih =>
    intro s hs
    rcases ix_two s p with h | ⟨i, h⟩
    · rw [cnt_miss hp b s h]
      rfl
    · have hr := ix_room hp h
      rw [cnt_hit hp b s i h]
      dsimp only
      rw [Lib.replaceK_hit p b _ s i h, ih _ (by omega)]
theorem cnt_same {p : List UInt8} (hp : p ≠ []) : ∀ (k : Nat) (s : List UInt8), s.length ≤ k → (cntL p p s).2 = s := by
  intro k
  induction k with
  | zero =>
    intro s hs
    have : s = [] := List.eq_nil_of_length_eq_zero (by omega)
    subst this
    rw [cnt_nil]
  | succ k ih =>
    intro s hs
    cases s with
    | nil => rw [cnt_nil]
    | cons c s =>
      by_cases h1 : p.isPrefixOf (c :: s) = true
      · rw [cnt_yes h1 hp]
        have hl : 0 < p.length := List.length_pos_iff.2 hp
        dsimp only
        rw [ih _ (by rw [List.length_drop]; simp at hs ⊢; omega)]
        rw [List.isPrefixOf_iff_prefix] at h1
        obtain ⟨t, ht⟩ := h1
        rw [← ht]
        simp
      · rw [cnt_no (Bool.eq_false_iff.2 h1)]
        dsimp only
        rw [ih s (by simp at hs; omega)]
/-- How many are replaced does not hang on what stands in their place. -/
theorem cnt_fst {p : List UInt8} (hp : p ≠ []) (b b' s : List UInt8) : (cntL p b s).1 = (cntL p b' s).1 := by
  rw [← count_is hp b _ s (Nat.le_refl _), ← count_is hp b' _ s (Nat.le_refl _)]
theorem cnt_self {p : List UInt8} (hp : p ≠ []) (b : List UInt8) : cntL p b p = (1, b) := by
  have h : p.isPrefixOf p = true := by rw [List.isPrefixOf_iff_prefix]; exact List.prefix_rfl
  rw [cnt_yes h hp, List.drop_length, cnt_nil]
  simp
/-- A part that stands in a text that is no longer is the text. -/
theorem cnt_whole {p : List UInt8} (hp : p ≠ []) (b : List UInt8) {s : List UInt8} (hl : s.length = p.length) (h : 0 < (cntL p b s).1) : s = p := by
  rcases ix_two s p with h1 | ⟨i, h1⟩
  · rw [cnt_miss hp b s h1] at h; exact absurd h (Nat.lt_irrefl 0)
  · cases s with
    | nil => rw [cnt_nil] at h; exact absurd h (Nat.lt_irrefl 0)
    | cons c s =>
      by_cases h2 : p.isPrefixOf (c :: s) = true
      · rw [List.isPrefixOf_iff_prefix] at h2
        exact (h2.eq_of_length hl.symm).symm
      · exfalso
        have key : ∀ (k : Nat) (t : List UInt8), t.length ≤ k → t.length < p.length → (cntL p b t).1 = 0 := by
          intro k
          induction k with
          | zero => intro t ht _; have : t = [] := List.eq_nil_of_length_eq_zero (by omega); subst this; rw [cnt_nil]
          | succ k ih =>
            intro t ht hlt
            cases t with
            | nil => rw [cnt_nil]
            | cons d t =>
              have h3 : p.isPrefixOf (d :: t) = false := by
                rw [Bool.eq_false_iff]
                intro e
                rw [List.isPrefixOf_iff_prefix] at e
                have := e.length_le
                omega
              rw [cnt_no h3]
              dsimp only
              exact ih t (by simp at ht; omega) (by simp at hlt; omega)
        rw [cnt_no (Bool.eq_false_iff.2 h2)] at h
        dsimp only at h
        rw [key _ s (Nat.le_refl _) (by simp at hl; omega)] at h
        exact absurd h (Nat.lt_irrefl 0)
/-- The library's Replace of as many as there are. -/
theorem repl_all {p : List UInt8} (hp : p ≠ []) (b s : List UInt8) : Lib.replace s p b ((cntL p b s).1 : Int) = (cntL p b s).2 := by
  unfold Lib.replace
  by_cases h : (p == b) = true
  · rw [if_pos h]
    have := beq_iff_eq.1 h
    subst this
    rw [cnt_same hp _ s (Nat.le_refl _)]
  · rw [if_neg h]
    have e : Lib.replaceNum s p ((cntL p b s).1 : Int) = (cntL p b s).1 := by
      unfold Lib.replaceNum
      rw [count_is hp b _ s (Nat.le_refl _), if_neg (by omega)]
      rfl
    rw [e, replK_is hp b _ s (Nat.le_refl _)]
theorem repl_zero (p b s : List UInt8) : Lib.replace s p b 0 = s := by
  unfold Lib.replace
  by_cases h : (p == b) = true
  · rw [if_pos h]
  · rw [if_neg h]
    have e : Lib.replaceNum s p 0 = 0 := by
      unfold Lib.replaceNum
      rw [if_neg (by omega)]
      rfl
    rw [e]
    rfl
end Go.Proofs.YtlaeoofjoofbcaaGreatDoor.fw

/- Masks: plain. What is of a mask in which each byte has a mark ahead; of any text; of a text and more. Nothing is walked here. -/
namespace Go.Proofs.YtlaeoofjoofbcaaGreatDoor.fw
open Go.RowKit Go.Sort
/-- A piece of a mask. -/
inductive Mk where
  | many : Mk
  | one : Mk
  | byte : UInt8 → Mk
/-- The pieces of a mask, if it is one. -/
def mkL : List UInt8 → Option (List Mk)
  | [] => some []
  | [b] => if b = 42 then some [.many] else if b = 63 then some [.one] else if b = 126 then none else some [.byte b]
  | b :: c :: r => if b = 42 then (mkL (c :: r)).map (Mk.many :: ·) else if b = 63 then (mkL (c :: r)).map (Mk.one :: ·) else if b = 126 then (mkL r).map (Mk.byte c :: ·) else (mkL (c :: r)).map (Mk.byte b :: ·)
/-- Is a text of the pieces? -/
def lkL : List Mk → List UInt8 → Bool
  | [], s => s.isEmpty
  | .many :: m, [] => lkL m []
  | .many :: m, c :: s => lkL m (c :: s) || lkL (.many :: m) s
  | .one :: _, [] => false
  | .one :: m, _ :: s => lkL m s
  | .byte _ :: _, [] => false
  | .byte b :: m, c :: s => (b == c) && lkL m s
termination_by m s => (m.length, s.length)
/-- Each byte with a mark ahead. -/
def escL (t : List UInt8) : List UInt8 := t.flatMap fun b => [126, b]
theorem escL_snoc (t : List UInt8) (b : UInt8) : escL (t ++ [b]) = escL t ++ [126, b] := by simp [escL]
theorem escL_len (t : List UInt8) : (escL t).length = 2 * t.length := by
  induction t with
  | nil => rfl
  | cons b t ih => simp only [escL, List.flatMap_cons, List.length_append, List.length_cons, List.length_nil] at ih ⊢; omega
theorem mk_esc (t : List UInt8) : mkL (escL t) = some (t.map Mk.byte) := by
  induction t with
  | nil => rfl
  | cons b t ih =>
    show mkL (126 :: b :: escL t) = _
    unfold mkL
    rw [if_neg (by decide), if_neg (by decide), if_pos rfl, ih]
    rfl
theorem mk_esc_many (t : List UInt8) : mkL (escL t ++ [42]) = some (t.map Mk.byte ++ [.many]) := by
  induction t with
  | nil => rfl
  | cons b t ih =>
    show mkL (126 :: b :: (escL t ++ [42])) = _
    unfold mkL
    rw [if_neg (by decide), if_neg (by decide), if_pos rfl, ih]
    rfl
theorem lk_self (t o : List UInt8) : lkL (t.map Mk.byte) o = decide (t = o) := by
  induction t generalizing o with
  | nil =>
    cases o with
    | nil => simp [lkL]
    | cons c o => simp [lkL]
  | cons b t ih =>
    cases o with
    | nil => simp [lkL]
    | cons c o =>
      rw [List.map_cons, lkL, ih]
      by_cases h : b = c
      · subst h; simp
      · simp [h]
theorem lk_many (o : List UInt8) : lkL [.many] o = true := by
  induction o with
  | nil => simp [lkL]
  | cons c o ih => rw [lkL, ih, Bool.or_true]
theorem lk_more (t o : List UInt8) : lkL (t.map Mk.byte ++ [.many]) (t ++ o) = true := by
  induction t with
  | nil => exact lk_many o
  | cons b t ih =>
    rw [List.map_cons, List.cons_append, List.cons_append, lkL, ih]
    simp
theorem lk_fact : mkL [97, 63, 42] = some [.byte 97, .one, .many] ∧ lkL [.byte 97, .one, .many] [97, 98, 99] = true := by
  refine ⟨by simp [mkL], ?_⟩
  simp [lkL]
/-- What Like answers of a text and a mask. -/
def liB (s m : List UInt8) : Bool := match mkL m with
  | some k => lkL k s
  | none => false
def liE (m : List UInt8) : Int := match mkL m with
  | some _ => 0
  | none => 2
theorem li_self (t o : List UInt8) : liB o (escL t) = decide (t = o) ∧ liE (escL t) = 0 := by
  unfold liB liE
  rw [mk_esc]
  exact ⟨lk_self t o, rfl⟩
theorem li_many (o : List UInt8) : liB o [42] = true ∧ liE [42] = 0 := ⟨lk_many o, rfl⟩
theorem li_more (t o : List UInt8) : liB (t ++ o) (escL t ++ [42]) = true ∧ liE (escL t ++ [42]) = 0 := by
  unfold liB liE
  rw [mk_esc_many]
  exact ⟨lk_more t o, rfl⟩
theorem li_fact : liB [97, 98, 99] [97, 63, 42] = true ∧ liE [97, 63, 42] = 0 := by
  unfold liB liE
  rw [lk_fact.1]
  exact ⟨lk_fact.2, rfl⟩
end Go.Proofs.YtlaeoofjoofbcaaGreatDoor.fw

/- Masks: plain. How a mask is read byte by byte, and what is reached behind each piece. Nothing is walked here. -/
namespace Go.Proofs.YtlaeoofjoofbcaaGreatDoor.fw
open Go.RowKit Go.Sort
/-- Does a piece that is one byte take this one? -/
def fits : Mk → UInt8 → Bool
  | .many, _ => false
  | .one, _ => true
  | .byte b, c => b == c
/-- Any of the beginnings up to a length. -/
def upto (r : Nat → Bool) : Nat → Bool
  | 0 => r 0
  | i + 1 => upto r i || r (i + 1)
/-- What is reached behind one more piece. -/
def stp (s : List UInt8) (p : Mk) (r : Nat → Bool) : Nat → Bool := match p with
  | .many => upto r
  | p => fun i => match i with
    | 0 => false
    | i + 1 => match s[i]? with
      | some c => r i && fits p c
      | none => false
theorem upto_iff (r : Nat → Bool) (i : Nat) : upto r i = true ↔ ∃ j, j ≤ i ∧ r j = true := by
  induction i with
  | zero => simp [upto]
  | succ i ih =>
    simp only [upto, Bool.or_eq_true, ih]
    constructor
    · rintro (⟨j, hj, h⟩ | h)
      · exact ⟨j, by omega, h⟩
      · exact ⟨i + 1, Nat.le_refl _, h⟩
    · rintro ⟨j, hj, h⟩
      by_cases e : j = i + 1
      · exact .inr (e ▸ h)
      · exact .inl ⟨j, by omega, h⟩
theorem lk_many_iff (m : List Mk) (s : List UInt8) : lkL (.many :: m) s = true ↔ ∃ k, k ≤ s.length ∧ lkL m (s.drop k) = true := by
  induction s with
  | nil =>
    rw [lkL]
    constructor
    · intro h; exact ⟨0, Nat.le_refl _, h⟩
    · rintro ⟨k, hk, h⟩
      simpa using h
  | cons c s ih =>
    rw [lkL, Bool.or_eq_true, ih]
    constructor
    · rintro (h | ⟨k, hk, h⟩)
      · exact ⟨0, Nat.zero_le _, h⟩
      · exact ⟨k + 1, by simp; omega, h⟩
    · rintro ⟨k, hk, h⟩
      cases k with
      | zero => exact .inl h
      | succ k => exact .inr ⟨k, by simp at hk; omega, h⟩
theorem lk_one_iff (p : Mk) (hp : p ≠ .many) (m : List Mk) (s : List UInt8) : lkL (p :: m) s = true ↔ ∃ c t, s = c :: t ∧ fits p c = true ∧ lkL m t = true := by
  cases s with
  | nil => cases p <;> simp_all [lkL]
  | cons c t =>
    have e : lkL (p :: m) (c :: t) = (fits p c && lkL m t) := by
      cases p <;> simp_all [lkL, fits]
    rw [e, Bool.and_eq_true]
    constructor
    · rintro ⟨h1, h2⟩; exact ⟨c, t, rfl, h1, h2⟩
    · rintro ⟨c', t', h, h1, h2⟩
      injection h with h3 h4
      subst h3; subst h4
      exact ⟨h1, h2⟩
theorem fold_iff (s : List UInt8) (m : List Mk) (r : Nat → Bool) :
    (m.foldl (fun r p => stp s p r) r) s.length = true ↔ ∃ i, i ≤ s.length ∧ r i = true ∧ lkL m (s.drop i) = true := by
  induction m generalizing r with
  | nil =>
    simp only [List.foldl_nil]
    constructor
    · intro h; exact ⟨s.length, Nat.le_refl _, h, by simp [lkL]⟩
    · rintro ⟨i, hi, h, e⟩
      rw [lkL, List.isEmpty_iff, List.drop_eq_nil_iff] at e
      have : i = s.length := by omega
      exact this ▸ h
  | cons p m ih =>
    rw [List.foldl_cons, ih]
    by_cases hp : p = .many
    · subst hp
      constructor
      · rintro ⟨i, hi, h, e⟩
        obtain ⟨j, hj, hr⟩ := (upto_iff r i).mp h
        refine ⟨j, by omega, hr, (lk_many_iff m _).mpr ⟨i - j, by simp; omega, ?_⟩⟩
        rw [List.drop_drop]
        have : j + (i - j) = i := by omega
        rw [this]; exact e
      · rintro ⟨j, hj, hr, e⟩
        obtain ⟨k, hk, e⟩ := (lk_many_iff m _).mp e
        rw [List.drop_drop] at e
        rw [List.length_drop] at hk
        exact ⟨j + k, by omega, (upto_iff r _).mpr ⟨j, by omega, hr⟩, e⟩
    · constructor
      · rintro ⟨i, hi, h, e⟩
        cases i with
        | zero => cases p <;> simp_all [stp]
        | succ i =>
          have hlt : i < s.length := by omega
          have h2 : (r i && fits p s[i]) = true := by
            cases p <;> simp_all [stp]
          rw [Bool.and_eq_true] at h2
          refine ⟨i, by omega, h2.1, (lk_one_iff p hp m _).mpr ⟨s[i], s.drop (i + 1), ?_, h2.2, e⟩⟩
          exact List.drop_eq_getElem_cons hlt
      · rintro ⟨i, hi, h, e⟩
        obtain ⟨c, t, e1, e2, e3⟩ := (lk_one_iff p hp m _).mp e
        have hlt : i < s.length := by
          rcases Nat.lt_or_ge i s.length with h | h
          · exact h
          · rw [List.drop_eq_nil_of_le h] at e1; cases e1
        rw [List.drop_eq_getElem_cons hlt] at e1
        injection e1 with e4 e5
        refine ⟨i + 1, hlt, ?_, e5 ▸ e3⟩
        subst e4
        cases p <;> simp_all [stp]
theorem fold_lk (s : List UInt8) (m : List Mk) : (m.foldl (fun r p => stp s p r) (fun i => decide (i = 0))) s.length = lkL m s := by
  rw [Bool.eq_iff_iff, fold_iff]
  constructor
  · rintro ⟨i, -, h, e⟩
    rw [decide_eq_true_eq] at h
    subst h
    exact e
  · intro h; exact ⟨0, Nat.zero_le _, by simp, h⟩
/-- A mask is read byte by byte: the pieces so far, and was there a mark? -/
def rst (st : List Mk × Bool) (c : UInt8) : List Mk × Bool :=
  if st.2 then (st.1 ++ [.byte c], false) else if c = 126 then (st.1, true) else if c = 42 then (st.1 ++ [.many], false) else if c = 63 then (st.1 ++ [.one], false) else (st.1 ++ [.byte c], false)
def rdL (e : Bool) (l : List UInt8) : List Mk × Bool := l.foldl rst ([], e)
theorem rst_pre (a x : List Mk) (e : Bool) (c : UInt8) : rst (a ++ x, e) c = (a ++ (rst (x, e) c).1, (rst (x, e) c).2) := by
  unfold rst
  cases e
  · by_cases h1 : c = 126
    · simp [h1]
    · by_cases h2 : c = 42
      · simp [h2]
      · by_cases h3 : c = 63
        · simp [h3]
        · simp [h1, h2, h3]
  · simp
theorem fold_pre (a x : List Mk) (e : Bool) (l : List UInt8) : l.foldl rst (a ++ x, e) = (a ++ (l.foldl rst (x, e)).1, (l.foldl rst (x, e)).2) := by
  induction l generalizing x e with
  | nil => rfl
  | cons c l ih =>
    rw [List.foldl_cons, rst_pre, ih, List.foldl_cons]
theorem rd_cons (e : Bool) (c : UInt8) (l : List UInt8) : rdL e (c :: l) = ((rst ([], e) c).1 ++ (rdL (rst ([], e) c).2 l).1, (rdL (rst ([], e) c).2 l).2) := by
  show l.foldl rst (rst ([], e) c) = _
  have := fold_pre (rst ([], e) c).1 [] (rst ([], e) c).2 l
  rw [List.append_nil] at this
  exact this
/-- What Like makes of a mask that was read so. -/
def rdO (e : Bool) (l : List UInt8) : Option (List Mk) := if (rdL e l).2 then none else some (rdL e l).1
theorem rdO_cons (e : Bool) (c : UInt8) (l : List UInt8) : rdO e (c :: l) = (rdO (rst ([], e) c).2 l).map ((rst ([], e) c).1 ++ ·) := by
  unfold rdO
  rw [rd_cons]
  cases (rdL (rst ([], e) c).2 l).2 <;> rfl
theorem mk_one (b : UInt8) : mkL [b] = rdO false [b] := by
  rw [rdO_cons]
  unfold mkL
  by_cases h1 : b = 42
  · subst h1; rfl
  · by_cases h2 : b = 63
    · subst h2; rfl
    · by_cases h3 : b = 126
      · subst h3; rfl
      · simp [h1, h2, h3, rst, rdO, rdL]
theorem mk_two (b c : UInt8) (r : List UInt8) (i1 : mkL (c :: r) = rdO false (c :: r)) (i2 : mkL r = rdO false r) : mkL (b :: c :: r) = rdO false (b :: c :: r) := by
  rw [rdO_cons]
  unfold mkL
  by_cases h1 : b = 42
  · rw [if_pos h1, i1]; subst h1; rfl
  · by_cases h2 : b = 63
    · rw [if_neg h1, if_pos h2, i1]; subst h2; rfl
    · by_cases h3 : b = 126
      · rw [if_neg h1, if_neg h2, if_pos h3, i2]
        subst h3
        show _ = (rdO true (c :: r)).map _
        rw [rdO_cons]
        simp [rst, Option.map_map]
        rfl
      · rw [if_neg h1, if_neg h2, if_neg h3, i1]
        simp [rst, h1, h2, h3]
theorem mk_rd (l : List UInt8) : mkL l = rdO false l ∧ ∀ b, mkL (b :: l) = rdO false (b :: l) := by
  induction l with
  | nil => exact ⟨rfl, mk_one⟩
  | cons c r ih => exact ⟨ih.2 c, fun b => mk_two b c r (ih.2 c) ih.1⟩
end Go.Proofs.YtlaeoofjoofbcaaGreatDoor.fw

/- A list of structs that grows, whatever they are; a row of truths as one value. Nothing is walked here. Conditions: as each theorem says. -/
namespace Go.Proofs.YtlaeoofjoofbcaaGreatDoor.fw
open Go.RowKit Go.Sort
/-- How an element of a list lies in cells. -/
structure EL (α : Type) where
  ty : TypeId
  k : Nat
  enc : α → List Value
  len : ∀ x, (enc x).length = k
  one : ∀ x, ∀ u ∈ enc x, u.oneCell' = true
def EL.cs {α : Type} (L : EL α) (l : List α) : List Value := l.flatMap L.enc
theorem EL.cs_len {α : Type} (L : EL α) (l : List α) : (L.cs l).length = l.length * L.k := by
  induction l with
  | nil => simp [EL.cs]
  | cons x l ih => unfold EL.cs at *; rw [List.flatMap_cons, List.length_append, ih, L.len, List.length_cons, Nat.succ_mul, Nat.add_comm]
theorem EL.cs_app {α : Type} (L : EL α) (l m : List α) : L.cs (l ++ m) = L.cs l ++ L.cs m := by unfold EL.cs; rw [List.flatMap_append]
theorem EL.cs_one {α : Type} (L : EL α) (x : α) : L.cs [x] = L.enc x := by simp [EL.cs]
theorem EL.cs_at {α : Type} (L : EL α) {l : List α} {i : Nat} {x : α} (h : l[i]? = some x) (j : Nat) (hj : j < L.k) : (L.cs l)[i * L.k + j]? = (L.enc x)[j]? := by
  induction l generalizing i with
  | nil => simp at h
  | cons y l ih =>
    have e : L.cs (y :: l) = L.enc y ++ L.cs l := by unfold EL.cs; rw [List.flatMap_cons]
    rw [e]
    cases i with
    | zero =>
      have e2 : y = x := by simpa using h
      subst e2
      rw [Nat.zero_mul, Nat.zero_add, List.getElem?_append_left (by rw [L.len]; exact hj)]
    | succ i =>
      have h' : l[i]? = some x := by simpa using h
      have e3 : (i + 1) * L.k + j = i * L.k + j + L.k := by rw [Nat.succ_mul]; omega
      rw [e3, List.getElem?_append_right (by rw [L.len]; omega), L.len, Nat.add_sub_cancel]
      exact ih h'
/-- A list of one's own, and all that stood stands. -/
structure RV {α : Type} (L : EL α) (w : World) (v : Value) (xs : List α) (wx : World) : Prop where
  own : wx.ownsRow w.heap.size L.ty L.k v xs.length (L.cs xs)
  below : Bw w wx
theorem RV.nil {α : Type} (L : EL α) (w : World) : RV L w (.slice none 0 0) [] w := ⟨⟨by simp [EL.cs], .inl ⟨rfl, rfl⟩⟩, Below.refl _ _⟩
theorem RV.next {α : Type} {L : EL α} {w : World} {v : Value} {xs : List α} {wx wy : World} (h : RV L w v xs wx) (hb : Bw wx wy) : RV L w v xs wy := ⟨own_next h.own hb, h.below.tr hb⟩
theorem RV.form {α : Type} {L : EL α} {w : World} {v : Value} {xs : List α} {wx : World} (h : RV L w v xs wx) : ∃ p c, v = .slice p xs.length c ∧ ((xs.length = 0 ∧ p = none ∧ c = 0) ∨ ∃ g, p = some ⟨g, 0, none⟩ ∧ xs.length ≤ c) := by
  rcases h.own.2 with ⟨rfl, h0⟩ | ⟨g, cap, cur, rfl, -, -, hc, -⟩
  · exact ⟨none, 0, by rw [h0], .inl ⟨h0, rfl, rfl⟩⟩
  · exact ⟨_, _, rfl, .inr ⟨g, rfl, hc⟩⟩
theorem RV.one {α : Type} {L : EL α} {w : World} {v : Value} {xs : List α} {wx : World} (h : RV L w v xs wx) (S : TypeId) {z : Value} {b : Nat} (hu : Tryz.prog.underlying S = some (.slice L.ty)) (hin : (Tryz.prog.info? L.ty).map (fun i => (i.zero, i.size, i.bytes)) = some (some z, L.k, b)) (hz : z.cells.size = L.k) (hk : 0 < L.k) (hl : (xs.length + 1) * b ≤ 140737488355328) (hm : xs.length + 1 ≤ 9223372036854775807) (y : α) (ys : Array Value) (hy : ys.toList = L.enc y) :
    ∃ g c w', (Builtin.append_ #[S, S] S #[v, .slice (some ⟨wx.heap.size, 0, none⟩) 1 1]).run Tryz.prog (wx.alloc (.cells ys L.ty)) = .ok (.slice (some ⟨g, 0, none⟩) (xs.length + 1) c) w' ∧ RV L w (.slice (some ⟨g, 0, none⟩) (xs.length + 1) c) (xs ++ [y]) w' := by
  obtain ⟨i0, hi, hz0, hz1, hz2⟩ := info_parts hin
  have hmax : maxLen = 9223372036854775807 := rfl
  have h1 := h.next (Bw.al wx (.cells ys L.ty))
  obtain ⟨g, c, w', r1, r2, r3, -, -⟩ := run_append_lies (P := Tryz.prog) (w := wx.alloc (.cells ys L.ty)) S S w.heap.size L.ty i0 z L.k b hu hi hz0 hz1 hz2 hz hk v xs.length (L.cs xs) h1.own ⟨wx.heap.size, 0, none⟩ 1 1 (L.enc y) (by rw [L.len, Nat.one_mul]) (by rw [← hy]; exact World.news_of_block (heap_alloc_new wx _)) (L.one y) (by decide) (by omega) hl h1.below.size _ rfl
  refine ⟨g, c, w', r1, ⟨?_, h1.below.grown r3 h1.below.size (fun q hq => (h1.own.lt q hq).1)⟩⟩
  rw [L.cs_app, L.cs_one, List.length_append]
  exact r2
/-- An element's cells. -/
theorem RV.at {α : Type} {L : EL α} {w : World} {v : Value} {xs : List α} {wx : World} (h : RV L w v xs wx) {i : Nat} {x : α} (hx : xs[i]? = some x) : ∃ g c, v = .slice (some ⟨g, 0, none⟩) xs.length c ∧ xs.length ≤ c ∧ g < wx.heap.size ∧ ∀ j u, (L.enc x)[j]? = some u → wx.cell? ⟨g, i * L.k + j, none⟩ = some u := by
  have hi : i < xs.length := (List.getElem?_eq_some_iff.1 hx).1
  rcases h.own.2 with ⟨rfl, h0⟩ | ⟨g, cap, cur, rfl, hb, hg, hc, hm, hz, ht⟩
  · omega
  · refine ⟨_, _, rfl, hc, (Array.getElem?_eq_some_iff.1 hg).1, fun j u hu => ?_⟩
    have hj : j < L.k := by
      have := (List.getElem?_eq_some_iff.1 hu).1
      rw [L.len] at this
      exact this
    have hlt : i * L.k + j < xs.length * L.k := by
      have : (i + 1) * L.k ≤ xs.length * L.k := Nat.mul_le_mul_right _ hi
      rw [Nat.succ_mul] at this
      omega
    have e : (cur.toList.take (xs.length * L.k))[i * L.k + j]? = (L.cs xs)[i * L.k + j]? := by rw [ht]
    rw [List.getElem?_take, if_pos hlt, Array.getElem?_toList, L.cs_at hx j hj, hu] at e
    simp only [World.cell?, hg]
    exact e
/-- A row of 201 truths. -/
def bls (r : Nat → Bool) : Array Value := Array.ofFn (n := 201) fun i => .bool (r i.1)
theorem bls_size (r : Nat → Bool) : (bls r).size = 201 := by simp [bls]
theorem bls_at (r : Nat → Bool) {i : Nat} (h : i < 201) : (bls r)[i]? = some (.bool (r i)) := by
  unfold bls
  rw [Array.getElem?_ofFn]
  simp [h]
theorem bls_one (r : Nat → Bool) : (bls r).all (·.oneCell') = true := by
  refine Array.all_eq_true_iff_forall_mem.2 fun v hv => ?_
  unfold bls at hv
  rw [Array.mem_ofFn] at hv
  obtain ⟨i, rfl⟩ := hv
  rfl
def upd (r : Nat → Bool) (k : Nat) (b : Bool) : Nat → Bool := fun i => if i = k then b else r i
theorem bls_set (r : Nat → Bool) (k : Nat) (b : Bool) : (bls r).setIfInBounds k (.bool b) = bls (upd r k b) := by
  apply Array.ext_getElem?
  intro i
  rw [Array.getElem?_setIfInBounds, bls_size]
  by_cases h : i < 201
  · rw [bls_at _ h, bls_at _ h]
    by_cases e : k = i
    · subst e; simp [upd, h]
    · have e' : ¬ i = k := fun x => e x.symm
      simp [upd, e, e']
  · have h1 : (bls r)[i]? = none := Array.getElem?_eq_none (by rw [bls_size]; omega)
    have h2 : (bls (upd r k b))[i]? = none := Array.getElem?_eq_none (by rw [bls_size]; omega)
    rw [h1, h2]
    by_cases e : k = i
    · subst e; simp [h]
    · simp [e]
theorem bls_none : bls (fun _ => false) = Array.replicate 201 (.bool false) := by
  apply Array.ext_getElem?
  intro i
  by_cases h : i < 201
  · rw [bls_at _ h]; simp [h]
  · rw [Array.getElem?_eq_none (by rw [bls_size]; omega)]; simp [h]
theorem bls_first : (Array.replicate 201 (Value.bool false)).setIfInBounds 0 (.bool true) = bls (fun i => decide (i = 0)) := by
  rw [← bls_none, bls_set]
  exact congrArg bls (funext fun i => by by_cases h : i = 0 <;> simp [upd, h])
end Go.Proofs.YtlaeoofjoofbcaaGreatDoor.fw
namespace Go.Proofs
open Go.Shelf
def Tryz.lays138_ren : Go.Shelf.Ren := ⟨fun | 138 => 27 | 195 => 40 | 218 => 41 | 143 => 30 | 219 => 48 | 217 => 64 | 225 => 65 | 224 => 66 | 267 => 67 | 266 => 80 | 314 => 81 | n => n, fun | 9 => 9 | 3 => 3 | 4 => 4 | 5 => 5 | 0 => 0 | 46 => 130 | 146 => 151 | 51 => 150 | n => n, fun | 1 => 1 | n => n⟩
theorem Tryz.lays138 : Go.Proofs.Lays.n138 Tryz.prog Tryz.lays138_ren := {
  mixed := by kernel_rfl
  f138 := Tryz.func27.trans (congrArg some (by kernel_rfl))
  f143 := Tryz.func30.trans (congrArg some (by kernel_rfl))
  f195 := Tryz.func40.trans (congrArg some (by kernel_rfl))
  f217 := Tryz.func64.trans (congrArg some (by kernel_rfl))
  f218 := Tryz.func41.trans (congrArg some (by kernel_rfl))
  f219 := Tryz.func48.trans (congrArg some (by kernel_rfl))
  f224 := Tryz.func66.trans (congrArg some (by kernel_rfl))
  f225 := Tryz.func65.trans (congrArg some (by kernel_rfl))
  f266 := Tryz.func80.trans (congrArg some (by kernel_rfl))
  f267 := Tryz.func67.trans (congrArg some (by kernel_rfl))
  f314 := Tryz.func81.trans (congrArg some (by kernel_rfl))
  t0 := Tryz.underlying0
  a0 := Tryz.isAgg0
  z0 := Tryz.sizeOf0
  v0 := Tryz.zeroValue0
  t3 := Tryz.underlying3
  a3 := Tryz.isAgg3
  z3 := Tryz.sizeOf3
  v3 := Tryz.zeroValue3
  t4 := Tryz.underlying4
  a4 := Tryz.isAgg4
  z4 := Tryz.sizeOf4
  v4 := Tryz.zeroValue4
  t5 := Tryz.underlying5
  a5 := Tryz.isAgg5
  z5 := Tryz.sizeOf5
  v5 := Tryz.zeroValue5
  t9 := Tryz.underlying9
  a9 := Tryz.isAgg9
  z9 := Tryz.sizeOf9
  v9 := Tryz.zeroValue9
  t46 := Tryz.underlying130
  a46 := Tryz.isAgg130
  z46 := Tryz.sizeOf130
  v46 := Tryz.zeroValue130
  t51 := Tryz.underlying150
  a51 := Tryz.isAgg150
  z51 := Tryz.sizeOf150
  v51 := Tryz.zeroValue150
  t146 := Tryz.underlying151
  a146 := Tryz.isAgg151
  z146 := Tryz.sizeOf151
  v146 := Tryz.zeroValue151
  g1 := by kernel_rfl }
open Go.RowKit Go.Lib in
/-- strings.Count at whatever sep that is not empty: the two roads under one statement. (LAID: no walk: one application.) -/
theorem Tryz.strings_Count_any (s sep : ByteArray) (m : Int) (w : World) (hs : s.size < 4294967281) (hm : w.cell? ⟨1, 0, none⟩ = some (.int .i64 m)) (h1 : 1 ≤ sep.size) :
    Calls Tryz.prog 27 #[.string s, .string sep] w fun e w' => e = .returned (.int .i64 (Lib.countB s sep)) ∧ w' = w := Any.strings_Count_any Tryz.lays138 s sep m w hs hm h1
def Tryz.lays154_ren : Go.Shelf.Ren := ⟨fun | 154 => 22 | 138 => 27 | 165 => 29 | 143 => 30 | 166 => 31 | 197 => 32 | 169 => 33 | 195 => 40 | 218 => 41 | 240 => 46 | 241 => 47 | 219 => 48 | 260 => 49 | 276 => 62 | 277 => 63 | 217 => 64 | 225 => 65 | 224 => 66 | 267 => 67 | 266 => 80 | 314 => 81 | n => n, fun | 9 => 9 | 3 => 3 | 4 => 4 | 72 => 72 | 0 => 0 | 76 => 74 | 105 => 76 | 21 => 21 | 5 => 5 | 70 => 70 | 20 => 20 | 37 => 50 | 75 => 32 | 127 => 104 | 164 => 91 | 46 => 130 | 119 => 131 | 139 => 134 | 138 => 133 | 146 => 151 | 51 => 150 | 80 => 78 | n => n, fun | 1 => 1 | 3 => 2 | 4 => 3 | n => n⟩
theorem Tryz.lays154 : Go.Proofs.Lays.n154 Tryz.prog Tryz.lays154_ren := {
  mixed := by kernel_rfl
  f138 := Tryz.func27.trans (congrArg some (by kernel_rfl))
  f143 := Tryz.func30.trans (congrArg some (by kernel_rfl))
  f154 := Tryz.func22.trans (congrArg some (by kernel_rfl))
  f165 := Tryz.func29.trans (congrArg some (by kernel_rfl))
  f166 := Tryz.func31.trans (congrArg some (by kernel_rfl))
  f169 := Tryz.func33.trans (congrArg some (by kernel_rfl))
  f195 := Tryz.func40.trans (congrArg some (by kernel_rfl))
  f197 := Tryz.func32.trans (congrArg some (by kernel_rfl))
  f217 := Tryz.func64.trans (congrArg some (by kernel_rfl))
  f218 := Tryz.func41.trans (congrArg some (by kernel_rfl))
  f219 := Tryz.func48.trans (congrArg some (by kernel_rfl))
  f224 := Tryz.func66.trans (congrArg some (by kernel_rfl))
  f225 := Tryz.func65.trans (congrArg some (by kernel_rfl))
  f240 := Tryz.func46.trans (congrArg some (by kernel_rfl))
  f241 := Tryz.func47.trans (congrArg some (by kernel_rfl))
  f260 := Tryz.func49.trans (congrArg some (by kernel_rfl))
  f266 := Tryz.func80.trans (congrArg some (by kernel_rfl))
  f267 := Tryz.func67.trans (congrArg some (by kernel_rfl))
  f276 := Tryz.func62.trans (congrArg some (by kernel_rfl))
  f277 := Tryz.func63.trans (congrArg some (by kernel_rfl))
  f314 := Tryz.func81.trans (congrArg some (by kernel_rfl))
  t0 := Tryz.underlying0
  a0 := Tryz.isAgg0
  z0 := Tryz.sizeOf0
  v0 := Tryz.zeroValue0
  t3 := Tryz.underlying3
  a3 := Tryz.isAgg3
  z3 := Tryz.sizeOf3
  v3 := Tryz.zeroValue3
  t4 := Tryz.underlying4
  a4 := Tryz.isAgg4
  z4 := Tryz.sizeOf4
  v4 := Tryz.zeroValue4
  t5 := Tryz.underlying5
  a5 := Tryz.isAgg5
  z5 := Tryz.sizeOf5
  v5 := Tryz.zeroValue5
  t9 := Tryz.underlying9
  a9 := Tryz.isAgg9
  z9 := Tryz.sizeOf9
  v9 := Tryz.zeroValue9
  t20 := Tryz.underlying20
  a20 := Tryz.isAgg20
  z20 := Tryz.sizeOf20
  v20 := Tryz.zeroValue20
  t21 := Tryz.underlying21
  a21 := Tryz.isAgg21
  z21 := Tryz.sizeOf21
  v21 := Tryz.zeroValue21
  t37 := Tryz.underlying50
  a37 := Tryz.isAgg50
  z37 := Tryz.sizeOf50
  v37 := Tryz.zeroValue50
  t46 := Tryz.underlying130
  a46 := Tryz.isAgg130
  z46 := Tryz.sizeOf130
  v46 := Tryz.zeroValue130
  t51 := Tryz.underlying150
  a51 := Tryz.isAgg150
  z51 := Tryz.sizeOf150
  v51 := Tryz.zeroValue150
  t70 := Tryz.underlying70
  a70 := Tryz.isAgg70
  z70 := Tryz.sizeOf70
  v70 := Tryz.zeroValue70
  t72 := Tryz.underlying72
  a72 := Tryz.isAgg72
  z72 := Tryz.sizeOf72
  v72 := Tryz.zeroValue72
  t75 := Tryz.underlying32
  a75 := Tryz.isAgg32
  z75 := Tryz.sizeOf32
  v75 := Tryz.zeroValue32
  t76 := Tryz.underlying74
  a76 := Tryz.isAgg74
  z76 := Tryz.sizeOf74
  v76 := Tryz.zeroValue74
  t105 := Tryz.underlying76
  a105 := Tryz.isAgg76
  z105 := Tryz.sizeOf76
  v105 := Tryz.zeroValue76
  t119 := Tryz.underlying131
  a119 := Tryz.isAgg131
  z119 := Tryz.sizeOf131
  t127 := Tryz.underlying104
  a127 := Tryz.isAgg104
  z127 := Tryz.sizeOf104
  v127 := Tryz.zeroValue104
  t138 := Tryz.underlying133
  a138 := Tryz.isAgg133
  z138 := Tryz.sizeOf133
  v138 := Tryz.zeroValue133
  t139 := Tryz.underlying134
  a139 := Tryz.isAgg134
  z139 := Tryz.sizeOf134
  v139 := Tryz.zeroValue134
  t146 := Tryz.underlying151
  a146 := Tryz.isAgg151
  z146 := Tryz.sizeOf151
  v146 := Tryz.zeroValue151
  t164 := Tryz.underlying91
  a164 := Tryz.isAgg91
  z164 := Tryz.sizeOf91
  v164 := Tryz.zeroValue91
  g1 := by kernel_rfl
  g3 := by kernel_rfl
  g4 := by kernel_rfl }
theorem Tryz.Builder_Extra_154 : Builder.Extra Tryz.prog Tryz.lays154_ren := {
  sizeBuilder := by kernel_rfl
  liesBuilder := by kernel_rfl
  t5 := Tryz.underlying5
  a5 := Tryz.isAgg5
  z5 := Tryz.sizeOf5
  v5 := Tryz.zeroValue5
  infoByte := by kernel_rfl
  cellsByte := by kernel_rfl
  sizeByte := by kernel_rfl
  neB5 := by decide }
open Go.RowKit Go.Lib in
/-- strings.Replace: "Replace returns a copy of the string s with the first n non-overlapping instances of old replaced by new. .. If n < 0, there is no limit on the number of replacements.": AT AN old THAT IS NOT EMPTY: IT RETURNS 'Lib.replace s old new n'. Below the heap's end the world is as it was. IT ASKS, as strings.Index's contract: 'len(s) < 4294967281', 'hm'; and that what comes out has room: 'len(s) + Count(s, old) * len(new) ≤ 2^47'. (LAID: no walk: one application.) -/
theorem Tryz.strings_Replace (s old new : ByteArray) (n : Int) (m : Int) (w : World) (hs : s.size < 4294967281) (hm : w.cell? ⟨1, 0, none⟩ = some (.int .i64 m)) (h1 : 1 ≤ old.size) (hlen : s.size + Lib.countB s old * new.size ≤ 140737488355328) :
    Calls Tryz.prog 22 #[.string s, .string old, .string new, .int .i64 n] w fun e w' =>
      e = .returned (.string ⟨(Lib.replace s.data.toList old.data.toList new.data.toList n).toArray⟩) ∧ Below w.heap.size w w' := Any.strings_Replace Tryz.lays154 Tryz.Builder_Extra_154 s old new n m w hs hm h1 hlen
end Go.Proofs

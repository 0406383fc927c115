
/- Bytes that grow, and texts made of them. Nothing is walked here. Conditions: as each theorem says. -/
import Derived.Test.YtomgjjngkffbbaaGreatDoorProg
import Derived.WalkKit
import Derived.ProofKit
import Derived.WalkSpells
import Derived.WalkLawsBesides
import Derived.Below
import Derived.Lib.Bytealg
import Derived.Lib.Walk
import Derived.Deep.DeepCutAuto
import Derived.Deep.RegionHeld3
import Derived.Sort.Grow
import Derived.OwnWalk
import Derived.Deep.AppendLies
import Derived.Deep.RegionHeldLaw
import Derived.Deep.CutBlock
import Derived.Lib.AppendStr
import Derived.Laws.BytesString
namespace Go.Proofs.YtomgjjngkffbbaaGreatDoor.fw
open Go.RowKit Go.Sort Go.Lib
def Hid (P : Prop) : Prop := P
theorem Hid.out {P : Prop} (h : Hid P) : P := h
abbrev nul : ByteArray := { data := #[] }
abbrev Bw (w w' : World) : Prop := Below w.heap.size w w'
theorem bnext {B : Nat} {w x y : World} (h : Below B w x) (h2 : Below x.heap.size x y) (hB : B ≤ x.heap.size) : Below B w y := h.trans (h2.mono hB)
theorem Bw.al (w : World) (o : Obj) : Bw w (w.alloc o) := (Below.refl _ _).alloc (Nat.le_refl _) _
theorem Bw.tr {a b c : World} (h : Bw a b) (h2 : Bw b c) : Bw a c := bnext h h2 h.size
theorem own_next {w : World} {base n t s : Nat} {v : Value} {xs : List Value} (h : w.ownsRow base t s v n xs) {w' : World} (hb : Bw w w') : w'.ownsRow base t s v n xs := by
  obtain ⟨h0, h | ⟨g, cap, cur, h1, h2, h3, h4⟩⟩ := h
  · exact ⟨h0, Or.inl h⟩
  · exact ⟨h0, Or.inr ⟨g, cap, cur, h1, h2, by rw [hb.block g (Array.getElem?_eq_some_iff.1 h3).1]; exact h3, h4⟩⟩
theorem info5 : (Tryz.prog.info? 5).map (fun i => (i.zero, i.size, i.bytes)) = some (some (.int .u8 0), 1, 1) := by kernel_rfl
theorem info_parts {t : TypeId} {z : Value} {s b : Nat} (h : (Tryz.prog.info? t).map (fun i => (i.zero, i.size, i.bytes)) = some (some z, s, b)) : ∃ i, Tryz.prog.info? t = some i ∧ i.zero = some z ∧ i.size = s ∧ i.bytes = b := by
  cases e : Tryz.prog.info? t with
  | none => rw [e] at h; cases h
  | some i =>
    rw [e] at h
    simp only [Option.map_some, Option.some.injEq, Prod.mk.injEq] at h
    exact ⟨i, rfl, h.1, h.2.1, h.2.2⟩
/-- An append whose run is known. -/
theorem wpList_append_eq {P : Program} {w : World} {ops : Array Oper} {rest : List Oper} {o : Oper} {a : Act} {Q : Exit → Act → World → Prop} (hgd : o.guard = none) (s x : Go.Operand) (t u : TypeId)
    (ho : o.op = .call { callee := .builtin .append, args := #[s, x], argTypes := #[t, u] }) (v y v' : Value) (w' : World) (hs : a.eval s = v) (hx : a.eval x = y)
    (hr : (Builtin.append_ #[t, u] o.type #[v, y]).run P w = .ok v' w') (h : wpList P ops Q rest (a.put o.dst v') w') : wpList P ops Q (o :: rest) a w :=
  wpList_plain hgd fun _ hK => by
    unfold Oper.wp execOp
    simp only [ho, resolve, invoke, builtin, Sem.run_bind, Sem.run_pure, Result.andThen_ok, List.map_toArray, List.map_cons, List.map_nil, hs, hx, hr]
    exact hK _ _ h
def bys (l : List UInt8) : List Value := l.map fun b => .int .u8 (b.toNat : Int)
/-- A list of bytes of one's own, and all that stood stands. -/
structure BV (w : World) (v : Value) (xs : List UInt8) (wx : World) : Prop where
  own : wx.ownsRow w.heap.size 5 1 v xs.length (bys xs)
  below : Bw w wx
theorem BV.nil (w : World) : BV w (.slice none 0 0) [] w := ⟨⟨rfl, .inl ⟨rfl, rfl⟩⟩, Below.refl _ _⟩
theorem BV.next {w : World} {v : Value} {xs : List UInt8} {wx wy : World} (h : BV w v xs wx) (hb : Bw wx wy) : BV w v xs wy := ⟨own_next h.own hb, h.below.tr hb⟩
theorem BV.form {w : World} {v : Value} {xs : List UInt8} {wx : World} (h : BV w v xs wx) : ∃ p c, v = .slice p xs.length c ∧ ((xs.length = 0 ∧ p = none ∧ c = 0) ∨ ∃ g, p = some ⟨g, 0, none⟩ ∧ xs.length ≤ c) := by
  rcases h.own.2 with ⟨rfl, h0⟩ | ⟨g, cap, cur, rfl, -, -, hc, -⟩
  · exact ⟨none, 0, by rw [h0], .inl ⟨h0, rfl, rfl⟩⟩
  · exact ⟨_, _, rfl, .inr ⟨g, rfl, hc⟩⟩
theorem BV.one {w : World} {v : Value} {xs : List UInt8} {wx : World} (h : BV w v xs wx) (hl : xs.length < 140737488355328) (y : UInt8) :
    ∃ g c w', (Builtin.append_ #[46, 46] 46 #[v, .slice (some ⟨wx.heap.size, 0, none⟩) 1 1]).run Tryz.prog (wx.alloc (.cells #[.int .u8 (y.toNat : Int)] 5)) = .ok (.slice (some ⟨g, 0, none⟩) (xs.length + 1) c) w' ∧ BV w (.slice (some ⟨g, 0, none⟩) (xs.length + 1) c) (xs ++ [y]) w' := by
  obtain ⟨i0, hi, hz0, hz1, hz2⟩ := info_parts info5
  have hmax : maxLen = 9223372036854775807 := rfl
  have h1 := h.next (Bw.al wx (.cells #[.int .u8 (y.toNat : Int)] 5))
  obtain ⟨g, c, w', r1, r2, r3, -, -⟩ := run_append_lies (P := Tryz.prog) (w := wx.alloc (.cells #[.int .u8 (y.toNat : Int)] 5)) 46 46 w.heap.size 5 i0 (.int .u8 0) 1 1 Tryz.underlying46 hi hz0 hz1 hz2 rfl (by decide) v xs.length (bys xs) h1.own ⟨wx.heap.size, 0, none⟩ 1 1 [.int .u8 (y.toNat : Int)] rfl (World.news_of_block (heap_alloc_new wx _)) (by simp [Value.oneCell']) (by decide) (by omega) (by omega) h1.below.size _ rfl
  refine ⟨g, c, w', r1, ⟨?_, h1.below.grown r3 h1.below.size (fun q hq => (h1.own.lt q hq).1)⟩⟩
  have e : bys (xs ++ [y]) = bys xs ++ [.int .u8 (y.toNat : Int)] := by simp [bys]
  rw [e, List.length_append]
  exact r2
theorem strCells_bys (s : ByteArray) : strCells s = bys s.toList := by
  unfold strCells bys
  rw [ByteArray.toList_eq]
theorem size_list (s : ByteArray) : s.toList.length = s.size := by rw [ByteArray.toList_eq]; rfl
theorem BV.str {w : World} {v : Value} {xs : List UInt8} {wx : World} (h : BV w v xs wx) (s : ByteArray) (hl : xs.length + s.size ≤ 140737488355328) :
    ∃ v' w', (Builtin.append_ #[46, 9] 46 #[v, .string s]).run Tryz.prog wx = .ok v' w' ∧ BV w v' (xs ++ s.toList) w' := by
  obtain ⟨i0, hi, hz0, hz1, hz2⟩ := info_parts info5
  have hmax : maxLen = 9223372036854775807 := rfl
  obtain ⟨v', w', r1, r2, r3, -⟩ := run_append_own_string (P := Tryz.prog) (w := wx) w.heap.size 46 9 46 5 i0 Tryz.underlying46 Tryz.underlying9 hi hz0 hz1 hz2 v xs.length (bys xs) h.own s (by omega) hl h.below.size
  refine ⟨v', w', r1, ⟨?_, h.below.grown r3 h.below.size (fun q hq => (h.own.lt q hq).1)⟩⟩
  have e : bys (xs ++ s.toList) = bys xs ++ strCells s := by rw [strCells_bys]; simp [bys]
  rw [e, List.length_append, size_list]
  exact r2
/-- The text of some bytes. -/
def txt (l : List UInt8) : ByteArray := ⟨l.toArray⟩
theorem BV.text {w : World} {xs : List UInt8} {wx : World} {g n c : Nat} (h : BV w (.slice (some ⟨g, 0, none⟩) n c) xs wx) (k c' : Nat) (hk : k ≤ xs.length) :
    (convert 46 9 (.slice (some ⟨g, 0, none⟩) k c')).run Tryz.prog wx = .ok (.string (txt (xs.take k))) wx := by
  have hlk : (xs.take k).length = k := by rw [List.length_take]; omega
  have h1 := run_convert_bytes_back (P := Tryz.prog) wx 46 9 5 ⟨g, 0, none⟩ c' (xs.take k) Tryz.underlying46 Tryz.underlying5 Tryz.underlying9 (fun j hj => by
    refine World.ownsRow.cells h.own (g := g) rfl j _ ?_
    unfold bys
    rw [hlk] at hj
    rw [List.getElem?_map, List.getElem?_eq_getElem (by omega), List.getElem_take]
    rfl)
  rw [hlk] at h1
  exact h1
theorem nil_text (wx : World) : (convert 46 9 (.slice none 0 0)).run Tryz.prog wx = .ok (.string nul) wx := by
  rw [run_convert_bytes_string wx 46 9 5 none 0 0 Tryz.underlying46 Tryz.underlying5 Tryz.underlying9]
  simp [Conv.bytesToString]
  rfl
end Go.Proofs.YtomgjjngkffbbaaGreatDoor.fw

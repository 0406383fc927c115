
/- Bytes that grow, and texts made of them. Nothing is walked here. Conditions: as each theorem says. -/
import Derived.Test.YtilebjcpmnclmaaDoorRows
import Derived.WalkKit
import Derived.ProofKit
import Derived.WalkSpells
import Derived.WalkLawsBesides
import Derived.Below
import Derived.Lib.Bytealg
import Derived.Lib.Walk
import Derived.Deep.DeepCutAuto
import Derived.Deep.RegionHeld3
import Derived.Sort.Grow
import Derived.OwnWalk
import Derived.Deep.AppendLies
import Derived.Deep.RegionHeldLaw
import Derived.Deep.CutBlock
import Derived.Lib.AppendStr
import Derived.Laws.BytesString
namespace Go.Proofs.YtilebjcpmnclmaaDoor.fw
open Go.RowKit Go.Sort Go.Lib
def Hid (P : Prop) : Prop := P
theorem Hid.out {P : Prop} (h : Hid P) : P := h
abbrev nul : ByteArray := { data := #[] }
abbrev Bw (w w' : World) : Prop := Below w.heap.size w w'
theorem bnext {B : Nat} {w x y : World} (h : Below B w x) (h2 : Below x.heap.size x y) (hB : B ≤ x.heap.size) : Below B w y := h.trans (h2.mono hB)
theorem Bw.al (w : World) (o : Obj) : Bw w (w.alloc o) := (Below.refl _ _).alloc (Nat.le_refl _) _
theorem Bw.tr {a b c : World} (h : Bw a b) (h2 : Bw b c) : Bw a c := bnext h h2 h.size
theorem own_next {w : World} {base n t s : Nat} {v : Value} {xs : List Value} (h : w.ownsRow base t s v n xs) {w' : World} (hb : Bw w w') : w'.ownsRow base t s v n xs := by
  obtain ⟨h0, h | ⟨g, cap, cur, h1, h2, h3, h4⟩⟩ := h
  · exact ⟨h0, Or.inl h⟩
  · exact ⟨h0, Or.inr ⟨g, cap, cur, h1, h2, by rw [hb.block g (Array.getElem?_eq_some_iff.1 h3).1]; exact h3, h4⟩⟩
theorem info5 : (Tryd.prog.info? 5).map (fun i => (i.zero, i.size, i.bytes)) = some (some (.int .u8 0), 1, 1) := by kernel_rfl
theorem info_parts {t : TypeId} {z : Value} {s b : Nat} (h : (Tryd.prog.info? t).map (fun i => (i.zero, i.size, i.bytes)) = some (some z, s, b)) : ∃ i, Tryd.prog.info? t = some i ∧ i.zero = some z ∧ i.size = s ∧ i.bytes = b := by
  cases e : Tryd.prog.info? t with
  | none => rw [e] at h; cases h
  | some i =>
    rw [e] at h
    simp only [Option.map_some, Option.some.injEq, Prod.mk.injEq] at h
    exact ⟨i, rfl, h.1, h.2.1, h.2.2⟩
/-- An append whose run is known. -/
theorem wpList_append_eq {P : Program} {w : World} {ops : Array Oper} {rest : List Oper} {o : Oper} {a : Act} {Q : Exit → Act → World → Prop} (hgd : o.guard = none) (s x : Go.Operand) (t u : TypeId)
    (ho : o.op = .call { callee := .builtin .append, args := #[s, x], argTypes := #[t, u] }) (v y v' : Value) (w' : World) (hs : a.eval s = v) (hx : a.eval x = y)
    (hr : (Builtin.append_ #[t, u] o.type #[v, y]).run P w = .ok v' w') (h : wpList P ops Q rest (a.put o.dst v') w') : wpList P ops Q (o :: rest) a w :=
  wpList_plain hgd fun _ hK => by
    unfold Oper.wp execOp
    simp only [ho, resolve, invoke, builtin, Sem.run_bind, Sem.run_pure, Result.andThen_ok, List.map_toArray, List.map_cons, List.map_nil, hs, hx, hr]
    exact hK _ _ h
def bys (l : List UInt8) : List Value := l.map fun b => .int .u8 (b.toNat : Int)
/-- A list of bytes of one's own, and all that stood stands. -/
structure BV (w : World) (v : Value) (xs : List UInt8) (wx : World) : Prop where
  own : wx.ownsRow w.heap.size 5 1 v xs.length (bys xs)
  below : Bw w wx
theorem BV.nil (w : World) : BV w (.slice none 0 0) [] w := ⟨⟨rfl, .inl ⟨rfl, rfl⟩⟩, Below.refl _ _⟩
theorem BV.next {w : World} {v : Value} {xs : List UInt8} {wx wy : World} (h : BV w v xs wx) (hb : Bw wx wy) : BV w v xs wy := ⟨own_next h.own hb, h.below.tr hb⟩
theorem BV.form {w : World} {v : Value} {xs : List UInt8} {wx : World} (h : BV w v xs wx) : ∃ p c, v = .slice p xs.length c ∧ ((xs.length = 0 ∧ p = none ∧ c = 0) ∨ ∃ g, p = some ⟨g, 0, none⟩ ∧ xs.length ≤ c) := by
  rcases h.own.2 with ⟨rfl, h0⟩ | ⟨g, cap, cur, rfl, -, -, hc, -⟩
  · exact ⟨none, 0, by rw [h0], .inl ⟨h0, rfl, rfl⟩⟩
  · exact ⟨_, _, rfl, .inr ⟨g, rfl, hc⟩⟩
theorem strCells_bys (s : ByteArray) : strCells s = bys s.toList := by
  unfold strCells bys
  rw [ByteArray.toList_eq]
theorem size_list (s : ByteArray) : s.toList.length = s.size := by rw [ByteArray.toList_eq]; rfl
/-- The text of some bytes. -/
def txt (l : List UInt8) : ByteArray := ⟨l.toArray⟩
end Go.Proofs.YtilebjcpmnclmaaDoor.fw

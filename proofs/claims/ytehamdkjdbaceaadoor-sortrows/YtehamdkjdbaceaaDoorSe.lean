
/- A list of numbers that grows. Conditions: as each theorem says. -/
import Derived.Test.YtehamdkjdbaceaaDoorSd
import Derived.Deep.RegionHeldLaw
namespace Go.Proofs.YtehamdkjdbaceaaDoor.so
open Go.RowKit Go.Sort Go.Shelf
theorem info3 : (Tryd.prog.info? 3).map (fun i => (i.zero, i.size, i.bytes)) = some (some (.int .i64 0), 1, 8) := by kernel_rfl
theorem info_parts {t : TypeId} {z : Value} {s b : Nat} (h : (Tryd.prog.info? t).map (fun i => (i.zero, i.size, i.bytes)) = some (some z, s, b)) : ∃ i, Tryd.prog.info? t = some i ∧ i.zero = some z ∧ i.size = s ∧ i.bytes = b := by
  cases e : Tryd.prog.info? t with
  | none => rw [e] at h; cases h
  | some i =>
    rw [e] at h
    simp only [Option.map_some, Option.some.injEq, Prod.mk.injEq] at h
    exact ⟨i, rfl, h.1, h.2.1, h.2.2⟩
/-- An append whose run is known. -/
theorem wpList_append_eq {P : Program} {w : World} {ops : Array Oper} {rest : List Oper} {o : Oper} {a : Act} {Q : Exit → Act → World → Prop} (hgd : o.guard = none) (s x : Go.Operand) (t : TypeId)
    (ho : o.op = .call { callee := .builtin .append, args := #[s, x], argTypes := #[t, t] }) (v y v' : Value) (w' : World) (hs : a.eval s = v) (hx : a.eval x = y)
    (hr : (Builtin.append_ #[t, t] o.type #[v, y]).run P w = .ok v' w') (h : wpList P ops Q rest (a.put o.dst v') w') : wpList P ops Q (o :: rest) a w :=
  wpList_plain hgd fun _ hK => by
    unfold Oper.wp execOp
    simp only [ho, resolve, invoke, builtin, Sem.run_bind, Sem.run_pure, Result.andThen_ok, List.map_toArray, List.map_cons, List.map_nil, hs, hx, hr]
    exact hK _ _ h
abbrev ints (xs : List Int) : List Value := xs.map (fun x => .int .i64 x)
theorem own_next {w : World} {base n t s : Nat} {v : Value} {xs : List Value} (h : w.ownsRow base t s v n xs) {w' : World} (hb : Bw w w') : w'.ownsRow base t s v n xs := by
  obtain ⟨h0, h | ⟨g, cap, cur, h1, h2, h3, h4⟩⟩ := h
  · exact ⟨h0, Or.inl h⟩
  · exact ⟨h0, Or.inr ⟨g, cap, cur, h1, h2, by rw [hb.block g (Array.getElem?_eq_some_iff.1 h3).1]; exact h3, h4⟩⟩
/-- A list of numbers of one's own, and all that stood stands. -/
structure IV (w : World) (v : Value) (xs : List Int) (wx : World) : Prop where
  own : wx.ownsRow w.heap.size 3 1 v xs.length (ints xs)
  below : Bw w wx
theorem IV.nil (w : World) : IV w (.slice none 0 0) [] w := ⟨⟨rfl, .inl ⟨rfl, rfl⟩⟩, Below.refl _ _⟩
theorem IV.next {w : World} {v : Value} {xs : List Int} {wx wy : World} (h : IV w v xs wx) (hb : Bw wx wy) : IV w v xs wy := ⟨own_next h.own hb, h.below.tr hb⟩
theorem IV.one {w : World} {v : Value} {xs : List Int} {wx : World} (h : IV w v xs wx) (hl : xs.length < 8796093022208) (y : Int) :
    ∃ g c w', (Builtin.append_ #[24, 24] 24 #[v, .slice (some ⟨wx.heap.size, 0, none⟩) 1 1]).run Tryd.prog (wx.alloc (.cells #[.int .i64 y] 3)) = .ok (.slice (some ⟨g, 0, none⟩) (xs.length + 1) c) w' ∧ IV w (.slice (some ⟨g, 0, none⟩) (xs.length + 1) c) (xs ++ [y]) w' := by
  obtain ⟨i0, hi, hz0, hz1, hz2⟩ := info_parts info3
  have hmax : maxLen = 9223372036854775807 := rfl
  have h1 := h.next (Bw.al wx (.cells #[.int .i64 y] 3))
  obtain ⟨g, c, w', r1, r2, r3, -, -⟩ := run_append_lies (P := Tryd.prog) (w := wx.alloc (.cells #[.int .i64 y] 3)) 24 24 w.heap.size 3 i0 (.int .i64 0) 1 8 Tryd.underlying24 hi hz0 hz1 hz2 rfl (by decide) v xs.length (ints xs) h1.own ⟨wx.heap.size, 0, none⟩ 1 1 [.int .i64 y] rfl (World.news_of_block (heap_alloc_new wx _)) (by simp [Value.oneCell']) (by decide) (by omega) (by omega) h1.below.size _ rfl
  refine ⟨g, c, w', r1, ⟨?_, h1.below.grown r3 h1.below.size (fun q hq => (h1.own.lt q hq).1)⟩⟩
  have e : ints (xs ++ [y]) = ints xs ++ [.int .i64 y] := by simp
  rw [e, List.length_append]
  exact r2
/-- The numbers of a list as memory has them. -/
theorem IV.im {w : World} {v : Value} {xs : List Int} {wx : World} (h : IV w v xs wx) : ∃ p c, v = .slice p xs.length c ∧ IM wx p xs.length (fun i => xs.getD i 0) := by
  rcases h.own.2 with ⟨rfl, h0⟩ | ⟨g, cap, cur, rfl, hb, hg, hc, hm, hz, ht⟩
  · exact ⟨none, 0, by rw [h0], .inl h0⟩
  · refine ⟨_, _, rfl, .inr ⟨g, 0, rfl, (Array.getElem?_eq_some_iff.1 hg).1, fun i hi => ?_⟩⟩
    have e : (cur.toList.take (xs.length * 1))[i]? = (ints xs)[i]? := by rw [ht]
    rw [List.getElem?_take, if_pos (by omega), Array.getElem?_toList, List.getElem?_map, List.getElem?_eq_getElem hi] at e
    dsimp only
    rw [Nat.zero_add, List.getD_eq_getElem?_getD, List.getElem?_eq_getElem hi]
    simp only [World.cell?, hg]
    simpa using e
end Go.Proofs.YtehamdkjdbaceaaDoor.so

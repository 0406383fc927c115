
/- Bytes, texts and rows of texts that grow beside each other. Nothing is walked here. Conditions: as each theorem says. -/
import Derived.Test.YtdinmgepdeigjaaGreatDoorCwb
namespace Go.Proofs.YtdinmgepdeigjaaGreatDoor.fw
open Go.RowKit Go.Sort
theorem own_kept {w w' : World} {base t s n : Nat} {v : Value} {xs : List Value} (h : w.ownsRow base t s v n xs) (hk : ∀ b, v.ownBlock = some b → w'.heap[b]? = w.heap[b]?) : w'.ownsRow base t s v n xs := by
  obtain ⟨h0, h | ⟨g, cap, cur, h1, h2, h3, h4⟩⟩ := h
  · exact ⟨h0, Or.inl h⟩
  · exact ⟨h0, Or.inr ⟨g, cap, cur, h1, h2, by rw [hk g (by rw [h1]; rfl)]; exact h3, h4⟩⟩
theorem own_lower {w : World} {base b' t s n : Nat} {v : Value} {xs : List Value} (h : w.ownsRow base t s v n xs) (hb : b' ≤ base) : w.ownsRow b' t s v n xs := by
  obtain ⟨h0, h | ⟨g, cap, cur, h1, h2, h3, h4⟩⟩ := h
  · exact ⟨h0, Or.inl h⟩
  · exact ⟨h0, Or.inr ⟨g, cap, cur, h1, Nat.le_trans hb h2, h3, h4⟩⟩
theorem own_blk {w : World} {base t s n : Nat} {v : Value} {xs : List Value} (h : w.ownsRow base t s v n xs) {b : Nat} (hb : v.ownBlock = some b) : ∃ cs, w.heap[b]? = some (.cells cs t (0, 0)) := by
  obtain ⟨-, ⟨rfl, -⟩ | ⟨g, cap, cur, rfl, -, h3, -⟩⟩ := h
  · cases hb
  · obtain rfl : g = b := by simpa [Value.ownBlock] using hb
    exact ⟨_, h3⟩
theorem blk_types {w : World} {b t t' : Nat} {cs cs' : Array Value} {f f' : Nat × Nat} (h : w.heap[b]? = some (.cells cs t f)) (h' : w.heap[b]? = some (.cells cs' t' f')) : t = t' := by
  rw [h] at h'
  injection h' with e
  injection e
/-- An append of one cell to a list of one's own. -/
theorem own_app {w : World} {base n : Nat} {t S : TypeId} {z : Value} {by' : Nat} (hu : Tryz.prog.underlying S = some (.slice t)) (hin : (Tryz.prog.info? t).map (fun i => (i.zero, i.size, i.bytes)) = some (some z, 1, by')) (hz : z.cells.size = 1) {v : Value} {xs : List Value} (h : w.ownsRow base t 1 v n xs) (hb : base ≤ w.heap.size) (hl : (n + 1) * by' ≤ 140737488355328) (hm : n + 1 ≤ 9223372036854775807) (y : Value) (hy : y.oneCell' = true) :
    ∃ g c w', (Builtin.append_ #[S, S] S #[v, .slice (some ⟨w.heap.size, 0, none⟩) 1 1]).run Tryz.prog (w.alloc (.cells #[y] t)) = .ok (.slice (some ⟨g, 0, none⟩) (n + 1) c) w' ∧ w'.ownsRow base t 1 (.slice (some ⟨g, 0, none⟩) (n + 1) c) (n + 1) (xs ++ [y]) ∧ (∀ b, b < w.heap.size → v.ownBlock ≠ some b → w'.heap[b]? = w.heap[b]?) ∧ Below base w w' ∧ (g < w.heap.size → v.ownBlock = some g) := by
  obtain ⟨i0, hi, hz0, hz1, hz2⟩ := info_parts hin
  have hmax : maxLen = 9223372036854775807 := rfl
  have h1 := own_next h (Bw.al w (.cells #[y] t))
  obtain ⟨g, c, w', r1, r2, r3, r4, -⟩ := run_append_lies (P := Tryz.prog) (w := w.alloc (.cells #[y] t)) S S base t i0 z 1 by' hu hi hz0 hz1 hz2 hz (by decide) v n xs h1 ⟨w.heap.size, 0, none⟩ 1 1 [y] rfl (World.news_of_block (heap_alloc_new w _)) (by simpa using hy) (by decide) (by omega) (by omega) (by simp; omega) _ rfl
  refine ⟨g, c, w', r1, r2, fun b hb' hne => ?_, ?_, fun hg => ?_⟩
  · rw [r3.block b (by simp; omega) (fun e => hne e.symm)]
    exact heap_alloc_old w _ hb'
  · exact ((Below.refl base w).alloc hb _).grown r3 (by simp; omega) (fun q hq => (h1.lt q hq).1)
  · rcases r4 with r4 | r4
    · exact r4
    · simp at r4; omega
/-- A row that is done: where it lies, its texts, its room. -/
structure Rw where
  p : Option Addr
  r : List (List UInt8)
  c : Nat
def Rw.cell (x : Rw) : Value := .slice x.p x.r.length x.c
def tcs (r : List (List UInt8)) : List Value := r.map fun f => .string (txt f)
/-- A done row lies in a block that is not the list's vr. -/
def DN (wx : World) (vr : Value) (x : Rw) : Prop := x.r = [] ∨ ∃ b cs, x.p = some ⟨b, 0, none⟩ ∧ wx.heap[b]? = some (.cells cs 9 (0, 0)) ∧ vr.ownBlock ≠ some b ∧ ∀ (i : Nat) (f : List UInt8), x.r[i]? = some f → cs[i]? = some (.string (txt f))
/-- Done rows, a row and a field that grow. -/
structure TS (w : World) (vo vr vf : Value) (out : List Rw) (row : List (List UInt8)) (f : List UInt8) (wx : World) : Prop where
  below : Bw w wx
  oo : wx.ownsRow w.heap.size 29 1 vo out.length (out.map Rw.cell)
  ro : wx.ownsRow w.heap.size 9 1 vr row.length (tcs row)
  fo : wx.ownsRow w.heap.size 5 1 vf f.length (bys f)
  done : ∀ x ∈ out, DN wx vr x
abbrev nls : Value := .slice none 0 0
theorem TS.nil (w : World) : TS w nls nls nls [] [] [] w := ⟨Below.refl _ _, ⟨rfl, .inl ⟨rfl, rfl⟩⟩, ⟨rfl, .inl ⟨rfl, rfl⟩⟩, ⟨rfl, .inl ⟨rfl, rfl⟩⟩, fun _ h => absurd h List.not_mem_nil⟩
theorem DN.next {wx wy : World} {vr : Value} {x : Rw} (h : DN wx vr x) (hb : Bw wx wy) : DN wy vr x := by
  rcases h with h | ⟨b, cs, h1, h2, h3⟩
  · exact .inl h
  · exact .inr ⟨b, cs, h1, by rw [hb.block b (Array.getElem?_eq_some_iff.1 h2).1]; exact h2, h3⟩
theorem TS.next {w : World} {vo vr vf : Value} {out : List Rw} {row : List (List UInt8)} {f : List UInt8} {wx wy : World} (h : TS w vo vr vf out row f wx) (hb : Bw wx wy) : TS w vo vr vf out row f wy :=
  ⟨h.below.tr hb, own_next h.oo hb, own_next h.ro hb, own_next h.fo hb, fun x hx => (h.done x hx).next hb⟩
theorem ty59 : (5 : TypeId) ≠ 9 := by decide
theorem ty5o : (5 : TypeId) ≠ 29 := by decide
theorem ty9o : (9 : TypeId) ≠ 29 := by decide
theorem own_apart {w : World} {b1 b2 t1 t2 s1 s2 n1 n2 : Nat} {v1 v2 : Value} {x1 x2 : List Value} (h1 : w.ownsRow b1 t1 s1 v1 n1 x1) (h2 : w.ownsRow b2 t2 s2 v2 n2 x2) (ht : t1 ≠ t2) {b : Nat} (e : v1.ownBlock = some b) : v2.ownBlock ≠ some b := fun e2 => by
  obtain ⟨c1, g1⟩ := own_blk h1 e
  obtain ⟨c2, g2⟩ := own_blk h2 e2
  exact ht (blk_types g1 g2)
theorem infoS : (Tryz.prog.info? 9).map (fun i => (i.zero, i.size, i.bytes)) = some (some (.string nul), 1, 16) := by kernel_rfl
theorem infoR : (Tryz.prog.info? 29).map (fun i => (i.zero, i.size, i.bytes)) = some (some (.slice none 0 0), 1, 24) := by kernel_rfl
section
variable {w : World} {vo vr vf : Value} {out : List Rw} {row : List (List UInt8)} {f : List UInt8} {wx : World}
theorem TS.byte (h : TS w vo vr vf out row f wx) (hl : f.length < 1000000) (y : UInt8) :
    ∃ g c w', (Builtin.append_ #[89, 89] 89 #[vf, .slice (some ⟨wx.heap.size, 0, none⟩) 1 1]).run Tryz.prog (wx.alloc (.cells #[.int .u8 (y.toNat : Int)] 5)) = .ok (.slice (some ⟨g, 0, none⟩) (f.length + 1) c) w' ∧ TS w vo vr (.slice (some ⟨g, 0, none⟩) (f.length + 1) c) out row (f ++ [y]) w' := by
  obtain ⟨g, c, w', r1, r2, r3, r4, -⟩ := own_app (S := 89) Tryz.underlying89 info5 rfl h.fo h.below.size (by omega) (by omega) (.int .u8 (y.toNat : Int)) rfl
  refine ⟨g, c, w', r1, h.below.trans r4, own_kept h.oo fun b hb => r3 b (h.oo.lt b hb).2 (own_apart h.oo h.fo (Ne.symm ty5o) hb), own_kept h.ro fun b hb => r3 b (h.ro.lt b hb).2 (own_apart h.ro h.fo (Ne.symm ty59) hb), ?_, fun x hx => ?_⟩
  · have e : bys (f ++ [y]) = bys f ++ [.int .u8 (y.toNat : Int)] := by simp [bys]
    rw [e, List.length_append]
    exact r2
  · rcases h.done x hx with h0 | ⟨b, cs, h1, h2, h3, h4⟩
    · exact .inl h0
    · refine .inr ⟨b, cs, h1, ?_, h3, h4⟩
      rw [r3 b (Array.getElem?_eq_some_iff.1 h2).1 (fun e => by obtain ⟨c', g'⟩ := own_blk h.fo e; exact ty59 (blk_types g' h2))]
      exact h2
theorem TS.text (h : TS w vo vr vf out row f wx) (hl : row.length < 1000000) (y : List UInt8) :
    ∃ g c w', (Builtin.append_ #[29, 29] 29 #[vr, .slice (some ⟨wx.heap.size, 0, none⟩) 1 1]).run Tryz.prog (wx.alloc (.cells #[.string (txt y)] 9)) = .ok (.slice (some ⟨g, 0, none⟩) (row.length + 1) c) w' ∧ TS w vo (.slice (some ⟨g, 0, none⟩) (row.length + 1) c) vf out (row ++ [y]) f w' := by
  obtain ⟨g, c, w', r1, r2, r3, r4, r5⟩ := own_app (S := 29) Tryz.underlying29 infoS rfl h.ro h.below.size (by omega) (by omega) (.string (txt y)) rfl
  refine ⟨g, c, w', r1, h.below.trans r4, own_kept h.oo fun b hb => r3 b (h.oo.lt b hb).2 (own_apart h.oo h.ro (Ne.symm ty9o) hb), ?_, own_kept h.fo fun b hb => r3 b (h.fo.lt b hb).2 (own_apart h.fo h.ro ty59 hb), fun x hx => ?_⟩
  · have e : tcs (row ++ [y]) = tcs row ++ [.string (txt y)] := by simp [tcs]
    rw [e, List.length_append]
    exact r2
  · rcases h.done x hx with h0 | ⟨b, cs, h1, h2, h3, h4⟩
    · exact .inl h0
    · have hbl := (Array.getElem?_eq_some_iff.1 h2).1
      refine .inr ⟨b, cs, h1, ?_, fun e => ?_, h4⟩
      · rw [r3 b hbl h3]
        exact h2
      · obtain rfl : g = b := by simpa [Value.ownBlock] using e
        exact h3 (r5 hbl)
theorem TS.line (h : TS w vo vr vf out row f wx) (hl : out.length < 1000000) (p : Option Addr) (k : Nat) (hv : vr = .slice p row.length k) :
    ∃ g c w', (Builtin.append_ #[23, 23] 23 #[vo, .slice (some ⟨wx.heap.size, 0, none⟩) 1 1]).run Tryz.prog (wx.alloc (.cells #[vr] 29)) = .ok (.slice (some ⟨g, 0, none⟩) (out.length + 1) c) w' ∧ TS w (.slice (some ⟨g, 0, none⟩) (out.length + 1) c) nls nls (out ++ [⟨p, row, k⟩]) [] [] w' := by
  obtain ⟨g, c, w', r1, r2, r3, r4, -⟩ := own_app (S := 23) Tryz.underlying23 infoR rfl h.oo h.below.size (by omega) (by omega) vr (by rw [hv]; rfl)
  have keep : ∀ (b : Nat) (cs : Array Value), wx.heap[b]? = some (Obj.cells cs 9 (0, 0)) → w'.heap[b]? = some (Obj.cells cs 9 (0, 0)) := fun b cs h2 => by
    rw [r3 b (Array.getElem?_eq_some_iff.1 h2).1 (fun e => by obtain ⟨c', g'⟩ := own_blk h.oo e; exact ty9o (blk_types h2 g'))]
    exact h2
  refine ⟨g, c, w', r1, h.below.trans r4, ?_, ⟨rfl, .inl ⟨rfl, rfl⟩⟩, ⟨rfl, .inl ⟨rfl, rfl⟩⟩, fun x hx => ?_⟩
  · have e : (out ++ [(⟨p, row, k⟩ : Rw)]).map Rw.cell = out.map Rw.cell ++ [vr] := by rw [List.map_append, hv]; rfl
    rw [e, List.length_append]
    exact r2
  · rcases List.mem_append.1 hx with hx | hx
    · rcases h.done x hx with h0 | ⟨b, cs, h1, h2, h3, h4⟩
      · exact .inl h0
      · exact .inr ⟨b, cs, h1, keep b cs h2, (by intro e; cases e), h4⟩
    · rw [List.mem_singleton] at hx
      subst hx
      rcases h.ro.2 with ⟨e, h0⟩ | ⟨g', cap, cur, e, -, h3, -, -, -, ht⟩
      · exact .inl (List.eq_nil_of_length_eq_zero h0)
      · have e2 := hv.symm.trans e
        injection e2 with e3
        refine .inr ⟨g', cur, e3, keep g' cur h3, (by intro e; cases e), fun i f hf => ?_⟩
        have hi : i < row.length := (List.getElem?_eq_some_iff.1 hf).1
        have e4 : (cur.toList.take (row.length * 1))[i]? = (tcs row)[i]? := by rw [ht]
        rw [List.getElem?_take, if_pos (by omega), Array.getElem?_toList] at e4
        rw [e4]
        unfold tcs
        rw [List.getElem?_map, show row[i]? = some f from hf]
        rfl
/-- A row that another call made. -/
theorem TS.take {v : Value} {q : List (List UInt8)} {wy : World} (h : TS w vo nls nls out [] [] wx) (hb : Bw wx wy) (hr : wy.ownsRow wx.heap.size 9 1 v q.length (tcs q)) : TS w vo v nls out q [] wy := by
  have h' := h.next hb
  refine ⟨h'.below, h'.oo, own_lower hr h.below.size, h'.fo, fun x hx => ?_⟩
  rcases h.done x hx with h0 | ⟨b, cs, h1, h2, h3, h4⟩
  · exact .inl h0
  · have hbl := (Array.getElem?_eq_some_iff.1 h2).1
    refine .inr ⟨b, cs, h1, by rw [hb.block b hbl]; exact h2, fun e => ?_, h4⟩
    have := (hr.lt b e).1
    omega
theorem own_form {w : World} {base t s n : Nat} {v : Value} {xs : List Value} (h : w.ownsRow base t s v n xs) : ∃ p c, v = .slice p n c := by
  rcases h.2 with ⟨rfl, h0⟩ | ⟨g, cap, cur, rfl, -⟩
  · exact ⟨none, 0, by rw [h0]⟩
  · exact ⟨_, _, rfl⟩
/-- The field as a text. -/
theorem TS.conv (h : TS w vo vr vf out row f wx) : (convert 89 9 vf).run Tryz.prog wx = .ok (.string (txt f)) wx := by
  rcases h.fo.2 with ⟨rfl, h0⟩ | ⟨g, cap, cur, e, -⟩
  · have e : f = [] := List.eq_nil_of_length_eq_zero h0
    subst e
    exact nil_text wx
  · have hv : vf.ownBlock = some g := by rw [e]; rfl
    have h1 := run_convert_bytes_back (P := Tryz.prog) wx 89 9 5 ⟨g, 0, none⟩ cap f Tryz.underlying89 Tryz.underlying5 Tryz.underlying9 (fun j hj => by
      refine World.ownsRow.cells h.fo hv j _ ?_
      unfold bys
      rw [List.getElem?_map, List.getElem?_eq_getElem hj]
      rfl)
    rw [e]
    exact h1
/-- The rows lie in memory. -/
theorem TS.rm (h : TS w vo vr vf out row f wx) : ∃ p c, vo = .slice p out.length c ∧ RM wx p (out.map fun x => x.r.map txt) := by
  rcases h.oo.2 with ⟨rfl, h0⟩ | ⟨g, cap, cur, e, -, h3, -, -, -, ht⟩
  · have e : out = [] := List.eq_nil_of_length_eq_zero h0
    subst e
    exact ⟨none, 0, rfl, .inl rfl⟩
  · refine ⟨_, _, e, .inr ⟨g, 0, rfl, (Array.getElem?_eq_some_iff.1 h3).1, fun i r hr => ?_⟩⟩
    rw [List.getElem?_map] at hr
    obtain ⟨x, hx, rfl⟩ := Option.map_eq_some_iff.1 hr
    have hi : i < out.length := (List.getElem?_eq_some_iff.1 hx).1
    have e4 : (cur.toList.take (out.length * 1))[i]? = (out.map Rw.cell)[i]? := by rw [ht]
    rw [List.getElem?_take, if_pos (by omega), Array.getElem?_toList, List.getElem?_map, hx] at e4
    refine ⟨x.p, x.c, ?_, ?_⟩
    · rw [List.length_map, Nat.zero_add]
      simp only [World.cell?, h3]
      exact e4
    · rcases h.done x (List.mem_of_getElem? hx) with h0 | ⟨b, cs, g1, g2, -, g4⟩
      · exact .inl (by rw [h0]; rfl)
      · refine .inr ⟨b, 0, g1, (Array.getElem?_eq_some_iff.1 g2).1, fun j s hs => ?_⟩
        rw [List.getElem?_map] at hs
        obtain ⟨y, hy, rfl⟩ := Option.map_eq_some_iff.1 hs
        rw [Nat.zero_add]
        simp only [World.cell?, g2]
        exact g4 j y hy
end
end Go.Proofs.YtdinmgepdeigjaaGreatDoor.fw

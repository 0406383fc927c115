
/- The document's Rows: a text as rows, walked. Conditions: as each theorem says. -/
import Derived.Test.YtldmjipkmplhbaaDoorCve
namespace Go.Proofs.YtldmjipkmplhbaaDoor.fw
open Go.RowKit Go.Sort
/-- What the document's Rows answers. -/
def RwO (w : World) (L : List UInt8) (e : Ending) (w' : World) : Prop :=
  (∃ (n : Nat) (er : Int), rdL L = ([], n, er) ∧ er ≠ 0 ∧ e = .returned (.tuple #[nls, .int .i64 (n : Int), .int .i64 er]) ∧ Bw w w') ∨ (∃ (out : List Rw) (v : Value), rdL L = (out.map (·.r), 0, 0) ∧ e = .returned (.tuple #[v, .int .i64 0, .int .i64 0]) ∧ TS w v nls nls out [] [] w')
/-- How far the reader by states came. -/
structure RI (w : World) (L : List UInt8) (TOT : RdR) (vo vr vf : Value) (st : Nat) (fr : Bool) (i : Nat) (out : List Rw) (row : List (List UInt8)) (f : List UInt8) (wr : World) : Prop where
  eq : mc st (out.map (·.r)) row f i (L.drop i) = TOT
  ts : TS w vo vr vf out row f wr
  lo : out.length ≤ i
  lr : row.length ≤ i
  lf : f.length ≤ i
  fr : fr = decide (st = 0 ∧ row = [])
  s3 : st = 3 → L[i]? ≠ some 34
  le : st ≤ 3
  f0 : st = 0 → f = []
section
variable {w : World} {L : List UInt8} {TOT : RdR} {vo vr vf : Value} {st : Nat} {fr : Bool} {i : Nat} {out : List Rw} {row : List (List UInt8)} {f : List UInt8} {wr : World}
theorem RI.quote2 (h : RI w L TOT vo vr vf 2 fr i out row f wr) (h1 : L[i]? = some 34) (h2 : L[i + 1]? = some 34) {v : Value} {w' : World} (ht : TS w vo vr v out row (f ++ [34]) w') : RI w L TOT vo vr v 2 fr (i + 2) out row (f ++ [34]) w' := by
  refine ⟨?_, ht, by have := h.lo; omega, by have := h.lr; omega, by have := h.lf; rw [List.length_append, List.length_singleton]; omega, h.fr, (fun e => by cases e), h.le, (fun e => by cases e)⟩
  rw [← h.eq, drop_at h1, drop_at h2, mc, if_pos rfl, if_pos rfl, mc, if_neg (by decide), if_neg (by decide), if_neg (fun h => absurd h.1 (by decide)), if_neg (by decide), if_pos rfl, if_neg (by decide), if_neg (by decide)]
theorem RI.quote3 (h : RI w L TOT vo vr vf 2 fr i out row f wr) (h1 : L[i]? = some 34) (h2 : L[i + 1]? ≠ some 34) : RI w L TOT vo vr vf 3 fr (i + 1) out row f wr := by
  refine ⟨?_, h.ts, by have := h.lo; omega, by have := h.lr; omega, by have := h.lf; omega, by rw [h.fr]; simp, fun _ => h2, by decide, (fun e => by cases e)⟩
  rw [← h.eq, drop_at h1, mc, if_pos rfl, if_pos rfl]
theorem RI.in2 (h : RI w L TOT vo vr vf 2 fr i out row f wr) {c : UInt8} (h1 : L[i]? = some c) (h34 : c ≠ 34) {v : Value} {w' : World} (ht : TS w vo vr v out row (f ++ [c]) w') : RI w L TOT vo vr v 2 fr (i + 1) out row (f ++ [c]) w' := by
  refine ⟨?_, ht, by have := h.lo; omega, by have := h.lr; omega, by have := h.lf; rw [List.length_append, List.length_singleton]; omega, h.fr, (fun e => by cases e), h.le, (fun e => by cases e)⟩
  rw [← h.eq, drop_at h1, mc, if_pos rfl, if_neg h34]
theorem RI.end1 (h : RI w L TOT vo vr vf st fr i out row f wr) (h2 : st ≠ 2) (h1 : L[i]? = some 10) {x : Rw} (hx : x.r = row ++ [f]) {v : Value} {w' : World} (ht : TS w v nls nls (out ++ [x]) [] [] w') : RI w L TOT v nls nls 0 true (i + 1) (out ++ [x]) [] [] w' := by
  refine ⟨?_, ht, by have := h.lo; rw [List.length_append, List.length_singleton]; omega, by simp, by simp, by simp, (fun e => by cases e), by decide, fun _ => rfl⟩
  rw [← h.eq, drop_at h1, mc, if_neg h2, if_pos rfl, List.map_append, List.map_singleton, hx]
theorem RI.end2 (h : RI w L TOT vo vr vf st fr i out row f wr) (h2 : st ≠ 2) (h1 : L[i]? = some 13) (h3 : L[i + 1]? = some 10) {x : Rw} (hx : x.r = row ++ [f]) {v : Value} {w' : World} (ht : TS w v nls nls (out ++ [x]) [] [] w') : RI w L TOT v nls nls 0 true (i + 2) (out ++ [x]) [] [] w' := by
  refine ⟨?_, ht, by have := h.lo; rw [List.length_append, List.length_singleton]; omega, by simp, by simp, by simp, (fun e => by cases e), by decide, fun _ => rfl⟩
  rw [← h.eq, drop_at h1, mc, if_neg h2, if_neg (by decide), if_pos ⟨rfl, by rw [drop_at h3]; rfl⟩, drop_at h3, mc, if_neg h2, if_pos rfl, List.map_append, List.map_singleton, hx]
theorem RI.comma (h : RI w L TOT vo vr vf st fr i out row f wr) (h2 : st ≠ 2) (h1 : L[i]? = some 44) {v : Value} {w' : World} (ht : TS w vo v vf out (row ++ [f]) f w') : RI w L TOT vo v nls 0 false (i + 1) out (row ++ [f]) [] w' := by
  refine ⟨?_, ⟨ht.below, ht.oo, ht.ro, ⟨rfl, .inl ⟨rfl, rfl⟩⟩, ht.done⟩, by have := h.lo; omega, by have := h.lr; rw [List.length_append, List.length_singleton]; omega, by simp, by simp, (fun e => by cases e), by decide, fun _ => rfl⟩
  rw [← h.eq, drop_at h1, mc, if_neg h2, if_neg (by decide), if_neg (fun h => absurd h.1 (by decide)), if_pos rfl]
theorem RI.opn (h : RI w L TOT vo vr vf 0 fr i out row f wr) (h1 : L[i]? = some 34) : RI w L TOT vo vr vf 2 false (i + 1) out row f wr := by
  refine ⟨?_, h.ts, by have := h.lo; omega, by have := h.lr; omega, by have := h.lf; omega, by simp, (fun e => by cases e), by decide, (fun e => by cases e)⟩
  rw [← h.eq, drop_at h1, mc, if_neg (by decide), if_neg (by decide), if_neg (fun h => absurd h.1 (by decide)), if_neg (by decide), if_pos rfl, if_pos rfl]
theorem RI.bad1 (h : RI w L TOT vo vr vf 1 fr i out row f wr) (h1 : L[i]? = some 34) : TOT = ([], i, 2) := by
  rw [← h.eq, drop_at h1, mc, if_neg (by decide), if_neg (by decide), if_neg (fun h => absurd h.1 (by decide)), if_neg (by decide), if_pos rfl, if_neg (by decide), if_pos rfl]
theorem not1310 {c : UInt8} {i : Nat} (hn : ¬ (c = 13 ∧ L[i + 1]? = some 10)) : ¬ (c = 13 ∧ (L.drop (i + 1)).head? = some 10) := by
  rw [List.head?_drop]
  exact hn
theorem RI.bad3 (h : RI w L TOT vo vr vf 3 fr i out row f wr) {c : UInt8} (h1 : L[i]? = some c) (h10 : c ≠ 10) (hn : ¬ (c = 13 ∧ L[i + 1]? = some 10)) (h44 : c ≠ 44) : TOT = ([], i, 2) := by
  have h34 : c ≠ 34 := fun e => h.s3 rfl (by rw [h1, e])
  rw [← h.eq, drop_at h1, mc, if_neg (by decide), if_neg h10, if_neg (not1310 hn), if_neg h44, if_neg h34, if_pos rfl]
theorem RI.more (h : RI w L TOT vo vr vf st fr i out row f wr) (hs : st = 0 ∨ st = 1) {c : UInt8} (h1 : L[i]? = some c) (h10 : c ≠ 10) (hn : ¬ (c = 13 ∧ L[i + 1]? = some 10)) (h44 : c ≠ 44) (h34 : c ≠ 34) {v : Value} {w' : World} (ht : TS w vo vr v out row (f ++ [c]) w') : RI w L TOT vo vr v 1 false (i + 1) out row (f ++ [c]) w' := by
  refine ⟨?_, ht, by have := h.lo; omega, by have := h.lr; omega, by have := h.lf; rw [List.length_append, List.length_singleton]; omega, by simp, (fun e => by cases e), by decide, (fun e => by cases e)⟩
  rw [← h.eq, drop_at h1, mc, if_neg (by rcases hs with rfl | rfl <;> decide), if_neg h10, if_neg (not1310 hn), if_neg h44, if_neg h34, if_neg (by rcases hs with rfl | rfl <;> decide)]
theorem RI.fin2 (h : RI w L TOT vo vr vf 2 fr i out row f wr) (hi : i = L.length) : TOT = ([], i, 2) := by
  rw [← h.eq, hi, List.drop_length, mc, if_pos rfl]
theorem RI.finF (h : RI w L TOT vo vr vf st true i out row f wr) (hi : i = L.length) : TOT = (out.map (·.r), 0, 0) := by
  have := h.fr
  have h0 : st = 0 ∧ row = [] := by simpa using this
  rw [← h.eq, hi, List.drop_length, mc, if_neg (by rw [h0.1]; decide), if_pos h0]
theorem RI.finT (h : RI w L TOT vo vr vf st false i out row f wr) (h2 : st ≠ 2) (hi : i = L.length) {x : Rw} (hx : x.r = row ++ [f]) : TOT = ((out ++ [x]).map (·.r), 0, 0) := by
  have := h.fr
  have h0 : ¬ (st = 0 ∧ row = []) := by simpa using this
  rw [← h.eq, hi, List.drop_length, mc, if_neg h2, if_neg h0, List.map_append, List.map_singleton, hx]
end
theorem byte_eq {b : UInt8} {n : Nat} (hn : n < 256) (h : b = UInt8.ofNat n) : (((b.toNat : Nat) : Int) == (n : Int)) = true := by
  subst h
  rw [beq_iff_eq]
  have : (UInt8.ofNat n).toNat = n := by rw [UInt8.toNat_ofNat']; exact Nat.mod_eq_of_lt hn
  omega
theorem byte_ne {b : UInt8} {n : Nat} (h : b ≠ UInt8.ofNat n) : (((b.toNat : Nat) : Int) == (n : Int)) = false := by
  refine beq_eq_false_iff_ne.2 fun e => h ?_
  have e2 : b.toNat = n := by omega
  rw [← e2, UInt8.ofNat_toNat]
theorem at_lf {s : ByteArray} {i : Nat} (h : i < s.size) : s.toList[i]? = some s[i] := by
  rw [ByteArray.toList_eq, Array.getElem?_toList]
  exact Array.getElem?_eq_getElem h
set_option maxRecDepth 1000000 in
set_option maxHeartbeats 8000000 in
theorem rrd_any (s : ByteArray) (w : World) (hs : s.size ≤ 140737488355328) :
    Calls Tryd.prog 9 #[.string s] w fun e w' => RwO w s.toList e w' := by
  have hlen : s.toList.length = s.size := size_list s
  have HLN : Hid (s.toList.length = s.size) := hlen
  clear hlen
  by_cases h4 : 4000 < s.size
  · have h4z : (s.size : Int) > 4000 := by omega
    have HR : Hid (RwO w s.toList (.returned (.tuple #[nls, .int .i64 0, .int .i64 4])) w) := by
      refine .inl ⟨0, 4, ?_, by decide, rfl, Below.refl _ _⟩
      unfold rdL
      rw [if_pos (by rw [HLN.out]; exact h4)]
    clear h4
    go_enter Tryd.func9, Tryd.ntmps9
    go_wp2_with fail
    exact bodyPost_ret (v := .tuple #[nls, .int .i64 0, .int .i64 4]) (by simp [results, Tryd.results9, go_sem]) rfl HR
  · have H4 : Hid (s.size ≤ 4000) := Nat.le_of_not_lt h4
    have HTOT : Hid (rdL s.toList = mc 0 [] [] [] 0 s.toList) := by
      show _ = _
      unfold rdL
      rw [if_neg (by rw [HLN.out]; exact h4)]
    obtain ⟨TOT, hTOT⟩ : ∃ T, mc 0 [] [] [] 0 s.toList = T := ⟨_, rfl⟩
    have HT0 : Hid (mc 0 [] [] [] 0 s.toList = TOT) := hTOT
    rw [hTOT] at HTOT
    clear hTOT
    have hn : ¬ (s.size : Int) > 4000 := by omega
    have hn2 : (s.size : Int) ≤ 4000 := by omega
    clear h4 hs
    go_enter Tryd.func9, Tryd.ntmps9
    go_upto_block 0 with fail
    go_cut [5, 6, 7, 8, 9] (fun s5 s6 s7 s8 s9 wx => ∃ (out : List Rw) (row : List (List UInt8)) (f : List UInt8) (st : Nat) (fr : Bool), s8 = .int .i64 (st : Int) ∧ s9 = .bool fr ∧ Hid (RI w s.toList TOT s5 s6 s7 st fr s.size out row f wx))
    case first =>
      go_wp2_with fail
      go_loopw [5, 6, 7, 8, 9, 10] (fun s5 s6 s7 s8 s9 s10 wr => ∃ (out : List Rw) (row : List (List UInt8)) (f : List UInt8) (st : Nat) (fr : Bool) (i : Nat), s8 = .int .i64 (st : Int) ∧ s9 = .bool fr ∧ s10 = .int .i64 (i : Int) ∧ i ≤ s.size ∧ Hid (RI w s.toList TOT s5 s6 s7 st fr i out row f wr)) (fun _ _ _ _ _ s10 _ => s.size - (intOf s10).toNat)
      case atStart => exact ⟨[], [], [], 0, true, 0, rfl, rfl, rfl, Nat.zero_le _, HT0.out, TS.nil w, Nat.le_refl _, Nat.le_refl _, Nat.le_refl _, rfl, (fun h => by cases h), by decide, fun _ => rfl⟩
      case round =>
        obtain ⟨out, row, f, st, fr, i, rfl, rfl, rfl, hi, HQ⟩ := hrel
        have hi0 : (0 : Int) ≤ (i : Int) := by omega
        by_cases hlt : i < s.size
        · have hlt' : (i : Int) < (s.size : Int) := by omega
          have HC : Hid (s.toList[i]? = some s[i]) := at_lf hlt
          by_cases h2 : st = 2
          · subst h2
            by_cases hb : s[i] = 34
            · have hbz : (((s[i].toNat : Nat) : Int) == 34) = true := byte_eq (n := 34) (by decide) hb
              by_cases hl2 : i + 1 < s.size
              · have hl2' : (i : Int) + 1 < (s.size : Int) := by omega
                have HC2 : Hid (s.toList[i + 1]? = some s[i + 1]) := at_lf hl2
                by_cases hb2 : s[i + 1] = 34
                · have hbz2 : (((s[i + 1].toNat : Nat) : Int) == 34) = true := byte_eq (n := 34) (by decide) hb2
                  have HI2 : Hid (i + 2 ≤ s.size) := hl2
                  have HLF : Hid (f.length < 1000000) := by have h1 := HQ.out.lf; have h2 := H4.out; show _ < _; omega
                  obtain ⟨pf, kf, e7⟩ := own_form HQ.out.ts.fo
                  subst e7
                  obtain ⟨g, c, w3, hr, hT⟩ := HQ.out.ts.byte HLF.out 34
                  have HRR : Hid ((Builtin.append_ #[39, 39] 39 #[.slice pf f.length kf, .slice (some ⟨wr.heap.size, 0, none⟩) 1 1]).run Tryd.prog (wr.alloc (.cells #[.int .u8 34] 5)) = .ok (.slice (some ⟨g, 0, none⟩) (f.length + 1) c) w3) := hr
                  have HN : Hid (RI w s.toList TOT u5 u6 (.slice (some ⟨g, 0, none⟩) (f.length + 1) c) 2 fr (i + 2) out row (f ++ [34]) w3) := HQ.out.quote2 (by rw [HC.out, hb]) (by rw [HC2.out, hb2]) hT
                  clear hr hT HQ HLF
                  go_wp2_with (at_builtin; refine wpList_append_eq rfl _ _ 39 39 rfl _ _ _ _ rfl rfl HRR.out ?_)
                  have hI2 := HI2.out
                  exact ⟨⟨out, row, f ++ [34], 2, fr, i + 2, rfl, rfl, rfl, HI2.out, HN⟩, by simp [intOf]; omega⟩
                · have hbz2 : (((s[i + 1].toNat : Nat) : Int) == 34) = false := byte_ne (n := 34) hb2
                  have HN : Hid (RI w s.toList TOT u5 u6 u7 3 fr (i + 1) out row f wr) := HQ.out.quote3 (by rw [HC.out, hb]) (by rw [HC2.out]; exact fun e => hb2 (Option.some.inj e))
                  clear HQ
                  go_wp2_with fail
                  exact ⟨⟨out, row, f, 3, fr, i + 1, rfl, rfl, rfl, hlt, HN⟩, by simp [intOf]; omega⟩
              · have hl2' : ¬ (i : Int) + 1 < (s.size : Int) := by omega
                have HN : Hid (RI w s.toList TOT u5 u6 u7 3 fr (i + 1) out row f wr) := HQ.out.quote3 (by rw [HC.out, hb]) (by rw [List.getElem?_eq_none (by rw [HLN.out]; omega)]; exact (fun e => by cases e))
                clear HQ
                go_wp2_with fail
                exact ⟨⟨out, row, f, 3, fr, i + 1, rfl, rfl, rfl, hlt, HN⟩, by simp [intOf]; omega⟩
            · have hbz : (((s[i].toNat : Nat) : Int) == 34) = false := byte_ne (n := 34) hb
              have HLF : Hid (f.length < 1000000) := by have h1 := HQ.out.lf; have h2 := H4.out; show _ < _; omega
              obtain ⟨pf, kf, e7⟩ := own_form HQ.out.ts.fo
              subst e7
              obtain ⟨g, c, w3, hr, hT⟩ := HQ.out.ts.byte HLF.out s[i]
              have HRR : Hid ((Builtin.append_ #[39, 39] 39 #[.slice pf f.length kf, .slice (some ⟨wr.heap.size, 0, none⟩) 1 1]).run Tryd.prog (wr.alloc (.cells #[.int .u8 (s[i].toNat : Int)] 5)) = .ok (.slice (some ⟨g, 0, none⟩) (f.length + 1) c) w3) := hr
              have HN : Hid (RI w s.toList TOT u5 u6 (.slice (some ⟨g, 0, none⟩) (f.length + 1) c) 2 fr (i + 1) out row (f ++ [s[i]]) w3) := HQ.out.in2 HC.out hb hT
              clear hr hT HQ HLF
              go_wp2_with (at_builtin; refine wpList_append_eq rfl _ _ 39 39 rfl _ _ _ _ rfl rfl HRR.out ?_)
              exact ⟨⟨out, row, f ++ [s[i]], 2, fr, i + 1, rfl, rfl, rfl, hlt, HN⟩, by simp [intOf]; omega⟩
          · have H2 : Hid (st ≠ 2) := h2
            have h2z : (((st : Nat) : Int) == 2) = false := beq_eq_false_iff_ne.2 (by omega)
            clear h2
            have hs3 : st = 0 ∨ st = 1 ∨ st = 3 := by have := HQ.out.le; have := H2.out; omega
            by_cases h10 : s[i] = 10
            · clear hs3
              have hbz : (((s[i].toNat : Nat) : Int) == 10) = true := byte_eq (n := 10) (by decide) h10
              have HLR : Hid (row.length < 1000000 ∧ out.length < 1000000) := by have h1 := HQ.out.lr; have h3 := HQ.out.lo; have h2 := H4.out; exact ⟨by omega, by omega⟩
              have hcv := HQ.out.ts.conv
              obtain ⟨pr, kr, e6⟩ := own_form HQ.out.ts.ro
              subst e6
              obtain ⟨po, ko, e5⟩ := own_form HQ.out.ts.oo
              subst e5
              obtain ⟨g2, c2, w3, hr, hT⟩ := HQ.out.ts.text HLR.out.1 f
              obtain ⟨g4, c4, w4, hr4, hT4⟩ := hT.line HLR.out.2 (some ⟨g2, 0, none⟩) c2 (by rw [List.length_append, List.length_singleton])
              have HRR : Hid ((Builtin.append_ #[37, 37] 37 #[.slice pr row.length kr, .slice (some ⟨wr.heap.size, 0, none⟩) 1 1]).run Tryd.prog (wr.alloc (.cells #[.string (txt f)] 9)) = .ok (.slice (some ⟨g2, 0, none⟩) (row.length + 1) c2) w3) := hr
              have HRR4 : Hid ((Builtin.append_ #[22, 22] 22 #[.slice po out.length ko, .slice (some ⟨w3.heap.size, 0, none⟩) 1 1]).run Tryd.prog (w3.alloc (.cells #[.slice (some ⟨g2, 0, none⟩) (row.length + 1) c2] 37)) = .ok (.slice (some ⟨g4, 0, none⟩) (out.length + 1) c4) w4) := hr4
              have HN : Hid (RI w s.toList TOT (.slice (some ⟨g4, 0, none⟩) (out.length + 1) c4) nls nls 0 true (i + 1) (out ++ [⟨some ⟨g2, 0, none⟩, row ++ [f], c2⟩]) [] [] w4) := HQ.out.end1 H2.out (by rw [HC.out, h10]) rfl hT4
              clear hr hT hr4 hT4 HQ HLR
              go_wp2_with (first | (at_builtin; refine wpList_append_eq rfl _ _ 37 37 rfl _ _ _ _ rfl rfl HRR.out ?_) | (at_builtin; refine wpList_append_eq rfl _ _ 22 22 rfl _ _ _ _ rfl rfl HRR4.out ?_))
              exact ⟨⟨out ++ [⟨some ⟨g2, 0, none⟩, row ++ [f], c2⟩], [], [], 0, true, i + 1, rfl, rfl, rfl, hlt, HN⟩, by simp [intOf]; omega⟩
            have hbz : (((s[i].toNat : Nat) : Int) == 10) = false := byte_ne (n := 10) h10
            by_cases h13 : s[i] = 13
            · have hbz13 : (((s[i].toNat : Nat) : Int) == 13) = true := byte_eq (n := 13) (by decide) h13
              by_cases hl2 : i + 1 < s.size
              · have hl2' : (i : Int) + 1 < (s.size : Int) := by omega
                have HC2 : Hid (s.toList[i + 1]? = some s[i + 1]) := at_lf hl2
                have HI2 : Hid (i + 2 ≤ s.size) := hl2
                by_cases hb2 : s[i + 1] = 10
                · clear hs3
                  have hbz2 : (((s[i + 1].toNat : Nat) : Int) == 10) = true := byte_eq (n := 10) (by decide) hb2
                  have HLR : Hid (row.length < 1000000 ∧ out.length < 1000000) := by have h1 := HQ.out.lr; have h3 := HQ.out.lo; have h2 := H4.out; exact ⟨by omega, by omega⟩
                  have hcv := HQ.out.ts.conv
                  obtain ⟨pr, kr, e6⟩ := own_form HQ.out.ts.ro
                  subst e6
                  obtain ⟨po, ko, e5⟩ := own_form HQ.out.ts.oo
                  subst e5
                  obtain ⟨g2, c2, w3, hr, hT⟩ := HQ.out.ts.text HLR.out.1 f
                  obtain ⟨g4, c4, w4, hr4, hT4⟩ := hT.line HLR.out.2 (some ⟨g2, 0, none⟩) c2 (by rw [List.length_append, List.length_singleton])
                  have HRR : Hid ((Builtin.append_ #[37, 37] 37 #[.slice pr row.length kr, .slice (some ⟨wr.heap.size, 0, none⟩) 1 1]).run Tryd.prog (wr.alloc (.cells #[.string (txt f)] 9)) = .ok (.slice (some ⟨g2, 0, none⟩) (row.length + 1) c2) w3) := hr
                  have HRR4 : Hid ((Builtin.append_ #[22, 22] 22 #[.slice po out.length ko, .slice (some ⟨w3.heap.size, 0, none⟩) 1 1]).run Tryd.prog (w3.alloc (.cells #[.slice (some ⟨g2, 0, none⟩) (row.length + 1) c2] 37)) = .ok (.slice (some ⟨g4, 0, none⟩) (out.length + 1) c4) w4) := hr4
                  have HN : Hid (RI w s.toList TOT (.slice (some ⟨g4, 0, none⟩) (out.length + 1) c4) nls nls 0 true (i + 2) (out ++ [⟨some ⟨g2, 0, none⟩, row ++ [f], c2⟩]) [] [] w4) := HQ.out.end2 H2.out (by rw [HC.out, h13]) (HC2.out.trans (congrArg some hb2)) rfl hT4
                  clear hr hT hr4 hT4 HQ HLR
                  go_wp2_with (first | (at_builtin; refine wpList_append_eq rfl _ _ 37 37 rfl _ _ _ _ rfl rfl HRR.out ?_) | (at_builtin; refine wpList_append_eq rfl _ _ 22 22 rfl _ _ _ _ rfl rfl HRR4.out ?_))
                  have hI2 := HI2.out
                  exact ⟨⟨out ++ [⟨some ⟨g2, 0, none⟩, row ++ [f], c2⟩], [], [], 0, true, i + 2, rfl, rfl, rfl, HI2.out, HN⟩, by simp [intOf]; omega⟩
                · have hbz2 : (((s[i + 1].toNat : Nat) : Int) == 10) = false := byte_ne (n := 10) hb2
                  have hnn : ¬ (s[i] = 13 ∧ s.toList[i + 1]? = some 10) := fun h => hb2 (by have := h.2; rw [HC2.out] at this; exact Option.some.inj this)
                  have h44 : s[i] ≠ 44 := by rw [h13]; decide
                  have h34 : s[i] ≠ 34 := by rw [h13]; decide
                  rcases hs3 with rfl | rfl | rfl
                  · clear h2z
                    have HLF : Hid (f.length < 1000000) := by have h1 := HQ.out.lf; have h2 := H4.out; show _ < _; omega
                    obtain ⟨pf, kf, e7⟩ := own_form HQ.out.ts.fo
                    subst e7
                    obtain ⟨g, c, w3, hr, hT⟩ := HQ.out.ts.byte HLF.out s[i]
                    have HRR : Hid ((Builtin.append_ #[39, 39] 39 #[.slice pf f.length kf, .slice (some ⟨wr.heap.size, 0, none⟩) 1 1]).run Tryd.prog (wr.alloc (.cells #[.int .u8 13] 5)) = .ok (.slice (some ⟨g, 0, none⟩) (f.length + 1) c) w3) := by rw [show ((s[i].toNat : Nat) : Int) = 13 by rw [h13]; rfl] at hr; exact hr
                    have HN : Hid (RI w s.toList TOT u5 u6 (.slice (some ⟨g, 0, none⟩) (f.length + 1) c) 1 false (i + 1) out row (f ++ [s[i]]) w3) := HQ.out.more (.inl rfl) HC.out h10 hnn h44 h34 hT
                    clear hr hT HQ HLF
                    go_wp2_with (at_builtin; refine wpList_append_eq rfl _ _ 39 39 rfl _ _ _ _ rfl rfl HRR.out ?_)
                    exact ⟨⟨out, row, f ++ [s[i]], 1, false, i + 1, rfl, rfl, rfl, hlt, HN⟩, by simp [intOf]; omega⟩
                  · clear h2z
                    have HLF : Hid (f.length < 1000000) := by have h1 := HQ.out.lf; have h2 := H4.out; show _ < _; omega
                    obtain ⟨pf, kf, e7⟩ := own_form HQ.out.ts.fo
                    subst e7
                    obtain ⟨g, c, w3, hr, hT⟩ := HQ.out.ts.byte HLF.out s[i]
                    have HRR : Hid ((Builtin.append_ #[39, 39] 39 #[.slice pf f.length kf, .slice (some ⟨wr.heap.size, 0, none⟩) 1 1]).run Tryd.prog (wr.alloc (.cells #[.int .u8 13] 5)) = .ok (.slice (some ⟨g, 0, none⟩) (f.length + 1) c) w3) := by rw [show ((s[i].toNat : Nat) : Int) = 13 by rw [h13]; rfl] at hr; exact hr
                    have HN : Hid (RI w s.toList TOT u5 u6 (.slice (some ⟨g, 0, none⟩) (f.length + 1) c) 1 false (i + 1) out row (f ++ [s[i]]) w3) := HQ.out.more (.inr rfl) HC.out h10 hnn h44 h34 hT
                    clear hr hT HQ HLF
                    go_wp2_with (at_builtin; refine wpList_append_eq rfl _ _ 39 39 rfl _ _ _ _ rfl rfl HRR.out ?_)
                    exact ⟨⟨out, row, f ++ [s[i]], 1, false, i + 1, rfl, rfl, rfl, hlt, HN⟩, by simp [intOf]; omega⟩
                  · clear h2z
                    have HR : Hid (RwO w s.toList (.returned (.tuple #[nls, .int .i64 (i : Int), .int .i64 2])) wr) := .inl ⟨i, 2, by rw [HTOT.out]; exact HQ.out.bad3 HC.out h10 hnn h44, by decide, rfl, HQ.out.ts.below⟩
                    clear HQ
                    go_wp2_with fail
                    exact bodyPost_ret (v := .tuple #[nls, .int .i64 (i : Int), .int .i64 2]) (by simp [results, Tryd.results9, go_sem]) rfl HR
              · have hl2' : ¬ (i : Int) + 1 < (s.size : Int) := by omega
                have hnn : ¬ (s[i] = 13 ∧ s.toList[i + 1]? = some 10) := fun h => by have := h.2; rw [List.getElem?_eq_none (by rw [HLN.out]; omega)] at this; cases this
                have h44 : s[i] ≠ 44 := by rw [h13]; decide
                have h34 : s[i] ≠ 34 := by rw [h13]; decide
                rcases hs3 with rfl | rfl | rfl
                · clear h2z
                  have HLF : Hid (f.length < 1000000) := by have h1 := HQ.out.lf; have h2 := H4.out; show _ < _; omega
                  obtain ⟨pf, kf, e7⟩ := own_form HQ.out.ts.fo
                  subst e7
                  obtain ⟨g, c, w3, hr, hT⟩ := HQ.out.ts.byte HLF.out s[i]
                  have HRR : Hid ((Builtin.append_ #[39, 39] 39 #[.slice pf f.length kf, .slice (some ⟨wr.heap.size, 0, none⟩) 1 1]).run Tryd.prog (wr.alloc (.cells #[.int .u8 13] 5)) = .ok (.slice (some ⟨g, 0, none⟩) (f.length + 1) c) w3) := by rw [show ((s[i].toNat : Nat) : Int) = 13 by rw [h13]; rfl] at hr; exact hr
                  have HN : Hid (RI w s.toList TOT u5 u6 (.slice (some ⟨g, 0, none⟩) (f.length + 1) c) 1 false (i + 1) out row (f ++ [s[i]]) w3) := HQ.out.more (.inl rfl) HC.out h10 hnn h44 h34 hT
                  clear hr hT HQ HLF
                  go_wp2_with (at_builtin; refine wpList_append_eq rfl _ _ 39 39 rfl _ _ _ _ rfl rfl HRR.out ?_)
                  exact ⟨⟨out, row, f ++ [s[i]], 1, false, i + 1, rfl, rfl, rfl, hlt, HN⟩, by simp [intOf]; omega⟩
                · clear h2z
                  have HLF : Hid (f.length < 1000000) := by have h1 := HQ.out.lf; have h2 := H4.out; show _ < _; omega
                  obtain ⟨pf, kf, e7⟩ := own_form HQ.out.ts.fo
                  subst e7
                  obtain ⟨g, c, w3, hr, hT⟩ := HQ.out.ts.byte HLF.out s[i]
                  have HRR : Hid ((Builtin.append_ #[39, 39] 39 #[.slice pf f.length kf, .slice (some ⟨wr.heap.size, 0, none⟩) 1 1]).run Tryd.prog (wr.alloc (.cells #[.int .u8 13] 5)) = .ok (.slice (some ⟨g, 0, none⟩) (f.length + 1) c) w3) := by rw [show ((s[i].toNat : Nat) : Int) = 13 by rw [h13]; rfl] at hr; exact hr
                  have HN : Hid (RI w s.toList TOT u5 u6 (.slice (some ⟨g, 0, none⟩) (f.length + 1) c) 1 false (i + 1) out row (f ++ [s[i]]) w3) := HQ.out.more (.inr rfl) HC.out h10 hnn h44 h34 hT
                  clear hr hT HQ HLF
                  go_wp2_with (at_builtin; refine wpList_append_eq rfl _ _ 39 39 rfl _ _ _ _ rfl rfl HRR.out ?_)
                  exact ⟨⟨out, row, f ++ [s[i]], 1, false, i + 1, rfl, rfl, rfl, hlt, HN⟩, by simp [intOf]; omega⟩
                · clear h2z
                  have HR : Hid (RwO w s.toList (.returned (.tuple #[nls, .int .i64 (i : Int), .int .i64 2])) wr) := .inl ⟨i, 2, by rw [HTOT.out]; exact HQ.out.bad3 HC.out h10 hnn h44, by decide, rfl, HQ.out.ts.below⟩
                  clear HQ
                  go_wp2_with fail
                  exact bodyPost_ret (v := .tuple #[nls, .int .i64 (i : Int), .int .i64 2]) (by simp [results, Tryd.results9, go_sem]) rfl HR
            · have hbz13 : (((s[i].toNat : Nat) : Int) == 13) = false := byte_ne (n := 13) h13
              by_cases h44 : s[i] = 44
              · clear hs3
                have hbz44 : (((s[i].toNat : Nat) : Int) == 44) = true := byte_eq (n := 44) (by decide) h44
                have HLR : Hid (row.length < 1000000) := by have h1 := HQ.out.lr; have h2 := H4.out; show _ < _; omega
                have hcv := HQ.out.ts.conv
                obtain ⟨pr, kr, e6⟩ := own_form HQ.out.ts.ro
                subst e6
                obtain ⟨g2, c2, w3, hr, hT⟩ := HQ.out.ts.text HLR.out f
                have HRR : Hid ((Builtin.append_ #[37, 37] 37 #[.slice pr row.length kr, .slice (some ⟨wr.heap.size, 0, none⟩) 1 1]).run Tryd.prog (wr.alloc (.cells #[.string (txt f)] 9)) = .ok (.slice (some ⟨g2, 0, none⟩) (row.length + 1) c2) w3) := hr
                have HN : Hid (RI w s.toList TOT u5 (.slice (some ⟨g2, 0, none⟩) (row.length + 1) c2) nls 0 false (i + 1) out (row ++ [f]) [] w3) := HQ.out.comma H2.out (by rw [HC.out, h44]) hT
                clear hr hT HQ HLR
                go_wp2_with (at_builtin; refine wpList_append_eq rfl _ _ 37 37 rfl _ _ _ _ rfl rfl HRR.out ?_)
                exact ⟨⟨out, row ++ [f], [], 0, false, i + 1, rfl, rfl, rfl, hlt, HN⟩, by simp [intOf]; omega⟩
              · have hbz44 : (((s[i].toNat : Nat) : Int) == 44) = false := byte_ne (n := 44) h44
                by_cases h34 : s[i] = 34
                · have hbz34 : (((s[i].toNat : Nat) : Int) == 34) = true := byte_eq (n := 34) (by decide) h34
                  rcases hs3 with rfl | rfl | rfl
                  · clear h2z
                    have HN : Hid (RI w s.toList TOT u5 u6 u7 2 false (i + 1) out row f wr) := HQ.out.opn (by rw [HC.out, h34])
                    clear HQ
                    go_wp2_with fail
                    exact ⟨⟨out, row, f, 2, false, i + 1, rfl, rfl, rfl, hlt, HN⟩, by simp [intOf]; omega⟩
                  · clear h2z
                    have HR : Hid (RwO w s.toList (.returned (.tuple #[nls, .int .i64 (i : Int), .int .i64 2])) wr) := .inl ⟨i, 2, by rw [HTOT.out]; exact HQ.out.bad1 (by rw [HC.out, h34]), by decide, rfl, HQ.out.ts.below⟩
                    clear HQ
                    go_wp2_with fail
                    exact bodyPost_ret (v := .tuple #[nls, .int .i64 (i : Int), .int .i64 2]) (by simp [results, Tryd.results9, go_sem]) rfl HR
                  · exact absurd (by rw [HC.out, h34]) (HQ.out.s3 rfl)
                · have hbz34 : (((s[i].toNat : Nat) : Int) == 34) = false := byte_ne (n := 34) h34
                  have hnn : ¬ (s[i] = 13 ∧ s.toList[i + 1]? = some 10) := fun h => h13 h.1
                  rcases hs3 with rfl | rfl | rfl
                  · clear h2z
                    have HLF : Hid (f.length < 1000000) := by have h1 := HQ.out.lf; have h2 := H4.out; show _ < _; omega
                    obtain ⟨pf, kf, e7⟩ := own_form HQ.out.ts.fo
                    subst e7
                    obtain ⟨g, c, w3, hr, hT⟩ := HQ.out.ts.byte HLF.out s[i]
                    have HRR : Hid ((Builtin.append_ #[39, 39] 39 #[.slice pf f.length kf, .slice (some ⟨wr.heap.size, 0, none⟩) 1 1]).run Tryd.prog (wr.alloc (.cells #[.int .u8 (s[i].toNat : Int)] 5)) = .ok (.slice (some ⟨g, 0, none⟩) (f.length + 1) c) w3) := hr
                    have HN : Hid (RI w s.toList TOT u5 u6 (.slice (some ⟨g, 0, none⟩) (f.length + 1) c) 1 false (i + 1) out row (f ++ [s[i]]) w3) := HQ.out.more (.inl rfl) HC.out h10 hnn h44 h34 hT
                    clear hr hT HQ HLF
                    go_wp2_with (at_builtin; refine wpList_append_eq rfl _ _ 39 39 rfl _ _ _ _ rfl rfl HRR.out ?_)
                    exact ⟨⟨out, row, f ++ [s[i]], 1, false, i + 1, rfl, rfl, rfl, hlt, HN⟩, by simp [intOf]; omega⟩
                  · clear h2z
                    have HLF : Hid (f.length < 1000000) := by have h1 := HQ.out.lf; have h2 := H4.out; show _ < _; omega
                    obtain ⟨pf, kf, e7⟩ := own_form HQ.out.ts.fo
                    subst e7
                    obtain ⟨g, c, w3, hr, hT⟩ := HQ.out.ts.byte HLF.out s[i]
                    have HRR : Hid ((Builtin.append_ #[39, 39] 39 #[.slice pf f.length kf, .slice (some ⟨wr.heap.size, 0, none⟩) 1 1]).run Tryd.prog (wr.alloc (.cells #[.int .u8 (s[i].toNat : Int)] 5)) = .ok (.slice (some ⟨g, 0, none⟩) (f.length + 1) c) w3) := hr
                    have HN : Hid (RI w s.toList TOT u5 u6 (.slice (some ⟨g, 0, none⟩) (f.length + 1) c) 1 false (i + 1) out row (f ++ [s[i]]) w3) := HQ.out.more (.inr rfl) HC.out h10 hnn h44 h34 hT
                    clear hr hT HQ HLF
                    go_wp2_with (at_builtin; refine wpList_append_eq rfl _ _ 39 39 rfl _ _ _ _ rfl rfl HRR.out ?_)
                    exact ⟨⟨out, row, f ++ [s[i]], 1, false, i + 1, rfl, rfl, rfl, hlt, HN⟩, by simp [intOf]; omega⟩
                  · clear h2z
                    have HR : Hid (RwO w s.toList (.returned (.tuple #[nls, .int .i64 (i : Int), .int .i64 2])) wr) := .inl ⟨i, 2, by rw [HTOT.out]; exact HQ.out.bad3 HC.out h10 hnn h44, by decide, rfl, HQ.out.ts.below⟩
                    clear HQ
                    go_wp2_with fail
                    exact bodyPost_ret (v := .tuple #[nls, .int .i64 (i : Int), .int .i64 2]) (by simp [results, Tryd.results9, go_sem]) rfl HR
        · have hlt' : ¬ (i : Int) < (s.size : Int) := by omega
          obtain rfl : i = s.size := by omega
          go_wp2_with fail
          go_meet
          case rel => exact ⟨out, row, f, st, fr, rfl, rfl, HQ⟩
    case rest =>
    obtain ⟨out, row, f, st, fr, rfl, rfl, HQ⟩ := hcut
    apply_assumption
    have HNN : Hid (s.size = s.toList.length) := HLN.out.symm
    by_cases h2 : st = 2
    · subst h2
      have HR : Hid (RwO w s.toList (.returned (.tuple #[nls, .int .i64 (s.size : Int), .int .i64 2])) wc) := .inl ⟨s.size, 2, by rw [HTOT.out]; exact HQ.out.fin2 HNN.out, by decide, rfl, HQ.out.ts.below⟩
      clear HQ
      go_wp2_with fail
      exact bodyPost_ret (v := .tuple #[nls, .int .i64 (s.size : Int), .int .i64 2]) (by simp [results, Tryd.results9, go_sem]) rfl HR
    · have H2 : Hid (st ≠ 2) := h2
      have h2z : (((st : Nat) : Int) == 2) = false := beq_eq_false_iff_ne.2 (by omega)
      clear h2
      cases fr with
      | true =>
        have HR : Hid (RwO w s.toList (.returned (.tuple #[u5, .int .i64 0, .int .i64 0])) wc) := .inr ⟨out, u5, by rw [HTOT.out]; exact HQ.out.finF HNN.out, rfl, ⟨HQ.out.ts.below, HQ.out.ts.oo, ⟨rfl, .inl ⟨rfl, rfl⟩⟩, ⟨rfl, .inl ⟨rfl, rfl⟩⟩, fun x hx => by
          rcases HQ.out.ts.done x hx with h0 | ⟨b, cs, h1, h2, -, h4⟩
          · exact .inl h0
          · exact .inr ⟨b, cs, h1, h2, (by intro e; cases e), h4⟩⟩⟩
        clear HQ
        go_wp2_with fail
        exact bodyPost_ret (v := .tuple #[u5, .int .i64 0, .int .i64 0]) (by simp [results, Tryd.results9, go_sem]) rfl HR
      | false =>
        have HLR : Hid (row.length < 1000000 ∧ out.length < 1000000) := by have h1 := HQ.out.lr; have h3 := HQ.out.lo; have h2 := H4.out; exact ⟨by omega, by omega⟩
        have hcv := HQ.out.ts.conv
        obtain ⟨pr, kr, e6⟩ := own_form HQ.out.ts.ro
        subst e6
        obtain ⟨po, ko, e5⟩ := own_form HQ.out.ts.oo
        subst e5
        obtain ⟨g2, c2, w3, hr, hT⟩ := HQ.out.ts.text HLR.out.1 f
        obtain ⟨g4, c4, w4, hr4, hT4⟩ := hT.line HLR.out.2 (some ⟨g2, 0, none⟩) c2 (by rw [List.length_append, List.length_singleton])
        have HRR : Hid ((Builtin.append_ #[37, 37] 37 #[.slice pr row.length kr, .slice (some ⟨wc.heap.size, 0, none⟩) 1 1]).run Tryd.prog (wc.alloc (.cells #[.string (txt f)] 9)) = .ok (.slice (some ⟨g2, 0, none⟩) (row.length + 1) c2) w3) := hr
        have HRR4 : Hid ((Builtin.append_ #[22, 22] 22 #[.slice po out.length ko, .slice (some ⟨w3.heap.size, 0, none⟩) 1 1]).run Tryd.prog (w3.alloc (.cells #[.slice (some ⟨g2, 0, none⟩) (row.length + 1) c2] 37)) = .ok (.slice (some ⟨g4, 0, none⟩) (out.length + 1) c4) w4) := hr4
        have HR : Hid (RwO w s.toList (.returned (.tuple #[.slice (some ⟨g4, 0, none⟩) (out.length + 1) c4, .int .i64 0, .int .i64 0])) w4) := .inr ⟨_, _, by rw [HTOT.out]; exact HQ.out.finT H2.out HNN.out (x := ⟨some ⟨g2, 0, none⟩, row ++ [f], c2⟩) rfl, rfl, hT4⟩
        clear hr hT hr4 hT4 HQ HLR
        go_wp2_with (first | (at_builtin; refine wpList_append_eq rfl _ _ 37 37 rfl _ _ _ _ rfl rfl HRR.out ?_) | (at_builtin; refine wpList_append_eq rfl _ _ 22 22 rfl _ _ _ _ rfl rfl HRR4.out ?_))
        exact bodyPost_ret (v := .tuple #[.slice (some ⟨g4, 0, none⟩) (out.length + 1) c4, .int .i64 0, .int .i64 0]) (by simp [results, Tryd.results9, go_sem]) rfl HR
end Go.Proofs.YtldmjipkmplhbaaDoor.fw


/- The law CsvReads, walked. Conditions: as the theorem says. -/
import Derived.Test.YtldmjipkmplhbaaDoorCwe
import Derived.Test.YtldmjipkmplhbaaDoorCwf
namespace Go.Proofs.YtldmjipkmplhbaaDoor.fw
open Go.RowKit Go.Sort
theorem mc_len (L : List UInt8) : ∀ (st : Nat) (out : List (List (List UInt8))) (row : List (List UInt8)) (f : List UInt8) (i : Nat), (mc st out row f i L).1.length ≤ out.length + L.length + 1 ∧ ∀ q ∈ (mc st out row f i L).1, q ∈ out ∨ q.length ≤ row.length + L.length + 1 := by
  induction L with
  | nil =>
    intro st out row f i
    rw [mc]
    split
    · exact ⟨by simp, fun q hq => by cases hq⟩
    · split
      · exact ⟨by simp, fun q hq => .inl hq⟩
      · refine ⟨by simp, fun q hq => ?_⟩
        rcases List.mem_append.1 hq with h | h
        · exact .inl h
        · rw [List.mem_singleton] at h
          subst h
          exact .inr (by simp)
  | cons c L ih =>
    intro st out row f i
    have same : ∀ st' f' i', (mc st' out row f' i' L).1.length ≤ out.length + (c :: L).length + 1 ∧ ∀ q ∈ (mc st' out row f' i' L).1, q ∈ out ∨ q.length ≤ row.length + (c :: L).length + 1 := fun st' f' i' => by
      obtain ⟨h1, h2⟩ := ih st' out row f' i'
      refine ⟨by rw [List.length_cons]; omega, fun q hq => ?_⟩
      rcases h2 q hq with h | h
      · exact .inl h
      · exact .inr (by rw [List.length_cons]; omega)
    have none : (([], i, 2) : RdR).1.length ≤ out.length + (c :: L).length + 1 ∧ ∀ q ∈ (([], i, 2) : RdR).1, q ∈ out ∨ q.length ≤ row.length + (c :: L).length + 1 := ⟨by simp, fun q hq => by cases hq⟩
    rw [mc]
    split
    · split
      · exact same _ _ _
      · exact same _ _ _
    · split
      · obtain ⟨h1, h2⟩ := ih 0 (out ++ [row ++ [f]]) [] [] (i + 1)
        rw [List.length_append, List.length_singleton] at h1
        refine ⟨by rw [List.length_cons]; omega, fun q hq => ?_⟩
        rcases h2 q hq with h | h
        · rcases List.mem_append.1 h with h | h
          · exact .inl h
          · rw [List.mem_singleton] at h
            subst h
            exact .inr (by simp)
        · exact .inr (by rw [List.length_cons]; simp at h; omega)
      · split
        · exact same _ _ _
        · split
          · obtain ⟨h1, h2⟩ := ih 0 out (row ++ [f]) [] (i + 1)
            refine ⟨by rw [List.length_cons]; omega, fun q hq => ?_⟩
            rcases h2 q hq with h | h
            · exact .inl h
            · rw [List.length_append, List.length_singleton] at h
              exact .inr (by rw [List.length_cons]; omega)
          · split
            · split
              · exact same _ _ _
              · split
                · exact none
                · exact same _ _ _
            · split
              · exact none
              · exact same _ _ _
theorem rd_len {L : List UInt8} {T : List (List (List UInt8))} {n : Nat} {er : Int} (h : rdL L = (T, n, er)) : T.length ≤ 4001 ∧ ∀ q ∈ T, q.length ≤ 4001 := by
  unfold rdL at h
  split at h
  · injection h with h1 _
    subst h1
    exact ⟨by simp, fun q hq => by cases hq⟩
  · obtain ⟨h1, h2⟩ := mc_len L 0 [] [] [] 0
    rw [h] at h1 h2
    simp only [List.length_nil] at h1 h2
    refine ⟨by show T.length ≤ _; have : T.length ≤ 0 + L.length + 1 := h1; omega, fun q hq => ?_⟩
    rcases h2 q hq with h' | h'
    · cases h'
    · omega
/-- Rows that lie in memory twice are the same. -/
theorem twice_same {L : List UInt8} {out out' : List Rw} (h : rdL L = (out.map (·.r), 0, 0)) (h' : rdL L = (out'.map (·.r), 0, 0)) {p p' : Option Addr} {c c' : Nat} {w : World} (hp : RM w p (out.map fun x => x.r.map txt)) (hp' : RM w p' (out'.map fun x => x.r.map txt)) :
    Calls Tryd.prog 11 #[.slice p out.length c, .slice p' out'.length c'] w fun e w' => e = .returned (.bool true) ∧ Bw w w' := by
  have e1 : out.map (·.r) = out'.map (·.r) := by
    have := h.symm.trans h'
    injection this
  have e2 : ∀ o : List Rw, (o.map fun x => x.r.map txt) = (o.map (·.r)).map fun q => q.map txt := fun o => by rw [List.map_map]; rfl
  rw [e2] at hp hp'
  rw [← e1] at hp'
  obtain ⟨l1, l2⟩ := rd_len h
  have e3 : out.length = ((out.map (·.r)).map fun q => q.map txt).length := by rw [List.length_map, List.length_map]
  have e4 : out'.length = ((out.map (·.r)).map fun q => q.map txt).length := by rw [e1, List.length_map, List.length_map]
  rw [e3, e4]
  refine rrows_any _ p p' c c' w hp hp' (by rw [List.length_map]; omega) (fun r hr => ?_)
  obtain ⟨q, hq, rfl⟩ := List.mem_map.1 hr
  have := l2 q hq
  rw [List.length_map]
  omega
set_option maxRecDepth 1000000 in
set_option maxHeartbeats 4000000 in
theorem csvReads_any (s : ByteArray) (w : World) (hs : s.size ≤ 140737488355328) (hm : ∃ m, w.cell? ⟨1, 0, none⟩ = some (.int .i64 m))
    (hS : ∀ wx e, Bw w wx → Calls Tryd.prog 8 #[errV e, .int .i64 e] wx fun r w' => r = .returned (.bool true) ∧ Bw wx w') :
    Calls Tryd.prog 4 #[.string s] w fun e w' => e = .returned (.bool true) ∧ Bw w w' := by
  have HW := rrd_any s w hs
  obtain ⟨m, hm⟩ := hm
  have HR : ∀ wx, Bw w wx → Calls Tryd.prog 10 #[.string s] wx fun e w' => ReO wx s.toList e w' := fun wx hb =>
    read_any s wx hs ⟨m, by rw [hb.cell (p := ⟨1, 0, none⟩) (World.block_lt_of_cell? w _ hm)]; exact hm⟩
  by_cases h0 : ∃ T, rdL s.toList = (T, 0, 0)
  · obtain ⟨T, hT⟩ := h0
    have H0 : Hid (rdL s.toList = (T, 0, 0)) := hT
    have HW' : Hid (Calls Tryd.prog 9 #[.string s] w fun e w' => ∃ out v, e = .returned (.tuple #[v, .int .i64 0, .int .i64 0]) ∧ Hid (rdL s.toList = (out.map (·.r), 0, 0) ∧ TS w v nls nls out [] [] w')) := HW.mono fun e w' h => by
      rcases h with ⟨n, er, h1, h2, -, -⟩ | ⟨out, v, h1, rfl, h2⟩
      · have := H0.out.symm.trans h1
        injection this with _ e1
        injection e1 with _ e2
        exact absurd e2.symm h2
      · exact ⟨out, v, rfl, h1, h2⟩
    have HR' : Hid (∀ wx, Bw w wx → Calls Tryd.prog 10 #[.string s] wx fun e w' => ∃ out v, e = .returned (.tuple #[v, .int .i64 0, .nilIface]) ∧ Hid (rdL s.toList = (out.map (·.r), 0, 0) ∧ TS wx v nls nls out [] [] w')) := fun wx hb => (HR wx hb).mono fun e w' h => by
      rcases h with ⟨n, er, h1, h2, -, -⟩ | ⟨out, v, h1, rfl, h2⟩
      · have := H0.out.symm.trans h1
        injection this with _ e1
        injection e1 with _ e2
        exact absurd e2.symm h2
      · exact ⟨out, v, rfl, h1, h2⟩
    have HS : Hid (∀ wx, Bw w wx → Calls Tryd.prog 8 #[.nilIface, .int .i64 0] wx fun r w' => r = .returned (.bool true) ∧ Bw wx w') := fun wx hb => hS wx 0 hb
    clear HW HR hS hm hs hT
    go_enter Tryd.func4, Tryd.ntmps4
    go_upto_region 4 with (first | (go_at_call 9; with_reducible refine HW'.out.mono ?_; rintro e w1 ⟨out, v, rfl, HO⟩) | (go_at_call 10; with_reducible refine (HR'.out _ HO.out.2.below).mono ?_; rintro e w2 ⟨out2, v2, rfl, HO2⟩) | (go_at_call 8; with_reducible refine (HS.out _ (HO.out.2.below.tr HO2.out.2.below)).mono ?_; rintro e w3 ⟨rfl, hb3⟩))
    obtain ⟨p, c, rfl, M1⟩ := (HO.out.2.next (HO2.out.2.below.tr hb3)).rm
    obtain ⟨p2, c2, rfl, M2⟩ := (HO2.out.2.next hb3).rm
    have HT : Hid (Calls Tryd.prog 11 #[.slice p2 out2.length c2, .slice p out.length c] w3 fun e w' => e = .returned (.bool true) ∧ Bw w3 w') := twice_same HO2.out.1 HO.out.1 M2 M1
    have HB3 : Hid (Bw w w3) := (HO.out.2.below.tr HO2.out.2.below).tr hb3
    clear M1 M2 hb3
    go_wp2_with (go_at_call 11; with_reducible refine HT.out.mono ?_; rintro e w4 ⟨rfl, hb4⟩)
    go_ret
    exact ⟨rfl, HB3.out.tr (by assumption)⟩
  · have H0 : Hid (¬ ∃ T, rdL s.toList = (T, 0, 0)) := h0
    have HW' : Hid (Calls Tryd.prog 9 #[.string s] w fun e w' => ∃ (n : Nat) (er : Int), e = .returned (.tuple #[nls, .int .i64 (n : Int), .int .i64 er]) ∧ Hid (rdL s.toList = ([], n, er) ∧ er ≠ 0 ∧ Bw w w')) := HW.mono fun e w' h => by
      rcases h with ⟨n, er, h1, h2, rfl, h3⟩ | ⟨out, v, h1, -, -⟩
      · exact ⟨n, er, rfl, h1, h2, h3⟩
      · exact absurd ⟨_, h1⟩ H0.out
    have HR' : Hid (∀ wx, Bw w wx → Calls Tryd.prog 10 #[.string s] wx fun e w' => ∃ (n : Nat) (er : Int), e = .returned (.tuple #[nls, .int .i64 (n : Int), errV er]) ∧ Hid (rdL s.toList = ([], n, er) ∧ er ≠ 0 ∧ Bw wx w')) := fun wx hb => (HR wx hb).mono fun e w' h => by
      rcases h with ⟨n, er, h1, h2, rfl, h3⟩ | ⟨out, v, h1, -, -⟩
      · exact ⟨n, er, rfl, h1, h2, h3⟩
      · exact absurd ⟨_, h1⟩ H0.out
    have HS : Hid (∀ wx e, Bw w wx → Calls Tryd.prog 8 #[errV e, .int .i64 e] wx fun r w' => r = .returned (.bool true) ∧ Bw wx w') := hS
    have HT : Hid (∀ wx, Calls Tryd.prog 11 #[nls, nls] wx fun e w' => e = .returned (.bool true) ∧ Bw wx w') := fun wx => rrows_any [] none none 0 0 wx (.inl rfl) (.inl rfl) (by decide) (fun r hr => by cases hr)
    clear HW HR hS hm hs h0 H0
    go_enter Tryd.func4, Tryd.ntmps4
    go_upto_region 3 with (first | (go_at_call 9; with_reducible refine HW'.out.mono ?_; rintro e w1 ⟨n, er, rfl, HO⟩) | (go_at_call 10; with_reducible refine (HR'.out _ HO.out.2.2).mono ?_; rintro e w2 ⟨n2, er2, rfl, HO2⟩))
    have hh := HO.out.1.symm.trans HO2.out.1
    simp only [Prod.mk.injEq, true_and] at hh
    obtain ⟨rfl, rfl⟩ := hh
    have HB2 : Hid (Bw w w2) := HO.out.2.2.tr HO2.out.2.2
    clear HO HO2
    generalize hE : errV er = E at *
    have HSE : Hid (Calls Tryd.prog 8 #[E, .int .i64 er] w2 fun r w' => r = .returned (.bool true) ∧ Bw w2 w') := by rw [← hE]; exact HS.out w2 er HB2.out
    clear HS hE
    go_wp2_with (first | (go_at_call 8; with_reducible refine HSE.out.mono ?_; rintro e w3 ⟨rfl, hb3⟩) | (go_at_call 11; with_reducible refine (HT.out _).mono ?_; rintro e w4 ⟨rfl, hb4⟩))
    go_ret
    exact ⟨rfl, (HB2.out.tr (by assumption)).tr (by assumption)⟩
end Go.Proofs.YtldmjipkmplhbaaDoor.fw

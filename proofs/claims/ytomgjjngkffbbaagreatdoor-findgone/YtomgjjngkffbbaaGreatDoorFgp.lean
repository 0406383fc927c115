
/- What is replaced is there no more; plain. Conditions: as each theorem says. -/
import Derived.Test.YtomgjjngkffbbaaGreatDoorFgh
import Derived.Test.YtomgjjngkffbbaaGreatDoorJm
namespace Go.Proofs.YtomgjjngkffbbaaGreatDoor.fw
open Go Go.RowKit Go.Sort
theorem cnt_byte (c : UInt8) (b : List UInt8) (x : UInt8) (l : List UInt8) : cntL [c] b (x :: l) = if x = c then ((cntL [c] b l).1 + 1, b ++ (cntL [c] b l).2) else ((cntL [c] b l).1, x :: (cntL [c] b l).2) := by
  by_cases h : x = c
  · subst h
    rw [if_pos rfl, cnt_yes (by simp [List.isPrefixOf]) (by simp)]
    rfl
  · rw [if_neg h, cnt_no (by simp [List.isPrefixOf]; exact fun e => h e.symm)]
theorem cnt_has {c : UInt8} (b : List UInt8) : ∀ l : List UInt8, 0 < (cntL [c] b l).1 ↔ c ∈ l
  | [] => by rw [cnt_nil]; simp
  | x :: l => by
    rw [cnt_byte, List.mem_cons]
    by_cases h : x = c
    · rw [if_pos h]
      exact ⟨fun _ => .inl h.symm, fun _ => Nat.succ_pos _⟩
    · rw [if_neg h]
      exact ⟨fun e => .inr ((cnt_has b l).1 e), fun e => (cnt_has b l).2 (e.resolve_left fun e => h e.symm)⟩
theorem cnt_gone {c : UInt8} {b : List UInt8} (hb : c ∉ b) : ∀ l : List UInt8, c ∉ (cntL [c] b l).2
  | [] => by rw [cnt_nil]; simp
  | x :: l => by
    rw [cnt_byte]
    by_cases h : x = c
    · rw [if_pos h]
      intro e
      rcases List.mem_append.1 e with e | e
      · exact hb e
      · exact cnt_gone hb l e
    · rw [if_neg h]
      intro e
      rcases List.mem_cons.1 e with e | e
      · exact h e.symm
      · exact cnt_gone hb l e
abbrev pt (c : UInt8) : ByteArray := ⟨#[c]⟩
theorem pt_list (c : UInt8) : (pt c).toList = [c] := by rw [ByteArray.toList_eq]
theorem pt_size (c : UInt8) : (pt c).size = 1 := rfl
theorem plc_byte (c : UInt8) (s : ByteArray) : 0 < plc s (pt c) false ↔ c ∈ s.toList := by
  unfold plc
  rw [if_neg (by simp), pt_list]
  exact cnt_has _ _
theorem txt_list (l : List UInt8) : (txt l).toList = l := by unfold txt; rw [ByteArray.toList_eq]
theorem ntx_byte (c : UInt8) (b s : ByteArray) : (ntx (pt c) b false s).toList = (cntL [c] b.toList s.toList).2 := by
  unfold ntx
  rw [if_neg (by simp), pt_list, txt_list]
theorem ntx_gone {c : UInt8} {b : ByteArray} (hb : c ∉ b.toList) (s : ByteArray) : plc (ntx (pt c) b false s) (pt c) false = 0 := by
  refine Nat.eq_zero_of_not_pos fun h => ?_
  rw [plc_byte, ntx_byte] at h
  exact cnt_gone hb _ h
theorem ntx_nul (c : UInt8) (b : ByteArray) : ntx (pt c) b false nul = nul := ntx_no (show 1 ≤ (pt c).size from Nat.le_refl 1) (by
  refine Nat.eq_zero_of_not_pos fun h => ?_
  rw [plc_byte, ByteArray.toList_eq] at h
  exact absurd h (by simp))
/-- A text is another one then, if and only if it had the byte. -/
theorem ntx_ne {c : UInt8} {b : ByteArray} (hb : c ∉ b.toList) (s : ByteArray) : s ≠ ntx (pt c) b false s ↔ 0 < plc s (pt c) false := by
  constructor
  · intro h
    refine Nat.pos_of_ne_zero fun e => h ?_
    exact (ntx_no (show 1 ≤ (pt c).size from Nat.le_refl 1) e).symm
  · intro h e
    have h2 := ntx_gone hb s
    rw [← e] at h2
    omega
theorem rpl_mem {p b : ByteArray} {l : List ps.Fl} {y : ps.Fl} (h : y ∈ rpl p b false l) : ∃ x ∈ l, y = ⟨x.c, x.r, ntx p b false x.s⟩ ∧ (ntx p b false x.s).size ≠ 0 := by
  unfold rpl at h
  obtain ⟨x, hx, hy⟩ := List.mem_flatMap.1 h
  by_cases h0 : (ntx p b false x.s).size = 0
  · rw [if_pos h0] at hy; cases hy
  · rw [if_neg h0] at hy
    exact ⟨x, hx, List.mem_singleton.1 hy, h0⟩
theorem rpl_in {p b : ByteArray} {l : List ps.Fl} {x : ps.Fl} (hx : x ∈ l) (h0 : (ntx p b false x.s).size ≠ 0) : (⟨x.c, x.r, ntx p b false x.s⟩ : ps.Fl) ∈ rpl p b false l := by
  unfold rpl
  exact List.mem_flatMap.2 ⟨x, hx, by rw [if_neg h0]; exact List.mem_singleton.2 rfl⟩
theorem rpl_srt {p b : ByteArray} : ∀ {l : List ps.Fl}, ps.Srt l → ps.Srt (rpl p b false l)
  | [], _ => List.Pairwise.nil
  | x :: l, h => by
    obtain ⟨h1, h2⟩ := List.pairwise_cons.1 h
    have ih := rpl_srt (p := p) (b := b) h2
    have e : rpl p b false (x :: l) = (if (ntx p b false x.s).size = 0 then [] else [⟨x.c, x.r, ntx p b false x.s⟩]) ++ rpl p b false l := rfl
    rw [e]
    by_cases h0 : (ntx p b false x.s).size = 0
    · rw [if_pos h0]; exact ih
    · rw [if_neg h0]
      refine List.pairwise_cons.2 ⟨fun y hy => ?_, ih⟩
      obtain ⟨z, hz, rfl, -⟩ := rpl_mem hy
      have := h1 z hz
      rw [ps.lt_iff] at this ⊢
      exact this
theorem rpl_ful (p b : ByteArray) (l : List ps.Fl) : ps.Ful (rpl p b false l) := fun y hy => by
  obtain ⟨x, -, rfl, h⟩ := rpl_mem hy
  exact h
theorem rpl_txt {c : UInt8} {b : ByteArray} {l : List ps.Fl} (hl : ps.Srt l) (i j : Int) : ps.txt (rpl (pt c) b false l) i j = ntx (pt c) b false (ps.txt l i j) := by
  by_cases he : ∃ x ∈ l, x.c = i ∧ x.r = j
  · obtain ⟨x, hx, rfl, rfl⟩ := he
    obtain ⟨k, hk⟩ := List.getElem?_of_mem hx
    rw [ps.txt_at hl hk]
    by_cases h0 : (ntx (pt c) b false x.s).size = 0
    · rw [ps.size_nul h0]
      refine ps.txt_none fun f hf => ?_
      rw [ps.at_no]
      rintro ⟨e1, e2⟩
      obtain ⟨z, hz, rfl, h2⟩ := rpl_mem hf
      obtain ⟨k2, hk2⟩ := List.getElem?_of_mem hz
      have h3 := ps.txt_at hl hk2
      dsimp only at e1 e2
      rw [e1, e2, ps.txt_at hl hk] at h3
      rw [← h3] at h2
      exact h2 h0
    · obtain ⟨k2, hk2⟩ := List.getElem?_of_mem (rpl_in hx h0)
      exact ps.txt_at (rpl_srt hl) hk2
  · rw [ps.txt_none (l := l) fun y hy => by rw [ps.at_no]; exact fun e => he ⟨y, hy, e⟩, ntx_nul]
    refine ps.txt_none fun f hf => ?_
    rw [ps.at_no]
    rintro ⟨e1, e2⟩
    obtain ⟨z, hz, rfl, -⟩ := rpl_mem hf
    exact he ⟨z, hz, e1, e2⟩
theorem ffl_zero {p b : ByteArray} : ∀ {l : List ps.Fl}, ffl p b false l = 0 → ∀ x ∈ l, ftx (ntx p b false x.s) = 0
  | [], _, x, hx => absurd hx List.not_mem_nil
  | y :: l, h, x, hx => by
    unfold ffl at h
    by_cases h0 : ftx (ntx p b false y.s) = 0
    · rw [if_pos h0] at h
      rcases List.mem_cons.1 hx with rfl | hx
      · exact h0
      · exact ffl_zero h x hx
    · rw [if_neg h0] at h
      exact absurd h h0
/-- What comes of it is a sheet. -/
theorem rpl_told {p b : ByteArray} {l : List ps.Fl} (hT : ps.Told l 0) (h : ffl p b false l = 0) : ps.Told (rpl p b false l) 0 := by
  refine ps.told_good (rpl_srt hT.fine.srt) (Nat.le_trans (rpl_len _ _ _ _) hT.fine.len) fun y hy => ?_
  obtain ⟨x, hx, rfl, h0⟩ := rpl_mem hy
  refine ⟨(hT.fine.cell x hx).1, ?_⟩
  have := ffl_zero h x hx
  unfold ftx at this
  rw [if_neg h0] at this
  exact this
theorem rpl_gone {c : UInt8} {b : ByteArray} (hb : c ∉ b.toList) (l : List ps.Fl) : fnd (pt c) false (rpl (pt c) b false l) = [] := by
  unfold fnd
  rw [List.filter_eq_nil_iff.2 fun y hy => ?_]
  · rfl
  · obtain ⟨x, -, rfl, -⟩ := rpl_mem hy
    dsimp only
    rw [ntx_gone hb]
    simp
theorem fnd_tot (p : ByteArray) : ∀ l : List ps.Fl, (fnd p false l).length ≤ tot p false l ∧ (tot p false l = 0 ↔ (fnd p false l).length = 0)
  | [] => by simp [fnd, tot]
  | x :: l => by
    obtain ⟨h1, h2⟩ := fnd_tot p l
    have e1 : fnd p false (x :: l) = (if 0 < plc x.s p false then [(x.c, x.r)] else []) ++ fnd p false l := by
      unfold fnd
      by_cases h : 0 < plc x.s p false <;> simp [h]
    have e2 : tot p false (x :: l) = plc x.s p false + tot p false l := by
      unfold tot
      rw [List.map_cons, List.sum_cons]
    rw [e1, e2]
    by_cases h : 0 < plc x.s p false
    · rw [if_pos h, List.length_append, List.length_singleton]
      omega
    · rw [if_neg h, List.nil_append]
      omega
/-- The cells that are others then are those that had the byte. -/
theorem df_rpl {c : UInt8} {b : ByteArray} {l : List ps.Fl} (hb : c ∉ b.toList) (hl : ps.Fine l) : (ps.df l (rpl (pt c) b false l) 2574).map (fun x => (x.c, x.r)) = fnd (pt c) false l := by
  refine ord_ext (R := ltP) (fun x y => ltP_asym) ?_ ?_ fun x => ?_
  · rw [List.pairwise_map]
    refine (ps.df_srt _ _ _).imp fun {x y} h => ?_
    rw [ps.lt_iff] at h
    exact h
  · unfold fnd
    rw [List.pairwise_map]
    refine (List.Pairwise.filter _ hl.srt).imp fun {x y} h => ?_
    rw [ps.lt_iff] at h
    exact h
  · constructor
    · intro hx
      obtain ⟨y, hy, rfl⟩ := List.mem_map.1 hx
      obtain ⟨t, ht, e, hne⟩ := ps.df_mem hy
      rw [rpl_txt hl.srt] at hne
      have hp := (ntx_ne hb _).1 hne
      have hn : ps.txt l y.c y.r ≠ nul := fun e => by
        rw [e, ntx_nul] at hne
        exact hne rfl
      obtain ⟨z, hz, e1, e2, e3⟩ := ps.txt_some hl.srt hn
      unfold fnd
      refine List.mem_map.2 ⟨z, List.mem_filter.2 ⟨hz, decide_eq_true (by rw [← e3]; exact hp)⟩, by rw [e1, e2]⟩
    · intro hx
      unfold fnd at hx
      obtain ⟨y, hy, rfl⟩ := List.mem_map.1 hx
      obtain ⟨hy1, hy2⟩ := List.mem_filter.1 hy
      obtain ⟨t, ht, e1, e2⟩ := grid_no (hl.ing y hy1)
      obtain ⟨j, hj⟩ := List.getElem?_of_mem hy1
      have e3 := ps.txt_at hl.srt hj
      have := ps.df_in (a := l) (b := rpl (pt c) b false l) ht (by rw [e1, e2, rpl_txt hl.srt, e3]; exact (ntx_ne hb _).2 (of_decide_eq_true hy2))
      exact List.mem_map.2 ⟨_, this, by dsimp only; rw [e1, e2]⟩
end Go.Proofs.YtomgjjngkffbbaaGreatDoor.fw


/- What the laws of Merge ask: the answers in one form, the fact's sheet, sccsame.Sheets at two lists that are the same. Conditions: as each theorem says. -/
import Derived.Test.YtomgjjngkffbbaaGreatDoorMgl
namespace Go.Proofs.YtomgjjngkffbbaaGreatDoor.ps
open Go.RowKit
open adr (isC)
theorem told_good {xs : List Fl} (hs : Srt xs) (hl : xs.length ≤ 200) (hg : ∀ x ∈ xs, isC x.c x.r = true ∧ ckT x.s = 0) : Told xs 0 := by
  refine .inr ⟨hl, .inl ⟨rfl, fun i hi => ?_⟩⟩
  have hx : xs[i]? = some xs[i] := List.getElem?_eq_getElem hi
  obtain ⟨h1, h2⟩ := hg _ (List.getElem_mem hi)
  have ho : ordB xs i xs[i] = false := by
    unfold ordB
    cases i with
    | zero => rfl
    | succ k =>
      have hk : k < xs.length := by omega
      simp only
      rw [List.getElem?_eq_getElem hk]
      have := List.pairwise_iff_getElem.1 hs k (k + 1) hk hi (Nat.lt_succ_self _)
      simp only
      rw [this]
      rfl
  rw [cd_text hx h1 ho]
  exact h2
theorem told_ex (xs : List Fl) : ∃ t, Told xs t := by
  by_cases hl : 200 < xs.length
  · exact ⟨4, .inl ⟨hl, rfl⟩⟩
  · have key : ∀ n, n ≤ xs.length → (∀ i, i < n → cd xs i = 0) ∨ ∃ i, i < n ∧ cd xs i ≠ 0 ∧ ∀ j, j < i → cd xs j = 0 := by
      intro n
      induction n with
      | zero => intro _; exact .inl fun i hi => absurd hi (Nat.not_lt_zero _)
      | succ n ih =>
        intro hn
        rcases ih (by omega) with h | ⟨i, h1, h2, h3⟩
        · by_cases h0 : cd xs n = 0
          · exact .inl fun i hi => by
              by_cases e : i = n
              · subst e; exact h0
              · exact h i (by omega)
          · exact .inr ⟨n, by omega, h0, h⟩
        · exact .inr ⟨i, by omega, h2, h3⟩
    rcases key xs.length (Nat.le_refl _) with h | ⟨i, h1, h2, h3⟩
    · exact ⟨0, .inr ⟨by omega, .inl ⟨rfl, h⟩⟩⟩
    · exact ⟨cd xs i, .inr ⟨by omega, .inr ⟨h2, i, h1, rfl, h3⟩⟩⟩
theorem told_ck {xs : List Fl} (h : Told xs 0) {x : Fl} (hx : x ∈ xs) : ckT x.s = 0 := by
  rcases h with ⟨_, h2⟩ | ⟨h1, h2⟩
  · cases h2
  · rcases h2 with ⟨-, h3⟩ | ⟨h3, -⟩
    · obtain ⟨i, hi⟩ := List.getElem?_of_mem hx
      exact (cd_zero hi (h3 i (List.getElem?_eq_some_iff.1 hi).1)).2.2
    · exact absurd rfl h3
theorem Fine.ful {xs : List Fl} (h : Fine xs) : Ful xs := fun x hx => (h.cell x hx).2.1
theorem Fine.ing {xs : List Fl} (h : Fine xs) : InG xs := fun x hx => adr.isC_iff.1 (h.cell x hx).1
theorem told_nil : Told [] 0 := .inr ⟨Nat.zero_le _, .inl ⟨rfl, fun _ hi => absurd hi (Nat.not_lt_zero _)⟩⟩
end Go.Proofs.YtomgjjngkffbbaaGreatDoor.ps
namespace Go.Proofs.YtomgjjngkffbbaaGreatDoor.fw
open Go Go.RowKit Go.Sort
theorem eqF (c r : Int) (s : ByteArray) (m : Nat) (W : World) : (Op.equalIn (m + 4) 45 (.agg #[.int .i64 c, .int .i64 r, .string s]) (.agg #[.int .i64 c, .int .i64 r, .string s])).run Tryz.prog W = .ok true W := by
  have hS : Tryz.prog.underlying 45 = some (.struct (Tryz.prog.fieldsOf 45)) := by kernel_rfl
  have hp : Tryz.prog.stoodInHeld 45 = false := by kernel_rfl
  rw [run_equalIn_struct W (m + 3) 45 _ _ hS hp]
  simp only [Program.fieldsOf, Tryz.underlying45]
  simp [Op.eqFields, go_sem, ps.eqIn30]
theorem neqF (c r : Int) (s : ByteArray) (W : World) : (binOp BinOp.neq 45 (.agg #[.int .i64 c, .int .i64 r, .string s]) (.agg #[.int .i64 c, .int .i64 r, .string s])).run Tryz.prog W = .ok (.bool false) W := by
  rw [run_neq_struct, show (10000 : Nat) = 9996 + 4 from rfl, eqF]; rfl

set_option maxRecDepth 1000000 in
set_option maxHeartbeats 4000000 in
/-- sccsame.Sheets at a list of cells that lies in memory twice. -/
theorem rsheets_fm (X : List ps.Fl) (p p' : Option Addr) (c c' : Nat) (w : World) (hv : ps.FM w p X) (hv' : ps.FM w p' X) (hl : X.length ≤ 100000) :
    Calls Tryz.prog 21 #[.slice p X.length c, .slice p' X.length c'] w fun e w' => e = .returned (.bool true) ∧ Bw w w' := by
  have HV : Hid (ps.FM w p X) := hv
  have HV' : Hid (ps.FM w p' X) := hv'
  have hl9 : (X.length : Int) ≤ 100000 := by omega
  clear hv hl hv'
  go_enter Tryz.func21, Tryz.ntmps21
  go_upto_block 0 with fail
  go_cut [] (fun wx => Hid (Bw w wx))
  case first =>
    go_wp2_with fail
    go_loopw [5] (fun s5 wr => ∃ i : Nat, s5 = .int .i64 (i : Int) ∧ i ≤ X.length ∧ Hid (Bw w wr)) (fun s5 _ => X.length - (intOf s5).toNat)
    case atStart => exact ⟨0, rfl, Nat.zero_le _, Below.refl _ _⟩
    case round =>
      obtain ⟨i, rfl, hi, HR⟩ := hrel
      by_cases hlt : i < X.length
      · have hlt' : (i : Int) < (X.length : Int) := by omega
        have hi0 : (0 : Int) ≤ (i : Int) := by omega
        have hx : X[i]? = some X[i] := List.getElem?_eq_getElem hlt
        obtain ⟨x, ex⟩ : ∃ x, X[i] = x := ⟨_, rfl⟩
        rw [ex] at hx
        obtain ⟨gX, oX, rfl, -, q0, q1, q2⟩ := fm_at (fm_next HV.out HR.out) hx
        obtain ⟨gY, oY, rfl, -, r0, r1, r2⟩ := fm_at (fm_next HV'.out HR.out) hx
        have e30 := fun W => neqF x.c x.r x.s W
        clear hx ex
        obtain ⟨xc, xr, xs⟩ := x
        dsimp only at q0 q1 q2 r0 r1 r2 e30
        go_wp2_with fail
        go_cut [25] (fun s25 wx => s25 = .bool false ∧ wx = wr.drew)
        case first =>
          go_region
          all_goals
            go_wp2_with fail
            go_meet
            case rel => exact ⟨rfl, rfl⟩
        case rest =>
        obtain ⟨rfl, rfl⟩ := hcut
        apply_assumption
        clear q0 q1 q2 r0 r1 r2 e30
        have HR2 : Hid (Bw w wr.drew) := HR.out.drew
        go_wp2_with fail
        exact ⟨⟨i + 1, rfl, hlt, HR2⟩, by simp [intOf]; omega⟩
      · have hlt' : ¬ (i : Int) < (X.length : Int) := by omega
        go_wp2_with fail
        go_meet
        case rel => exact HR
  case rest =>
  have HC := hcut
  clear hcut
  apply_assumption
  go_wp2_with fail
  go_ret
  exact ⟨rfl, HC.out⟩
/-- A list that lies somewhere, with its room. -/
def FC (w : World) (p : Option Addr) (c : Nat) (xs : List ps.Fl) : Prop := ps.FM w p xs ∧ xs.length ≤ c
theorem FC.next {w w' : World} {p : Option Addr} {c : Nat} {xs : List ps.Fl} (h : FC w p c xs) (hb : Bw w w') : FC w' p c xs := ⟨h.1.below hb, h.2⟩
theorem RV.fc {w : World} {v : Value} {X : List ps.Fl} {wx : World} (h : RV fL w v X wx) : ∃ p c, v = .slice p X.length c ∧ FC wx p c X := by
  have hF : ps.FB wx v X := by
    have := ps.own_base h.own (Nat.zero_le _)
    exact this
  obtain ⟨p, c, rfl, hm⟩ := hF.shape
  refine ⟨p, c, rfl, hm, ?_⟩
  obtain ⟨p2, c2, e, h2⟩ := h.form
  injection e with e1 e2 e3
  subst e1 e3
  rcases h2 with ⟨h3, -, h4⟩ | ⟨g, -, h3⟩
  · omega
  · exact h3
theorem shT_two {p q : Option Addr} {cp cq : Nat} {a b : List ps.Fl} {t : Int} (h : ShT [⟨p, cp, a⟩, ⟨q, cq, b⟩] t) (ha : ps.Told a 0) (hb : ps.Told b 0) : t = 0 := by
  rcases h with ⟨h1, h2⟩ | ⟨-, ⟨h1, h2⟩ | ⟨-, h1⟩⟩
  · exact absurd (h1.one ha) h2
  · exact absurd (h1.one hb) h2
  · exact h1
/-- Diff at two sheets without a fault. -/
theorem diff_good (p q : Option Addr) (cp cq : Nat) (a b : List ps.Fl) (w : World) (ha : ps.FM w p a) (hb : ps.FM w q b) (hE : ps.EnvP w) (hTa : ps.Told a 0) (hTb : ps.Told b 0) :
    Calls Tryz.prog 11 #[.slice p a.length cp, .slice q b.length cq] w fun e w' => ∃ p' c', e = .returned (.tuple #[.slice p' (ps.df a b 2574).length c', .nilIface]) ∧ FC w' p' c' (ps.df a b 2574) ∧ Bw w w' := by
  refine (diff_any p q cp cq a b w ha hb hE).mono fun e w' ⟨t, h1, h2⟩ => ?_
  obtain rfl := shT_two h1 hTa hTb
  rcases h2 with ⟨h2, -⟩ | ⟨-, v, rfl, hv⟩
  · exact absurd rfl h2
  · obtain ⟨p', c', rfl, hf⟩ := hv.fc
    exact ⟨p', c', rfl, hf, hv.below⟩
/-- Diff where one of two sheets has a fault. -/
theorem diff_bad (p q : Option Addr) (cp cq : Nat) (a b : List ps.Fl) (w : World) (ha : ps.FM w p a) (hb : ps.FM w q b) (hE : ps.EnvP w) (hn : ¬ (ps.Told a 0 ∧ ps.Told b 0)) :
    Calls Tryz.prog 11 #[.slice p a.length cp, .slice q b.length cq] w fun e w' => ∃ z, e = .returned (.tuple #[.slice none 0 0, .iface 67 (.int .i64 z)]) ∧ Bw w w' := by
  refine (diff_any p q cp cq a b w ha hb hE).mono fun e w' ⟨t, h1, h2⟩ => ?_
  have h0 : t ≠ 0 := by
    rintro rfl
    rcases h1 with ⟨-, h1⟩ | ⟨h3, h1⟩
    · exact absurd rfl h1
    · rcases h1 with ⟨-, h1⟩ | ⟨h4, -⟩
      · exact absurd rfl h1
      · exact hn ⟨h3, h4⟩
  rcases h2 with ⟨-, rfl, hb⟩ | ⟨h2, -⟩
  · exact ⟨t, by rw [ps.errV_some h0], hb⟩
  · exact absurd h2 h0
/-- The texts that differ are texts that a sheet may have. -/
theorem cdt_df (a : List ps.Fl) {b : List ps.Fl} (hT : ps.Told b 0) {n : Nat} (hn : n ≤ 2574) : CdT (ps.df a b n) 0 := by
  refine .inl ⟨rfl, fun i hi => ?_⟩
  obtain ⟨x, hx⟩ : ∃ x, (ps.df a b n)[i]? = some x := ⟨_, List.getElem?_eq_getElem hi⟩
  obtain ⟨t, ht, rfl, -⟩ := ps.df_mem (List.mem_of_getElem? hx)
  have ho : ps.ordB (ps.df a b n) i ⟨ps.kc t, ps.kr t, ps.txt b (ps.kc t) (ps.kr t)⟩ = false := by
    unfold ps.ordB
    cases i with
    | zero => rfl
    | succ k =>
      have hk : k < (ps.df a b n).length := by omega
      simp only
      rw [List.getElem?_eq_getElem hk]
      have := List.pairwise_iff_getElem.1 (ps.df_srt a b n) k (k + 1) hk hi (Nat.lt_succ_self _)
      rw [(List.getElem?_eq_some_iff.1 hx).2] at this
      simp only
      rw [this]
      rfl
  rw [cdd_text hx (adr.isC_iff.2 ⟨by dsimp only; unfold ps.kc; omega, by dsimp only; unfold ps.kr; omega⟩) ho]
  dsimp only
  unfold ftx
  split
  · rfl
  · rename_i hs
    have hm : ∃ y ∈ b, ps.txt b (ps.kc t) (ps.kr t) = y.s := by
      refine Classical.byContradiction fun hno => hs ?_
      have : ps.txt b (ps.kc t) (ps.kr t) = nul := ps.txt_none fun y hy => by
        rw [ps.at_no]
        rintro ⟨e1, e2⟩
        refine hno ⟨y, hy, ?_⟩
        rw [← e1, ← e2]
        obtain ⟨j, hj⟩ := List.getElem?_of_mem hy
        exact ps.txt_at hT.fine.srt hj
      rw [this]
      rfl
    obtain ⟨y, hy, e⟩ := hm
    rw [e]
    exact ps.told_ck hT hy
/-- Apply where nothing is wrong. -/
theorem apply_good (p q : Option Addr) (cp cq : Nat) (l d : List ps.Fl) (w : World) (hl : FC w p cp l) (hd : ps.FM w q d) (hE : ps.EnvP w) (hT : ps.Told l 0) (hC : CdT d 0) (hdl : d.length ≤ 4398046511104) (hn : (ps.ap l d).length ≤ 200) :
    Calls Tryz.prog 14 #[.slice p l.length cp, .slice q d.length cq] w fun e w' => ∃ p' c', e = .returned (.tuple #[.slice p' (ps.ap l d).length c', .nilIface]) ∧ FC w' p' c' (ps.ap l d) ∧ Bw w w' := by
  refine (apply_any p q cp cq l d w hl.1 hl.2 hd hdl hE).mono fun e w' ⟨t, h1, h2⟩ => ?_
  have h0 : t = 0 := by
    rcases h1 with ⟨h3, h4⟩ | ⟨-, ⟨h3, h4⟩ | ⟨-, ⟨h3, -⟩ | ⟨-, h3⟩⟩⟩
    · exact absurd (h3.one hT) h4
    · exact absurd (h3.one hC) h4
    · omega
    · exact h3
  subst h0
  rcases h2 with ⟨h2, -⟩ | ⟨-, v, rfl, hv⟩
  · exact absurd rfl h2
  · obtain ⟨p', c', rfl, hf⟩ := hv.fc
    exact ⟨p', c', rfl, hf, hv.below⟩
theorem df_len {a b : List ps.Fl} {n : Nat} : (ps.df a b n).length ≤ n := by
  unfold ps.df
  rw [List.length_map]
  refine Nat.le_trans (List.length_filter_le _ _) ?_
  rw [List.length_range]
  exact Nat.le_refl _
/-- From nothing to a sheet: that sheet. -/
theorem df_nil {l : List ps.Fl} (h : ps.Fine l) : ps.df [] l 2574 = l := by
  refine ord_ext (R := fun x y : ps.Fl => ps.lt x y.c y.r = true) (fun x y => lt_asym) (ps.df_srt _ _ _) h.srt fun x => ?_
  constructor
  · intro hx
    obtain ⟨t, ht, rfl, hne⟩ := ps.df_mem hx
    dsimp only at hne
    refine Classical.byContradiction fun hno => hne ?_
    rw [ps.txt_nil]
    refine (ps.txt_none fun y hy => ?_).symm
    rw [ps.at_no]
    rintro ⟨e1, e2⟩
    refine hno ?_
    obtain ⟨j, hj⟩ := List.getElem?_of_mem hy
    have := ps.txt_at h.srt hj
    rw [← e1, ← e2, this]
    exact hy
  · intro hx
    obtain ⟨t, ht, e1, e2⟩ := grid_no (h.ing x hx)
    obtain ⟨j, hj⟩ := List.getElem?_of_mem hx
    have e3 := ps.txt_at h.srt hj
    have := ps.df_in (a := []) (b := l) ht (by rw [e1, e2, e3, ps.txt_nil]; exact (ps.size_of_ne (h.ful x hx)).symm)
    rw [e1, e2, e3] at this
    exact this
theorem fm_of_block {w : World} {g : Nat} {cs : Array Value} {t : TypeId} {xs : List ps.Fl} (h : w.heap[g]? = some (.cells cs t (0, 0))) (he : cs.toList = ps.flF xs) : ps.FM w (some ⟨g, 0, none⟩) xs :=
  .inr ⟨g, 0, rfl, fm.lt_blk h, fun t u hu => by
    rw [← he] at hu
    simp only [World.cell?, h, Nat.zero_add]
    simpa using hu⟩
def smL : List ps.Fl := [⟨1, 1, ⟨#[50]⟩⟩, ⟨2, 1, ⟨#[61, 65, 49, 43, 49]⟩⟩]
theorem told_sm : ps.Told smL 0 := by
  refine ps.told_good (List.pairwise_cons.2 ⟨fun y hy => by obtain rfl := List.mem_singleton.1 hy; decide, List.pairwise_singleton _ _⟩) (by decide) fun x hx => ?_
  rcases List.mem_cons.1 hx with rfl | hx
  · exact ⟨by decide, by decide +kernel⟩
  · obtain rfl := List.mem_singleton.1 hx
    exact ⟨by decide, by decide +kernel⟩
theorem cell_any (c r : Int) (w : World) :
    Calls Tryz.prog 38 #[.int .i64 c, .int .i64 r] w fun e w' => e = .returned (.agg #[.int .i64 c, .int .i64 r]) ∧ Bw w w' := by
  go_enter Tryz.func38, Tryz.ntmps38
  go_wp2_with fail
  exact bodyPost_ret (v := .agg #[.int .i64 c, .int .i64 r]) (by simp [results, Tryz.results38, go_sem]) rfl ⟨rfl, Bw.al _ _⟩
theorem at_any (c r : Int) (w : World) :
    Calls Tryz.prog 22 #[.int .i64 c, .int .i64 r] w fun e w' => e = .returned (.agg #[.int .i64 c, .int .i64 r]) ∧ Bw w w' := by
  go_enter Tryz.func22, Tryz.ntmps22
  go_wp2_with fail
  exact bodyPost_ret (v := .agg #[.int .i64 c, .int .i64 r]) (by simp [results, Tryz.results22, go_sem]) rfl ⟨rfl, Bw.al _ _⟩
set_option maxHeartbeats 4000000 in
theorem small_any (w : World) : Calls Tryz.prog 19 #[] w fun e w' => ∃ p, e = .returned (.slice p 2 2) ∧ FC w' p 2 smL ∧ Bw w w' := by
  go_enter Tryz.func19, Tryz.ntmps19
  go_wp2_with (first | (go_at_call 38; refine (cell_any _ _ _).mono ?_; rintro e w1 ⟨rfl, hb1⟩))
  all_goals
    exact bodyPost_ret (v := .slice (some ⟨w1.heap.size, 0, none⟩) 2 2) (by simp [results, Tryz.results19, go_sem]) rfl ⟨_, rfl, ⟨fm_of_block (heap_alloc_new w1 _) rfl, by decide⟩, (Bw.tr (by assumption) hb1).tr (Bw.al w1 _)⟩
end Go.Proofs.YtomgjjngkffbbaaGreatDoor.fw

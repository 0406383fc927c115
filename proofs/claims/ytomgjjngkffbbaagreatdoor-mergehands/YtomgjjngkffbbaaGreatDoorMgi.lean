
/- Package merge: Diff. Conditions: what the package variables hold. -/
import Derived.Test.YtomgjjngkffbbaaGreatDoorMgg
import Derived.Test.YtomgjjngkffbbaaGreatDoorMgh
import Derived.Test.YtomgjjngkffbbaaGreatDoorMgc
namespace Go.Proofs.YtomgjjngkffbbaaGreatDoor.fw
open Go Go.RowKit Go.Sort Go.Maps
theorem MT.perm {w : World} {b : Nat} {X Y : List Tr} (h : MT w b X) (hp : X.Perm Y) : MT w b Y := by
  obtain ⟨es, h1, h2⟩ := h
  rw [hp.length_eq] at h1
  exact ⟨es, h1, h2.perm.trans (hp.map _), fun x hx => h2.keyed x (hp.mem_iff.2 hx)⟩
theorem TB.perm {X Y : List Tr} {A : Nat → List ps.Fl} (h : TB X A) (hp : X.Perm Y) : TB Y A :=
  ⟨fun x hx y hy => h.one x (hp.mem_iff.2 hx) y (hp.mem_iff.2 hy), hp.nodup_iff.1 h.nd, fun x hx => h.txt x (hp.mem_iff.2 hx), fun j hj f hf => by
    obtain ⟨x, hx, e⟩ := h.has j hj f hf
    exact ⟨x, hp.mem_iff.1 hx, e⟩, fun x hx => h.grid x (hp.mem_iff.2 hx)⟩
/-- Two lists in one order that have the same. -/
theorem ord_ext {α : Type} {R : α → α → Prop} (hR : ∀ x y, R x y → ¬ R y x) {a b : List α} (ha : a.Pairwise R) (hb : b.Pairwise R) (h : ∀ x, x ∈ a ↔ x ∈ b) : a = b := by
  have irr : ∀ x, ¬ R x x := fun x hx => hR x x hx hx
  induction a generalizing b with
  | nil =>
    cases b with
    | nil => rfl
    | cons y b => exact absurd ((h y).2 List.mem_cons_self) List.not_mem_nil
  | cons x a ih =>
    cases b with
    | nil => exact absurd ((h x).1 List.mem_cons_self) List.not_mem_nil
    | cons y b =>
      obtain ⟨ha1, ha2⟩ := List.pairwise_cons.1 ha
      obtain ⟨hb1, hb2⟩ := List.pairwise_cons.1 hb
      have e : x = y := by
        rcases List.mem_cons.1 ((h x).1 List.mem_cons_self) with e | e
        · exact e
        · rcases List.mem_cons.1 ((h y).2 List.mem_cons_self) with e2 | e2
          · exact e2.symm
          · exact absurd (ha1 y e2) (hR y x (hb1 x e))
      subst e
      rw [ih ha2 hb2 fun z => ?_]
      constructor
      · intro hz
        rcases List.mem_cons.1 ((h z).1 (List.mem_cons_of_mem _ hz)) with rfl | h2
        · exact absurd (ha1 z hz) (irr z)
        · exact h2
      · intro hz
        rcases List.mem_cons.1 ((h z).2 (List.mem_cons_of_mem _ hz)) with rfl | h2
        · exact absurd (hb1 z hz) (irr z)
        · exact h2
theorem lt_asym {x y : ps.Fl} (h : ps.lt x y.c y.r = true) : ¬ ps.lt y x.c x.r = true := by
  rw [ps.lt_iff] at *
  omega
theorem grid_no {c r : Int} (h : (1 ≤ c ∧ c ≤ 26) ∧ 1 ≤ r ∧ r ≤ 99) : ∃ t, t < 2574 ∧ ps.kc t = c ∧ ps.kr t = r := by
  refine ⟨(r.toNat - 1) * 26 + (c.toNat - 1), ?_, ?_, ?_⟩
  · omega
  · unfold ps.kc; omega
  · unfold ps.kr; omega
/-- What lay answers, in one form. -/
def LyR (w : World) (L : List Sh) (t : Int) (bo : Option Nat) (w' : World) : Prop := (t ≠ 0 ∧ Bw w w') ∨ (t = 0 ∧ bo = some w.heap.size ∧ ∃ X, LI w L L.length 0 X w')
theorem LyO.form {w : World} {L : List Sh} {t : Int} {e : Ending} {w' : World} (h : LyO w L t e w') : ∃ bo, e = .returned (.tuple #[.map bo, ps.errV t]) ∧ LyR w L t bo w' := by
  rcases h with ⟨h1, rfl, h3⟩ | ⟨rfl, rfl, h3⟩
  · exact ⟨none, rfl, .inl ⟨h1, h3⟩⟩
  · exact ⟨some w.heap.size, by rw [ps.errV_zero], .inr ⟨rfl, rfl, h3⟩⟩
/-- What Diff takes of the rows. -/
def dfY (l : List Tr) : List ps.Fl := (l.filter fun x => decide (x.s0 ≠ x.s1)).map fun x => ⟨x.c, x.r, x.s1⟩
theorem dfY_snoc (l : List Tr) (x : Tr) : dfY (l ++ [x]) = dfY l ++ if x.s0 ≠ x.s1 then [⟨x.c, x.r, x.s1⟩] else [] := by
  unfold dfY
  rw [List.filter_append, List.map_append]
  congr 1
  by_cases h : x.s0 = x.s1 <;> simp [h]
theorem dfY_len (l : List Tr) : (dfY l).length ≤ l.length := by
  unfold dfY
  rw [List.length_map]
  exact List.length_filter_le _ _
theorem dfY_is {Y : List Tr} {A : Nat → List ps.Fl} (hs : Y.Pairwise ltT) (h : TB Y A) : dfY Y = ps.df (A 0) (A 1) 2574 := by
  refine ord_ext (R := fun x y : ps.Fl => ps.lt x y.c y.r = true) (fun x y => lt_asym) ?_ (ps.df_srt _ _ _) fun x => ?_
  · unfold dfY
    rw [List.pairwise_map]
    refine (List.Pairwise.filter _ hs).imp fun {x y} h => ?_
    rw [ps.lt_iff]
    exact h
  · constructor
    · intro hx
      unfold dfY at hx
      obtain ⟨y, hy, rfl⟩ := List.mem_map.1 hx
      obtain ⟨hy1, hy2⟩ := List.mem_filter.1 hy
      obtain ⟨t, ht, e1, e2⟩ := grid_no (h.grid y hy1)
      obtain ⟨t0, t1, -⟩ := h.txt y hy1
      have hne := of_decide_eq_true hy2
      rw [t0, t1, ← e1, ← e2] at hne
      have := ps.df_in ht hne
      rw [e1, e2, ← t1] at this
      exact this
    · intro hx
      obtain ⟨t, ht, e, hne⟩ := ps.df_mem hx
      have hy : ∃ y ∈ Y, y.c = x.c ∧ y.r = x.r := by
        refine Classical.byContradiction fun hn => hne ?_
        have hn' : ∀ y ∈ Y, ¬ (y.c = x.c ∧ y.r = x.r) := fun y hy e => hn ⟨y, hy, e⟩
        rw [h.no hn' (j := 0) (by decide), h.no hn' (j := 1) (by decide)]
      obtain ⟨y, hy, e1, e2⟩ := hy
      obtain ⟨t0, t1, -⟩ := h.txt y hy
      rw [e1, e2] at t0 t1
      unfold dfY
      refine List.mem_map.2 ⟨y, List.mem_filter.2 ⟨hy, decide_eq_true (by rw [t0, t1]; exact hne)⟩, ?_⟩
      rw [e1, e2, t1]
      subst e
      rfl
/-- What Diff answers. -/
def DfO (w : World) (a b : List ps.Fl) (t : Int) (e : Ending) (w' : World) : Prop :=
  (t ≠ 0 ∧ e = .returned (.tuple #[.slice none 0 0, ps.errV t]) ∧ Bw w w') ∨ (t = 0 ∧ ∃ v, e = .returned (.tuple #[v, .nilIface]) ∧ RV fL w v (ps.df a b 2574) w')
theorem fld_texts (a b c : ByteArray) (W : World) : (Instr.field 63 (.agg #[.string a, .string b, .string c]) 0).run Tryz.prog W = .ok (.agg #[.string a, .string b, .string c]) W := by kernel_rfl
theorem RV.lower {α : Type} {L : EL α} {w0 w : World} {v : Value} {xs : List α} {wx : World} (h : RV L w v xs wx) (hb : Bw w0 w) : RV L w0 v xs wx := ⟨ps.own_base h.own hb.size, hb.tr h.below⟩
theorem srt_few {X : List Tr} {w : World} {L : List Sh} {i : Nat} {wx : World} (h : LI w L i 0 X wx) (hi : i ≤ 3) : X.length ≤ 600 := by have := h.few; omega
set_option maxRecDepth 1000000 in
set_option maxHeartbeats 8000000 in
theorem diff_any (p q : Option Addr) (cp cq : Nat) (a b : List ps.Fl) (w : World) (ha : ps.FM w p a) (hb : ps.FM w q b) (hE : ps.EnvP w) :
    Calls Tryz.prog 11 #[.slice p a.length cp, .slice q b.length cq] w fun e w' => ∃ t, ShT [⟨p, cp, a⟩, ⟨q, cq, b⟩] t ∧ DfO w a b t e w' := by
  have hb0 : Bw w (w.alloc (.cells #[.slice p a.length cp, .slice q b.length cq] 22)) := Bw.al w _
  have HL : Hid (Calls Tryz.prog 27 #[.slice (some ⟨w.heap.size, 0, none⟩) 2 2] (w.alloc (.cells #[.slice p a.length cp, .slice q b.length cq] 22)) fun e w' => ∃ (t : Int) (bo : Option Nat), e = .returned (.tuple #[.map bo, ps.errV t]) ∧ ShT [⟨p, cp, a⟩, ⟨q, cq, b⟩] t ∧ LyR (w.alloc (.cells #[.slice p a.length cp, .slice q b.length cq] 22)) [⟨p, cp, a⟩, ⟨q, cq, b⟩] t bo w') := by
    refine (lay_any w.heap.size 2 [⟨p, cp, a⟩, ⟨q, cq, b⟩] _ (by simp) (by simp) (fun i s hs => ?_) (hE.below hb0 hE.size)).mono fun e w' ⟨t, h1, h2⟩ => by
      obtain ⟨bo, h3, h4⟩ := h2.form
      exact ⟨t, bo, h3, h1, h4⟩
    have hB := heap_alloc_new w (.cells #[.slice p a.length cp, .slice q b.length cq] 22)
    obtain ⟨q0, q1⟩ := cells2w hB
    match i, hs with
    | 0, hs => cases hs; exact ⟨q0, ha.below hb0⟩
    | 1, hs => cases hs; exact ⟨q1, hb.below hb0⟩
  have HB0 : Hid (Bw w (w.alloc (.cells #[.slice p a.length cp, .slice q b.length cq] 22))) := hb0
  obtain ⟨na, hna⟩ : ∃ n, a.length = n := ⟨_, rfl⟩
  obtain ⟨nb, hnb⟩ : ∃ n, b.length = n := ⟨_, rfl⟩
  rw [hna, hnb] at HL HB0 ⊢
  clear hb0 ha hb hE hna hnb
  go_enter Tryz.func11, Tryz.ntmps11
  go_upto_region 2 with (first | (go_at_call 27; refine HL.out.mono ?_; rintro e w1 ⟨t, bo, rfl, ht, hly⟩))
  have HT : Hid (ShT [⟨p, cp, a⟩, ⟨q, cq, b⟩] t) := ht
  by_cases h0 : t = 0
  · subst h0
    rcases hly with ⟨h1, -⟩ | ⟨-, rfl, X, hX⟩
    · exact absurd rfl h1
    rw [ps.errV_zero]
    have hsz : (w.alloc (.cells #[.slice p na cp, .slice q nb cq] 22)).heap.size = w.heap.size + 1 := by simp
    obtain ⟨Y, hp, hs⟩ := hX.tb.sorted
    have hMY : MT w1 (w.alloc (.cells #[.slice p na cp, .slice q nb cq] 22)).heap.size Y := hX.mt.perm hp
    have hTB : TB Y (xsAt [⟨p, cp, a⟩, ⟨q, cq, b⟩]) := by
      have := hX.tb.perm hp
      rw [AL_all] at this
      exact this
    have hlY : Y.length ≤ 1000 := by rw [← hp.length_eq]; have := srt_few hX (by simp); omega
    have HTB : Hid (TB Y (xsAt [⟨p, cp, a⟩, ⟨q, cq, b⟩]) ∧ Y.Pairwise ltT ∧ Y.length ≤ 1000) := ⟨hTB, hs, hlY⟩
    have HB1 : Hid (Bw w w1) := HB0.out.tr hX.below
    obtain ⟨bt, hbt⟩ : ∃ bt, (w.alloc (.cells #[.slice p na cp, .slice q nb cq] 22)).heap.size = bt := ⟨_, rfl⟩
    rw [hbt] at hMY ⊢
    have HC : Hid (Calls Tryz.prog 28 #[.map (some bt)] w1 fun e w' => (∃ p c, e = .returned (.slice p Y.length c) ∧ CM w' p Y) ∧ Bw w1 w') := cells_any bt Y hlY hs w1 hMY
    have HMY : Hid (MT w1 bt Y) := hMY
    clear hX hp hMY hTB hlY hs hsz hbt HL HB0 ht
    go_upto_block 0 with (first | (go_at_call 28; refine HC.out.mono ?_; rintro e w2 ⟨⟨py, cy, rfl, hcm⟩, hb2⟩))
    have HB2 : Hid (Bw w w2) := HB1.out.tr hb2
    have HM2 : Hid (MT w2 bt Y ∧ CM w2 py Y) := ⟨HMY.out.at (hb2.block _ HMY.out.lt), hcm⟩
    obtain ⟨n, hn⟩ : ∃ n, Y.length = n := ⟨_, rfl⟩
    have HN : Hid (Y.length = n) := hn
    have hn9 : (n : Int) ≤ 1000 := by have := HTB.out.2.2; omega
    rw [hn]
    clear hb2 hcm HC HMY HB1 hn
    go_cut [8] (fun s8 wx => RV fL w2 s8 (dfY Y) wx)
    case first =>
      go_wp2_with fail
      go_loopw [8, 25] (fun s8 s25 wr => ∃ i : Nat, s25 = .int .i64 (i : Int) ∧ i ≤ n ∧ Hid (RV fL w2 s8 (dfY (Y.take i)) wr)) (fun _ s25 _ => n - (intOf s25).toNat)
      case atStart => exact ⟨0, rfl, Nat.zero_le _, RV.nil fL w2⟩
      case round =>
        obtain ⟨i, rfl, hi, HV⟩ := hrel
        have hi0 : (0 : Int) ≤ (i : Int) := by omega
        by_cases hlt : i < n
        · have hlt' : (i : Int) < (n : Int) := by omega
          obtain ⟨x, hx⟩ : ∃ x, Y[i]? = some x := ⟨_, List.getElem?_eq_getElem (by rw [HN.out]; exact hlt)⟩
          have HX : Hid (Y[i]? = some x) := hx
          obtain ⟨gy, oy, hpy, -, y0, y1⟩ := (HM2.out.2.below HV.out.below).at hx
          subst hpy
          have HKL : Hid (keyOf Tryz.prog 43 (.agg #[.int .i64 x.c, .int .i64 x.r]) = some (klT ⟨x.c, x.r, nul, nul, nul⟩)) := by
            have hg := HTB.out.1.grid x (List.mem_of_getElem? hx)
            exact klT_of (x := ⟨x.c, x.r, nul, nul, nul⟩) (wf_kc (by dsimp only; omega)) (wf_kc (by dsimp only; omega))
          have HOf : Hid (Tr.of Y x.c x.r = x) := Tr.of_mem HTB.out.1.one (List.mem_of_getElem? hx)
          clear hx
          go_upto_region 8 with fail
          have HV1 : Hid (RV fL w2 u8 (dfY (Y.take i)) (wr.alloc (.cells #[.int .i64 x.c, .int .i64 x.r] 43)) ∧ (wr.alloc (.cells #[.int .i64 x.c, .int .i64 x.r] 43)).heap[wr.heap.size]? = some (.cells #[.int .i64 x.c, .int .i64 x.r] 43 (0, 0))) := ⟨HV.out.next (Bw.al wr _), heap_alloc_new wr _⟩
          generalize wr.alloc (.cells #[.int .i64 x.c, .int .i64 x.r] 43) = W1 at *
          generalize wr.heap.size = bx at *
          clear y0 y1
          obtain ⟨c0, c1⟩ := cells2w HV1.out.2
          obtain ⟨es, hown, hlk⟩ := HM2.out.1.at (HV1.out.1.below.block _ HM2.out.1.lt)
          have hlook := look_run hown hlk HTB.out.1.one HKL.out
          rw [HOf.out] at hlook
          have hfld := fld_texts x.s0 x.s1 x.s2
          clear hown hlk
          go_upto_region 9 with fail
          have HV2 : Hid (RV fL w2 u8 (dfY (Y.take i)) (W1.alloc (.cells #[.string x.s0, .string x.s1, .string x.s2] 61)) ∧ (W1.alloc (.cells #[.string x.s0, .string x.s1, .string x.s2] 61)).heap[bx]? = some (.cells #[.int .i64 x.c, .int .i64 x.r] 43 (0, 0)) ∧ (W1.alloc (.cells #[.string x.s0, .string x.s1, .string x.s2] 61)).heap[W1.heap.size]? = some (.cells #[.string x.s0, .string x.s1, .string x.s2] 61 (0, 0))) := ⟨HV1.out.1.next (Bw.al W1 _), ((Bw.al W1 _).block _ (fm.lt_blk HV1.out.2)).trans HV1.out.2, heap_alloc_new W1 _⟩
          generalize W1.alloc (.cells #[.string x.s0, .string x.s1, .string x.s2] 61) = W2 at *
          generalize W1.heap.size = bo at *
          clear c0 c1 hlook hfld HV1
          obtain ⟨c0, c1⟩ := cells2w HV2.out.2.1
          obtain ⟨r0, r1, r2⟩ := cells3z HV2.out.2.2
          have HD : Hid (dfY (Y.take (i + 1)) = dfY (Y.take i) ++ if x.s0 ≠ x.s1 then [⟨x.c, x.r, x.s1⟩] else []) := by
            show _ = _
            rw [List.take_add_one, HX.out]
            exact dfY_snoc _ _
          by_cases hxy : x.s0 = x.s1
          · have HE : Hid (RV fL w2 u8 (dfY (Y.take (i + 1))) W2) := by
              show RV _ _ _ _ _
              rw [HD.out, if_neg (by simp [hxy]), List.append_nil]
              exact HV2.out.1
            go_wp2_with fail
            exact ⟨⟨i + 1, by simp, hlt, HE.out⟩, by simp [intOf]; omega⟩
          · have hq : (x.s0.toList == x.s1.toList) = false := by
              rw [beq_eq_false_iff_ne]
              intro e
              rw [ByteArray.toList_eq, ByteArray.toList_eq] at e
              exact hxy (ByteArray.ext (Array.toList_inj.1 e))
            have hlen : (dfY (Y.take i)).length ≤ 10000 := by
              have h1 := dfY_len (Y.take i)
              rw [List.length_take] at h1
              omega
            obtain ⟨g, k, w4, hr, hv⟩ := HV2.out.1.fill hlen x.c x.r x.s1
            have HR4 : Hid ((Builtin.append_ #[22, 22] 22 #[u8, .slice (some ⟨W2.heap.size, 0, none⟩) 1 1]).run Tryz.prog (W2.alloc (.cells #[.int .i64 x.c, .int .i64 x.r, .string x.s1] 45)) = .ok (.slice (some ⟨g, 0, none⟩) ((dfY (Y.take i)).length + 1) k) w4) := hr
            have HE : Hid (RV fL w2 (.slice (some ⟨g, 0, none⟩) ((dfY (Y.take i)).length + 1) k) (dfY (Y.take (i + 1))) w4) := by
              show RV _ _ _ _ _
              rw [HD.out, if_pos hxy]
              exact hv
            generalize (dfY (Y.take i)).length + 1 = m at HR4 HE
            clear hr hv hlen hxy HD
            go_wp2_with (first | (at_builtin; refine wpList_append_eq rfl _ _ 22 22 rfl _ _ _ _ rfl rfl HR4.out ?_))
            exact ⟨⟨i + 1, by simp, hlt, HE.out⟩, by simp [intOf]; omega⟩
        · have hlt' : ¬ (i : Int) < (n : Int) := by omega
          obtain rfl : i = n := by omega
          have HE : Hid (RV fL w2 u8 (dfY Y) wr) := by
            have := HV.out
            rw [List.take_of_length_le (by rw [HN.out]; exact Nat.le_refl _)] at this
            exact this
          go_wp2_with fail
          go_meet
          case rel => exact HE.out
    case rest =>
    have HE : Hid (RV fL w u8 (dfY Y) wc) := hcut.lower HB2.out
    clear hcut
    apply_assumption
    go_wp2_with fail
    exact bodyPost_ret (v := .tuple #[u8, .nilIface]) (by simp [results, Tryz.results11, go_sem]) rfl ⟨0, HT.out, .inr ⟨rfl, u8, rfl, by rw [dfY_is HTB.out.2.1 HTB.out.1] at HE; exact HE.out⟩⟩
  · rcases hly with ⟨-, h1⟩ | ⟨h1, -⟩
    · have HB1 : Hid (Bw w w1) := HB0.out.tr h1
      have HN : Hid (t ≠ 0) := h0
      rw [ps.errV_some h0]
      clear h0 h1 HL HB0 ht
      go_wp2_with fail
      exact bodyPost_ret (v := .tuple #[.slice none 0 0, .iface 67 (.int .i64 t)]) (by simp [results, Tryz.results11, go_sem]) rfl ⟨t, HT.out, .inl ⟨HN.out, by rw [ps.errV_some HN.out], HB1.out⟩⟩
    · exact absurd h1 h0
end Go.Proofs.YtomgjjngkffbbaaGreatDoor.fw

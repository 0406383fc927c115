
/- Package book: Open. Conditions: as each theorem says. -/
import Derived.Test.YtokfijkhflfioaaGreatDoorBkp
import Derived.Test.YtokfijkhflfioaaGreatDoorBkn
import Derived.Test.YtokfijkhflfioaaGreatDoorBkl
import Derived.Test.YtokfijkhflfioaaGreatDoorBkg
namespace Go.Proofs.YtokfijkhflfioaaGreatDoor.fw
open Go Go.RowKit Go.Sort Go.Maps
def okT (s : ByteArray) : Bool := decide (ftx s = 0)
theorem okT_le (s : ByteArray) (h : okT s = true) : s.size ≤ 200 := ftx_le (of_decide_eq_true h)
theorem set_tk (xs : List ps.Fl) (c r : UInt8) (t : List UInt8) : setF okT xs c r t = tkF xs ⟨(c.toNat : Int), (r.toNat : Int), txt t⟩ := by
  unfold setF tkF
  have h : ((1 ≤ c.toNat ∧ c.toNat ≤ 26) ∧ (1 ≤ r.toNat ∧ r.toNat ≤ 99) ∧ okT (txt t) = true ∧ (ps.wt xs ⟨(c.toNat : Int), (r.toNat : Int), txt t⟩).length ≤ 200) ↔ (adr.isC (c.toNat : Int) (r.toNat : Int) = true ∧ ftx (txt t) = 0 ∧ (ps.wt xs ⟨(c.toNat : Int), (r.toNat : Int), txt t⟩).length ≤ 200) := by
    rw [adr.isC_iff]
    unfold okT
    rw [decide_eq_true_eq]
    constructor
    · rintro ⟨h1, h2, h3, h4⟩; exact ⟨⟨by omega, by omega⟩, h3, h4⟩
    · rintro ⟨h1, h3, h4⟩; exact ⟨by omega, by omega, h3, h4⟩
  simp only [h]
/-- What is there of bytes, from a sheet on. -/
def opE (xs : List ps.Fl) (b : List UInt8) : List ps.Fl × Nat := opn (setF okT) b.length xs b
theorem opE_none {xs : List ps.Fl} {b : List UInt8} (h : ent b = none) : opE xs b = (xs, 0) := by
  unfold opE
  cases b.length with
  | zero => rfl
  | succ k =>
    show (match ent b with | none => (xs, 0) | some (c, r, t) => _) = _
    rw [h]
theorem opE_no {xs : List ps.Fl} {b : List UInt8} {c r : UInt8} {t : List UInt8} (h : ent b = some (c, r, t)) (h2 : setF okT xs c r t = none) : opE xs b = (xs, 0) := by
  unfold opE
  cases b.length with
  | zero => rfl
  | succ k =>
    show (match ent b with | none => (xs, 0) | some (c, r, t) => _) = _
    rw [h]
    simp only [h2]
theorem opE_step {xs ys : List ps.Fl} {b : List UInt8} {c r : UInt8} {t : List UInt8} (h : ent b = some (c, r, t)) (h2 : setF okT xs c r t = some ys) : opE xs b = ((opE ys (b.drop (t.length + 5))).1, t.length + 5 + (opE ys (b.drop (t.length + 5))).2) := by
  have hl := (ent_length h).1
  unfold opE
  obtain ⟨k, hk⟩ : ∃ k, b.length = k + 1 := ⟨b.length - 1, by omega⟩
  rw [hk]
  show (match ent b with | none => (xs, 0) | some (c, r, t) => _) = _
  rw [h]
  simp only [h2]
  rw [opn_enough (setF okT) k ys (b.drop (t.length + 5)) (by rw [List.length_drop]; omega)]
theorem tk_srt {xs ys : List ps.Fl} {f : ps.Fl} (h : tkF xs f = some ys) (hs : ps.Srt xs) : ps.Srt ys ∧ ys.length ≤ 200 := by
  unfold tkF at h
  split at h
  · rename_i hc
    obtain rfl := Option.some.inj h
    exact ⟨ps.wt_srt hs f, hc.2.2⟩
  · cases h
theorem make_page (wx : World) : (Instr.makeMap 62 none).run Tryz.prog wx = .ok (.map (some wx.heap.size)) (wx.alloc (.map #[] 0)) := by
  simp [Instr.makeMap, go_sem]
/-- What Open answers. -/
def OpO (w : World) (l : List UInt8) (e : Ending) (w' : World) : Prop := (∃ q cq, e = .returned (.tuple #[.slice q (opE [] l).1.length cq, .int .i64 ((opE [] l).2 : Int)]) ∧ ps.FM w' q (opE [] l).1) ∧ Bw w w'
/-- The bytes from a place on. -/
theorem bm_drop {w : World} {g o c : Nat} {l : List UInt8} (h : BM w (.slice (some ⟨g, o, none⟩) l.length c) l) (a : Nat) (_ha : a ≤ l.length) (q : Option Addr) (hq : q = some ⟨g, o + a, none⟩ ∨ a = l.length) (c' : Nat) : BM w (.slice q (l.drop a).length c') (l.drop a) := by
  obtain ⟨p2, c2, e, hc⟩ := h
  cases e
  refine ⟨q, c', rfl, fun i x hx => ?_⟩
  rcases hq with rfl | hq
  · rw [List.getElem?_drop] at hx
    obtain ⟨g2, o2, e, h2⟩ := hc (a + i) x hx
    cases e
    exact ⟨g, o + a, rfl, by rw [Nat.add_assoc]; exact h2⟩
  · rw [hq, List.drop_length] at hx
    cases hx
structure OI (w : World) (l : List UInt8) (at' : Nat) (xs : List ps.Fl) (wr : World) : Prop where
  below : Bw w wr
  mp : MP wr w.heap.size xs
  srt : ps.Srt xs
  few : xs.length ≤ 200
  le : at' ≤ l.length
  eq : opE [] l = ((opE xs (l.drop at')).1, at' + (opE xs (l.drop at')).2)
set_option maxRecDepth 1000000 in
set_option maxHeartbeats 8000000 in
theorem open_any (p : Option Addr) (c : Nat) (l : List UInt8) (w : World) (hv : BM w (.slice p l.length c) l) (hcc : l.length ≤ c) (hl : l.length ≤ 140737488355328) (hE : ps.EnvP w) : Calls Tryz.prog 15 #[.slice p l.length c] w fun e w' => OpO w l e w' := by
  have HV : Hid (BM w (.slice p l.length c) l) := hv
  have HE : Hid (ps.EnvP w) := hE
  have hl9 : (l.length : Int) ≤ 140737488355328 := by omega
  obtain ⟨n, hn⟩ : ∃ n, l.length = n := ⟨_, rfl⟩
  have HN : Hid (l.length = n) := hn
  rw [hn] at hl9 hcc ⊢
  have hcc' : (n : Int) ≤ (c : Int) := by omega
  clear hv hE
  have hmk := make_page
  go_enter Tryz.func15, Tryz.ntmps15
  go_wp2_with fail
  have HI0 : Hid (OI w l 0 [] (w.alloc (.map #[] 0))) := ⟨Bw.al w _, mpg.MG.nil w, List.Pairwise.nil, Nat.zero_le _, Nat.zero_le _, by rw [List.drop_zero]; simp⟩
  clear hmk
  generalize w.alloc (.map #[] 0) = W0 at *
  go_loopw [5] (fun s5 wr => ∃ (a : Nat) (xs : List ps.Fl), s5 = .int .i64 (a : Int) ∧ a ≤ n ∧ Hid (OI w l a xs wr)) (fun s5 _ => n - (intOf s5).toNat)
  case atStart => exact ⟨0, [], rfl, Nat.zero_le _, HI0.out⟩
  case round =>
    clear HI0
    obtain ⟨a, xs, rfl, ha, HI⟩ := hrel
    have ha0 : (0 : Int) ≤ (a : Int) := by omega
    have ha9 : (a : Int) ≤ (n : Int) := by omega
    have ha2 : (a : Int) ≤ (c : Int) := by omega
    have hdl : (l.drop a).length = n - a := by rw [List.length_drop, HN.out]
    obtain ⟨f, lg, hfs⟩ : ∃ (f : ps.Fl) (lg : Int), FsO (l.drop a) = .tuple #[FVv f, .int .i64 lg] := by
      unfold FsO
      cases ent (l.drop a) with
      | none => exact ⟨⟨0, 0, nul⟩, 0, rfl⟩
      | some e => exact ⟨⟨(e.1.toNat : Int), (e.2.1.toNat : Int), txt e.2.2⟩, _, rfl⟩
    have HFS : Hid (FsO (l.drop a) = .tuple #[FVv f, .int .i64 lg]) := hfs
    have hcall : ∀ q c', BM wr (.slice q (l.drop a).length c') (l.drop a) → n - a ≤ c' → Calls Tryz.prog 26 #[.slice q (n - a) c'] wr fun e w' => e = .returned (.tuple #[.agg #[.int .i64 f.c, .int .i64 f.r, .string f.s], .int .i64 lg]) ∧ Bw wr w' := fun q c' hb h2 => by
      have := first_any q c' (l.drop a) wr hb (by rw [hdl]; exact h2) (by rw [hdl]; have := HN.out; omega)
      rw [hdl, hfs] at this
      exact this
    have HF : Hid (Calls Tryz.prog 26 #[.slice (Option.map (fun x => x.add a) p) (n - a) (c - a)] wr fun e w' => e = .returned (.tuple #[.agg #[.int .i64 f.c, .int .i64 f.r, .string f.s], .int .i64 lg]) ∧ Bw wr w') := by
      refine hcall _ _ ?_ (by omega)
      cases hl0 : l with
      | nil => exact ⟨_, _, rfl, fun i x hx => by simp at hx⟩
      | cons x l' =>
        have h0 := HV.out.next HI.out.below
        obtain ⟨p2, c2, e, hc⟩ := HV.out
        cases e
        obtain ⟨g, o, rfl, -⟩ := hc 0 x (by rw [hl0]; rfl)
        rw [← hl0]
        exact bm_drop h0 a (by rw [HN.out]; exact ha) _ (.inl (by simp [Addr.add])) (c - a)
    have HFz : Hid (c = a → Calls Tryz.prog 26 #[.slice p (n - a) 0] wr fun e w' => e = .returned (.tuple #[.agg #[.int .i64 f.c, .int .i64 f.r, .string f.s], .int .i64 lg]) ∧ Bw wr w') := fun h => by
      have hna : n = a := by omega
      refine hcall _ _ ⟨_, _, rfl, fun i x hx => ?_⟩ (by omega)
      rw [List.drop_of_length_le (by rw [HN.out]; omega)] at hx
      cases hx
    clear hcall hfs
    go_upto_region 3 with fail
    go_cut [6, 7] (fun s6 s7 wx => ∃ wf, Bw wr wf ∧ s6 = .pointer (some ⟨wf.heap.size, 0, none⟩) ∧ wx = wf.alloc (.cells #[.int .i64 f.c, .int .i64 f.r, .string f.s] 25) ∧ s7 = .int .i64 lg)
    case first =>
      by_cases hca : c = a
      · have HFz2 : Hid (Calls Tryz.prog 26 #[.slice p 0 0] wr fun e w' => e = .returned (.tuple #[.agg #[.int .i64 f.c, .int .i64 f.r, .string f.s], .int .i64 lg]) ∧ Bw wr w') := by
          have := HFz.out hca
          rw [show n - a = 0 by omega] at this
          exact this
        clear HF HFz HV HE HI HFS
        subst hca
        go_wp2_with (first | (go_at_call 26; with_reducible refine HFz2.out.mono ?_; rintro e wf ⟨rfl, hbf⟩))
        go_meet
        case rel => exact ⟨wf, hbf, rfl, rfl, rfl⟩
      · clear HFz HV HE HI HFS
        go_wp2_with (first | (go_at_call 26; with_reducible refine HF.out.mono ?_; rintro e wf ⟨rfl, hbf⟩))
        go_meet
        case rel => exact ⟨wf, hbf, rfl, rfl, rfl⟩
    case rest =>
    obtain ⟨wf, hbf, rfl, rfl, rfl⟩ := hcut
    have HIx : Hid (OI w l a xs (wf.alloc (.cells #[.int .i64 f.c, .int .i64 f.r, .string f.s] 25))) := by
      have hb2 : Bw wr (wf.alloc (.cells #[.int .i64 f.c, .int .i64 f.r, .string f.s] 25)) := hbf.tr (Bw.al wf _)
      exact ⟨HI.out.below.tr hb2, HI.out.mp.at (hb2.block _ HI.out.mp.lt), HI.out.srt, HI.out.few, HI.out.le, HI.out.eq⟩
    obtain ⟨y0, y1, y2⟩ := cells3q (heap_alloc_new wf (.cells #[.int .i64 f.c, .int .i64 f.r, .string f.s] 25))
    generalize wf.alloc (.cells #[.int .i64 f.c, .int .i64 f.r, .string f.s] 25) = W1 at *
    have HLi : Hid (∀ wx, OI w l a xs wx → Calls Tryz.prog 28 #[.map (some w.heap.size)] wx fun e w' => (∃ q cq, e = .returned (.slice q xs.length cq) ∧ ps.FM w' q xs) ∧ Bw wx w') := fun wx h => list_any w.heap.size xs (by have := h.few; omega) h.srt wx h.mp
    clear HI HF HFz hbf
    apply_assumption
    cases hent : ent (l.drop a) with
    | none =>
      have HQ : Hid (opE [] l = (xs, a)) := by
        show _ = _
        rw [HIx.out.eq, opE_none hent]
        rfl
      obtain ⟨e1, e2⟩ : FVv f = .agg #[.int .i64 0, .int .i64 0, .string nul] ∧ lg = 0 := by
        have := HFS.out
        unfold FsO at this
        rw [hent] at this
        simp at this
        obtain ⟨⟨h1, h2, h3⟩, h4⟩ := this
        exact ⟨by rw [FVv, ← h1, ← h2, ← h3], h4.symm⟩
      subst e2
      clear e1 HFS
      go_wp2_with (first | (go_at_call 28; refine (HLi.out _ HIx.out).mono ?_; rintro e w2 ⟨⟨q, cq, rfl, hfm⟩, hb2⟩))
      exact bodyPost_ret (v := .tuple #[.slice q xs.length cq, .int .i64 (a : Int)]) (by simp [results, Tryz.results15, go_sem]) rfl ⟨⟨q, cq, by rw [HQ.out], by rw [HQ.out]; exact hfm⟩, HIx.out.below.tr hb2⟩
    | some e =>
      obtain ⟨ec, er, t⟩ := e
      obtain ⟨k, hk⟩ : ∃ k, t.length + 5 = k := ⟨_, rfl⟩
      have hkl : k ≤ n - a ∧ t.length < 256 := by
        have := ent_length hent
        rw [hdl] at this
        omega
      obtain ⟨e1, rfl⟩ : f = ⟨(ec.toNat : Int), (er.toNat : Int), txt t⟩ ∧ lg = (k : Int) := by
        have := HFS.out
        unfold FsO at this
        rw [hent] at this
        simp only [Value.tuple.injEq] at this
        simp at this
        obtain ⟨⟨h1, h2, h3⟩, h4⟩ := this
        refine ⟨?_, by omega⟩
        rw [h1, h2, h3]
      have hf1 : 0 ≤ f.c ∧ f.c < 256 := by rw [e1]; have := ec.toNat_lt; dsimp only; omega
      have hf2 : 0 ≤ f.r ∧ f.r < 256 := by rw [e1]; have := er.toNat_lt; dsimp only; omega
      have hst : setF okT xs ec er t = tkF xs f := by rw [set_tk, e1]
      have HTk : Hid (Calls Tryz.prog 27 #[.map (some w.heap.size), .agg #[.int .i64 f.c, .int .i64 f.r, .string f.s]] W1 fun e w' => TkO w w.heap.size xs f e w') := takes_any w w.heap.size (Nat.le_refl _) xs f W1 HIx.out.below HIx.out.mp HIx.out.srt HIx.out.few HE.out hf1 hf2
      have hk0 : ¬ (k : Int) = 0 := by omega
      clear HFS e1 hf1 hf2
      cases htk : tkF xs f with
      | none =>
        have HQ : Hid (opE [] l = (xs, a)) := by
          show _ = _
          rw [HIx.out.eq, opE_no hent (hst.trans htk)]
          rfl
        have HTn : Hid (Calls Tryz.prog 27 #[.map (some w.heap.size), .agg #[.int .i64 f.c, .int .i64 f.r, .string f.s]] W1 fun e w' => e = .returned (.bool false) ∧ OI w l a xs w') := HTk.out.mono fun e w' h => by
          rcases h with ⟨ys, h1, -⟩ | ⟨-, h2, h3, h4⟩
          · rw [htk] at h1; cases h1
          · exact ⟨h2, ⟨h4, h3, HIx.out.srt, HIx.out.few, HIx.out.le, HIx.out.eq⟩⟩
        clear HTk
        go_wp2_with (first | (go_at_call 27; refine HTn.out.mono ?_; rintro e w2 ⟨rfl, hOI⟩; have HO2 : Hid (OI w l a xs w2) := hOI; clear hOI) | (go_at_call 28; refine (HLi.out _ HO2.out).mono ?_; rintro e w3 ⟨⟨q, cq, rfl, hfm⟩, hb3⟩))
        exact bodyPost_ret (v := .tuple #[.slice q xs.length cq, .int .i64 (a : Int)]) (by simp [results, Tryz.results15, go_sem]) rfl ⟨⟨q, cq, by rw [HQ.out], by rw [HQ.out]; exact hfm⟩, HO2.out.below.tr hb3⟩
      | some ys =>
        have HTs : Hid (Calls Tryz.prog 27 #[.map (some w.heap.size), .agg #[.int .i64 f.c, .int .i64 f.r, .string f.s]] W1 fun e w' => e = .returned (.bool true) ∧ OI w l (a + k) ys w') := HTk.out.mono fun e w' h => by
          rcases h with ⟨zs, h1, h2, h3, h4⟩ | ⟨h1, -⟩
          · rw [htk] at h1
            obtain rfl := Option.some.inj h1
            obtain ⟨s1, s2⟩ := tk_srt htk HIx.out.srt
            refine ⟨h2, ⟨h4, h3, s1, s2, by rw [HN.out]; omega, ?_⟩⟩
            rw [HIx.out.eq, opE_step hent (hst.trans htk), List.drop_drop, hk]
            simp only [Prod.mk.injEq, true_and]
            omega
          · rw [htk] at h1; cases h1
        have hak : (a : Int) + (k : Int) ≤ 140737488355328 := by omega
        clear HTk HLi
        go_wp2_with (first | (go_at_call 27; refine HTs.out.mono ?_; rintro e w2 ⟨rfl, hOI⟩; have HO2 : Hid (OI w l (a + k) ys w2) := hOI; clear hOI))
        exact ⟨⟨a + k, ys, by simp, by omega, HO2.out⟩, by simp [intOf]; omega⟩
end Go.Proofs.YtokfijkhflfioaaGreatDoor.fw

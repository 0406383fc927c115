
/- Package merge: lay. Conditions: what the package variables hold. -/
import Derived.Test.YtomgjjngkffbbaaGreatDoorMgf
import Derived.Test.YtomgjjngkffbbaaGreatDoorYb
namespace Go.Proofs.YtomgjjngkffbbaaGreatDoor.fw
open Go Go.RowKit Go.Sort Go.Maps
/-- A sheet that is handed over: where it lies. -/
structure Sh where
  p : Option Addr
  c : Nat
  xs : List ps.Fl
/-- The first fault of some sheets: a number. -/
def ShT : List Sh → Int → Prop
  | [], t => t = 0
  | s :: l, t => (ps.Told s.xs t ∧ t ≠ 0) ∨ (ps.Told s.xs 0 ∧ ShT l t)
theorem ShT.found {L : List Sh} {i : Nat} {s : Sh} {t : Int} (h0 : ∀ (j : Nat) (s' : Sh), j < i → L[j]? = some s' → ps.Told s'.xs 0) (hi : L[i]? = some s) (h : ps.Told s.xs t) (hn : t ≠ 0) : ShT L t := by
  induction L generalizing i with
  | nil => simp at hi
  | cons x l ih =>
    cases i with
    | zero =>
      have e : x = s := by simpa using hi
      subst e
      exact .inl ⟨h, hn⟩
    | succ i =>
      exact .inr ⟨h0 0 x (by omega) (by simp), ih (i := i) (fun j s' hj hs => h0 (j + 1) s' (by omega) (by simpa using hs)) (by simpa using hi)⟩
theorem ShT.none {L : List Sh} (h0 : ∀ (j : Nat) (s' : Sh), L[j]? = some s' → ps.Told s'.xs 0) : ShT L 0 := by
  induction L with
  | nil => rfl
  | cons x l ih => exact .inr ⟨h0 0 x (by simp), ih fun j s' hs => h0 (j + 1) s' (by simpa using hs)⟩
def xsAt (L : List Sh) (j : Nat) : List ps.Fl := match L[j]? with | some s => s.xs | none => []
theorem xsAt_some {L : List Sh} {j : Nat} {s : Sh} (h : L[j]? = some s) : xsAt L j = s.xs := by unfold xsAt; rw [h]
/-- The sheets as far as they were laid: i of them, and k cells of the next one. -/
def AL (L : List Sh) (i k : Nat) : Nat → List ps.Fl := fun j => if j < i then xsAt L j else if j = i then (xsAt L i).take k else []
theorem AL_zero (L : List Sh) : AL L 0 0 = fun _ => [] := by
  funext j
  unfold AL
  rw [if_neg (Nat.not_lt_zero _)]
  split <;> simp
theorem AL_end {L : List Sh} {i k : Nat} (h : (xsAt L i).length ≤ k) : AL L i k = AL L (i + 1) 0 := by
  funext j
  unfold AL
  by_cases h1 : j < i
  · rw [if_pos h1, if_pos (by omega)]
  · by_cases h2 : j = i
    · subst h2
      rw [if_neg h1, if_pos rfl, if_pos (by omega), List.take_of_length_le h]
    · rw [if_neg h1, if_neg h2, if_neg (by omega)]
      split <;> simp
theorem AL_all (L : List Sh) : AL L L.length 0 = xsAt L := by
  funext j
  unfold AL
  by_cases h1 : j < L.length
  · rw [if_pos h1]
  · have e : xsAt L j = [] := by unfold xsAt; rw [List.getElem?_eq_none (by omega)]
    rw [if_neg h1, e]
    split
    · rename_i h2
      subst h2
      rw [e, List.take_nil]
    · rfl
theorem AL_here (L : List Sh) (i k : Nat) : AL L i k i = (xsAt L i).take k := by unfold AL; rw [if_neg (Nat.lt_irrefl _), if_pos rfl]
theorem AL_succ {L : List Sh} {i k : Nat} {f : ps.Fl} (h : (xsAt L i)[k]? = some f) : (fun j => if j = i then AL L i k i ++ [f] else AL L i k j) = AL L i (k + 1) := by
  funext j
  by_cases h2 : j = i
  · subst h2
    rw [if_pos rfl, AL_here, AL_here, List.take_add_one, h]
    rfl
  · rw [if_neg h2]
    unfold AL
    rw [if_neg h2, if_neg h2]
theorem srt_at {xs : List ps.Fl} (hs : ps.Srt xs) {k : Nat} {f : ps.Fl} (h : xs[k]? = some f) : ∀ x ∈ xs.take k, ¬ (x.c = f.c ∧ x.r = f.r) := fun x hx e => by
  obtain ⟨j, hj⟩ := List.getElem?_of_mem hx
  rw [List.getElem?_take] at hj
  split at hj
  · rename_i hjk
    obtain ⟨h1, h2⟩ := List.getElem?_eq_some_iff.1 hj
    obtain ⟨h3, h4⟩ := List.getElem?_eq_some_iff.1 h
    have := List.pairwise_iff_getElem.1 hs j k h1 h3 hjk
    rw [h2, h4, ps.lt_iff] at this
    omega
  · cases hj
open Classical in
theorem putT_len (xs : List Tr) (i : Nat) (f : ps.Fl) : (putT xs i f).length ≤ xs.length + 1 := by
  unfold putT
  rw [List.length_cons]
  have := List.length_filter_le (fun x => decide (kvT x ≠ kvT ((Tr.of xs f.c f.r).set i f.s))) xs
  omega
theorem make_table (wx : World) : (Instr.makeMap 57 none).run Tryz.prog wx = .ok (.map (some wx.heap.size)) (wx.alloc (.map #[] 0)) := by
  simp [Instr.makeMap, go_sem]
theorem bw_mapT {w wx wy : World} {b : Nat} (h : Bw w wx) (hb : w.heap.size ≤ b) (hg : wx.grownBy wy (some b)) : Bw w wy := h.grown hg h.size (fun k e => by cases e; exact hb)
/-- What is looked up in the table. -/
theorem look_run {w : World} {b n : Nat} {es : List (Lit × DataW Value)} {X : List Tr} (hown : w.ownsMap Tryz.prog 43 mpg.anyR b n (.map es)) (hlk : mpg.Lk Tryz.prog 43 kvT vvT klT es X) (hd : ∀ x ∈ X, ∀ y ∈ X, x.c = y.c → x.r = y.r → x = y) {c r : Int} (hk : keyOf Tryz.prog 43 (kvT ⟨c, r, nul, nul, nul⟩) = some (klT ⟨c, r, nul, nul, nul⟩)) :
    (Instr.lookup 57 (.map (some b)) (.agg #[.int .i64 c, .int .i64 r]) false).run Tryz.prog w = .ok (.agg #[.string (Tr.of X c r).s0, .string (Tr.of X c r).s1, .string (Tr.of X c r).s2]) w := by
  obtain ⟨v, pp, h1, h2⟩ := World.ownsMap.lookup hown keyC under_table (zeroT w) (zd := .held nuls) (zp := []) rfl (key := .agg #[.int .i64 c, .int .i64 r]) hk
  have := lkT_of hlk hd hk
  rw [this] at h2
  unfold mpg.anyR at h2
  cases h2
  exact h1
/-- What stands between two steps of lay. -/
structure LI (w : World) (L : List Sh) (i k : Nat) (X : List Tr) (wr : World) : Prop where
  below : Bw w wr
  mt : MT wr w.heap.size X
  tb : TB X (AL L i k)
  few : X.length ≤ 200 * i + k
  ok : ∀ j s, j < i → L[j]? = some s → ps.Told s.xs 0
theorem LI.next {w : World} {L : List Sh} {i k : Nat} {X : List Tr} {wx wy : World} (h : LI w L i k X wx) (hb : Bw wx wy) : LI w L i k X wy :=
  ⟨h.below.tr hb, h.mt.at (hb.block _ h.mt.lt), h.tb, h.few, h.ok⟩
/-- A row that is stored again. -/
theorem LI.put {w : World} {L : List Sh} {i k : Nat} {X : List Tr} {wx wy wz : World} {es : List (Lit × DataW Value)} {m : Nat} (h : LI w L i k X wx) (hi : i < 3) {x : ps.Fl} (hx : (xsAt L i)[k]? = some x) (hs : ps.Srt (xsAt L i)) (hg : (1 ≤ x.c ∧ x.c ≤ 26) ∧ 1 ≤ x.r ∧ x.r ≤ 99)
    (hlk : mpg.Lk Tryz.prog 43 kvT vvT klT es X) (hk : keyOf Tryz.prog 43 (kvT ((Tr.of X x.c x.r).set i x.s)) = some (klT ((Tr.of X x.c x.r).set i x.s))) (ho : wy.ownsMap Tryz.prog 43 mpg.anyR w.heap.size m ((DataW.map es).put (klT ((Tr.of X x.c x.r).set i x.s)) (.held (vvT ((Tr.of X x.c x.r).set i x.s)))))
    (hb : Bw w wz) (ht : wz.mapTurned wy w.heap.size) : LI w L i (k + 1) (putT X i x) wy := by
  refine ⟨bw_mapT hb (Nat.le_refl _) ht.grown, mpg.MG.put hlk keyC hk ho (List.Perm.refl _), ?_, ?_, h.ok⟩
  · have := h.tb.put hi (f := x) (by rw [AL_here]; exact srt_at hs hx) hg
    rw [AL_succ hx] at this
    exact this
  · have := putT_len X i x
    have := h.few
    omega
theorem cells3z {w : World} {b : Nat} {a0 a1 a2 : Value} {t : TypeId} (h : w.heap[b]? = some (.cells #[a0, a1, a2] t (0, 0))) : w.cell? ⟨b, 0, none⟩ = some a0 ∧ w.cell? ⟨b, 1, none⟩ = some a1 ∧ w.cell? ⟨b, 2, none⟩ = some a2 := by simp [World.cell?, h]
theorem grownBy_setCell_a (W : World) (b i : Nat) (v : Value) : W.grownBy (W.setCell ⟨b, i, none⟩ v) (some b) :=
  ⟨rfl, rfl, rfl, (KeepsWalks.setCell W _ v).size, fun k _ hk => Below.heap_setCell _ _ _ k (fun e => hk (by rw [e]))⟩
/-- What lay answers. -/
def LyO (w : World) (L : List Sh) (t : Int) (e : Ending) (w' : World) : Prop :=
  (t ≠ 0 ∧ e = .returned (.tuple #[.map none, ps.errV t]) ∧ Bw w w') ∨
  (t = 0 ∧ e = .returned (.tuple #[.map (some w.heap.size), .nilIface]) ∧ ∃ X, LI w L L.length 0 X w')
set_option maxRecDepth 1000000 in
set_option maxHeartbeats 8000000 in
theorem lay_any (g c : Nat) (L : List Sh) (w : World) (hL3 : L.length ≤ 3) (hg : g < w.heap.size) (hL : ∀ i s, L[i]? = some s → w.cell? ⟨g, i, none⟩ = some (.slice s.p s.xs.length s.c) ∧ ps.FM w s.p s.xs) (hE : ps.EnvP w) :
    Calls Tryz.prog 27 #[.slice (some ⟨g, 0, none⟩) L.length c] w fun e w' => ∃ t, ShT L t ∧ LyO w L t e w' := by
  obtain ⟨N, hN⟩ : ∃ N, L.length = N := ⟨_, rfl⟩
  have HN : Hid (L.length = N) := hN
  rw [hN] at hL3 ⊢
  have HE : Hid (ps.EnvP w ∧ ∀ i s, L[i]? = some s → w.cell? ⟨g, i, none⟩ = some (.slice s.p s.xs.length s.c) ∧ ps.FM w s.p s.xs) := ⟨hE, hL⟩
  clear hE hL hN
  have hmk := make_table
  go_enter Tryz.func27, Tryz.ntmps27
  go_upto_block 0 with fail
  have HI0 : Hid (LI w L 0 0 [] (w.alloc (.map #[] 0))) := ⟨Bw.al w _, mpg.MG.nil w, by rw [AL_zero]; exact TB.nil, Nat.zero_le _, fun j s hj => absurd hj (Nat.not_lt_zero _)⟩
  clear hmk
  generalize w.alloc (.map #[] 0) = W0 at *
  go_cut [] (fun wx => ∃ X, LI w L N 0 X wx)
  case first =>
    go_wp2_with fail
    go_loopw [14] (fun s14 wr => ∃ (i : Nat) (X : List Tr), s14 = .int .i64 (i : Int) ∧ i ≤ N ∧ Hid (LI w L i 0 X wr)) (fun s14 _ => N - (intOf s14).toNat)
    case atStart => exact ⟨0, [], rfl, Nat.zero_le _, HI0.out⟩
    case round =>
      clear HI0
      obtain ⟨i, X, rfl, hi, HI⟩ := hrel
      have hi0 : (0 : Int) ≤ (i : Int) := by omega
      have hi3 : (i : Int) ≤ 3 := by omega
      by_cases hlt : i < N
      · have hlt' : (i : Int) < (N : Int) := by omega
        obtain ⟨s, hs⟩ : ∃ s, L[i]? = some s := ⟨_, List.getElem?_eq_getElem (by rw [HN.out]; exact hlt)⟩
        have HS : Hid (L[i]? = some s) := hs
        have y0 : wr.cell? ⟨g, i, none⟩ = some (.slice s.p s.xs.length s.c) := by rw [HI.out.below.cell (p := ⟨g, i, none⟩) hg]; exact (HE.out.2 i s hs).1
        have HFM : Hid (ps.FM wr s.p s.xs) := (HE.out.2 i s hs).2.below HI.out.below
        have HC : Hid (Calls Tryz.prog 31 #[.slice s.p s.xs.length s.c] wr fun e w' => (∃ t, e = .returned (ps.errV t) ∧ ps.Told s.xs t) ∧ Bw wr w') := ps.gcheck_any s.p s.c s.xs wr HFM.out (HE.out.1.below HI.out.below HE.out.1.size)
        clear hs
        go_upto_block 1 with fail
        go_cut [] (fun wx => ∃ X', LI w L (i + 1) 0 X' wx)
        case rest =>
          obtain ⟨X', HX'⟩ := hcut
          have HIX : Hid (LI w L (i + 1) 0 X' wc) := HX'
          clear HX' y0
          apply_assumption
          go_wp2_with fail
          exact ⟨⟨i + 1, X', by simp, hlt, HIX.out⟩, by simp [intOf]; omega⟩
        case first =>
        go_upto_region 6 with (first | (go_at_call 31; refine HC.out.mono ?_; rintro e w1 ⟨⟨t, rfl, ht⟩, hb1⟩))
        have HB1 : Hid (Bw wr w1) := hb1
        have HT : Hid (ps.Told s.xs t) := ht
        clear HC hb1 ht y0
        by_cases h0 : t = 0
        · subst h0
          rw [ps.errV_zero]
          have HF : Hid (ps.Fine s.xs) := HT.out.fine
          have HFM1 : Hid (ps.FM w1 s.p s.xs) := HFM.out.below HB1.out
          have HI1 : Hid (LI w L i 0 X w1) := ⟨HI.out.below.tr HB1.out, HI.out.mt.at (HB1.out.block _ HI.out.mt.lt), HI.out.tb, HI.out.few, HI.out.ok⟩
          have HXS : Hid (xsAt L i = s.xs) := xsAt_some HS.out
          obtain ⟨n, hn⟩ : ∃ n, s.xs.length = n := ⟨_, rfl⟩
          have HNn : Hid (s.xs.length = n) := hn
          have hn2 : n ≤ 200 := by rw [← hn]; exact HF.out.len
          have hn3 : (n : Int) ≤ 200 := by omega
          rw [hn]
          clear hn HI HFM HB1
          go_wp2_with fail
          obtain ⟨w9, h9⟩ : ∃ x, x = w1 := ⟨_, rfl⟩
          subst h9
          go_loopw [26] (fun s26 wr => ∃ (k : Nat) (X2 : List Tr), s26 = .int .i64 (k : Int) ∧ k ≤ n ∧ Hid (LI w L i k X2 wr)) (fun s26 _ => n - (intOf s26).toNat)
          case atStart => exact ⟨0, X, rfl, Nat.zero_le _, HI1.out⟩
          case round =>
            clear HI1
            obtain ⟨k, X2, rfl, hk, HJ⟩ := hrel
            have hk0 : (0 : Int) ≤ (k : Int) := by omega
            have hk9 : (k : Int) ≤ 200 := by omega
            by_cases hkn : k < n
            · have hkn' : (k : Int) < (n : Int) := by omega
              obtain ⟨x, hx⟩ : ∃ x, s.xs[k]? = some x := ⟨_, List.getElem?_eq_getElem (by rw [HNn.out]; exact hkn)⟩
              have HX : Hid (s.xs[k]? = some x) := hx
              have hgd : (1 ≤ x.c ∧ x.c ≤ 26) ∧ 1 ≤ x.r ∧ x.r ≤ 99 := adr.isC_iff.1 (HF.out.cell x (List.mem_of_getElem? hx)).1
              have HG : Hid ((1 ≤ x.c ∧ x.c ≤ 26) ∧ 1 ≤ x.r ∧ x.r ≤ 99) := hgd
              have HKL : Hid (keyOf Tryz.prog 43 (.agg #[.int .i64 x.c, .int .i64 x.r]) = some (klT ⟨x.c, x.r, nul, nul, nul⟩)) := klT_of (x := ⟨x.c, x.r, nul, nul, nul⟩) (wf_kc (by dsimp only; omega)) (wf_kc (by dsimp only; omega))
              obtain ⟨gx, ox, hp, -⟩ := ps.FM.at ((HE.out.2 i s HS.out).2.below HJ.out.below) hx
              have hfm : ps.FM wr (some ⟨gx, ox, none⟩) s.xs := by rw [← hp]; exact (HE.out.2 i s HS.out).2.below HJ.out.below
              rw [hp]
              obtain ⟨y0, y1, y2⟩ := ps.FM.cells hfm hx
              clear hx hgd hp hfm
              go_upto_region 11 with fail
              have hi3' : (i : Int) < 3 := by omega
              have hi3n : i < 3 := by omega
              have HJ1 : Hid (LI w L i k X2 (wr.alloc (.cells #[.int .i64 x.c, .int .i64 x.r, .string x.s] 45))) := HJ.out.next (Bw.al wr _)
              have HB0 : Hid ((wr.alloc (.cells #[.int .i64 x.c, .int .i64 x.r, .string x.s] 45)).heap[wr.heap.size]? = some (.cells #[.int .i64 x.c, .int .i64 x.r, .string x.s] 45 (0, 0)) ∧ w.heap.size < wr.heap.size) := ⟨heap_alloc_new wr _, HJ.out.mt.lt⟩
              generalize wr.alloc (.cells #[.int .i64 x.c, .int .i64 x.r, .string x.s] 45) = W1 at *
              generalize wr.heap.size = bf at *
              clear y0 y1 y2
              obtain ⟨c0, c1, c2⟩ := cells3z HB0.out.1
              obtain ⟨es, hown, hlk⟩ := HJ1.out.mt
              have hlook := look_run hown hlk HJ1.out.tb.one HKL.out
              have HLk : Hid (mpg.Lk Tryz.prog 43 kvT vvT klT es X2) := hlk
              have HOw : Hid (W1.ownsMap Tryz.prog 43 mpg.anyR w.heap.size X2.length (.map es)) := hown
              obtain ⟨o, ho⟩ : ∃ o, Tr.of X2 x.c x.r = o := ⟨_, rfl⟩
              have HO : Hid (Tr.of X2 x.c x.r = o) := ho
              rw [ho] at hlook
              clear hlk hown ho
              go_upto_region 12 with fail
              have HJ2 : Hid (LI w L i k X2 (W1.alloc (.cells #[.string o.s0, .string o.s1, .string o.s2] 63)) ∧ (W1.alloc (.cells #[.string o.s0, .string o.s1, .string o.s2] 63)).ownsMap Tryz.prog 43 mpg.anyR w.heap.size X2.length (.map es)) := ⟨HJ1.out.next (Bw.al W1 _), HOw.out.alloc _⟩
              have HB1 : Hid ((W1.alloc (.cells #[.string o.s0, .string o.s1, .string o.s2] 63)).heap[bf]? = some (.cells #[.int .i64 x.c, .int .i64 x.r, .string x.s] 45 (0, 0)) ∧ (W1.alloc (.cells #[.string o.s0, .string o.s1, .string o.s2] 63)).heap[W1.heap.size]? = some (.cells #[.string o.s0, .string o.s1, .string o.s2] 63 (0, 0)) ∧ bf < W1.heap.size) := ⟨((Bw.al W1 _).block _ (fm.lt_blk HB0.out.1)).trans HB0.out.1, heap_alloc_new W1 _, fm.lt_blk HB0.out.1⟩
              generalize W1.alloc (.cells #[.string o.s0, .string o.s1, .string o.s2] 63) = W2 at *
              have hbr : bf ≠ W1.heap.size := by have := HB1.out.2.2; omega
              have hbw : w.heap.size ≠ W1.heap.size := by have := HB1.out.2.2; have := HB0.out.2; omega
              generalize W1.heap.size = br at *
              clear c0 c1 c2 hlook HJ1 HOw
              obtain ⟨c0, c1, c2⟩ := cells3z HB1.out.1
              obtain ⟨oi, hoi⟩ : ∃ oi, W2.cell? ⟨br, i, none⟩ = some oi := by
                obtain ⟨r0, r1, r2⟩ := cells3z HB1.out.2.1
                have : i = 0 ∨ i = 1 ∨ i = 2 := by omega
                rcases this with rfl | rfl | rfl
                · exact ⟨_, r0⟩
                · exact ⟨_, r1⟩
                · exact ⟨_, r2⟩
              have hfz : W2.frozen? ⟨br, i, none⟩ = false := ps.froz HB1.out.2.1 i
              go_upto_region 13 with fail
              have HJ3 : Hid (Bw w (W2.setCell ⟨br, i, none⟩ (.string x.s)) ∧ LI w L i k X2 W2 ∧ (W2.setCell ⟨br, i, none⟩ (.string x.s)).ownsMap Tryz.prog 43 mpg.anyR w.heap.size X2.length (.map es)) := by
                have hgr : W2.grownBy (W2.setCell ⟨br, i, none⟩ (.string x.s)) (some br) := (grownBy_setCell_a W2 br i (.string x.s))
                exact ⟨HJ2.out.1.below.setCell (by show w.heap.size ≤ br; have := HB1.out.2.2; have := HB0.out.2; omega) _, HJ2.out.1, HJ2.out.2.kept hgr (by simp; omega)⟩
              have HB3 : Hid ((W2.setCell ⟨br, i, none⟩ (.string x.s)).heap[bf]? = some (.cells #[.int .i64 x.c, .int .i64 x.r, .string x.s] 45 (0, 0)) ∧ (W2.setCell ⟨br, i, none⟩ (.string x.s)).heap[br]? = some (.cells #[.string (o.set i x.s).s0, .string (o.set i x.s).s1, .string (o.set i x.s).s2] 63 (0, 0))) := by
                refine ⟨(heap_setCell_other W2 _ bf _ hbr).trans HB1.out.1, ?_⟩
                rw [heap_setCell_same W2 br i _ _ _ HB1.out.2.1]
                have : i = 0 ∨ i = 1 ∨ i = 2 := by omega
                rcases this with rfl | rfl | rfl <;> rfl
              clear c0 c1 c2 hoi hfz HJ2 HB1 HB0
              generalize W2.setCell ⟨br, i, none⟩ (.string x.s) = W3 at *
              obtain ⟨c0, c1, c2⟩ := cells3z HB3.out.1
              obtain ⟨r0, r1, r2⟩ := cells3z HB3.out.2
              have HXI : Hid ((xsAt L i)[k]? = some x ∧ ps.Srt (xsAt L i)) := by rw [HXS.out]; exact ⟨HX.out, HF.out.srt⟩
              have hkv : kvT ((Tr.of X2 x.c x.r).set i x.s) = .agg #[.int .i64 x.c, .int .i64 x.r] := by
                have := Tr.set_of_c X2 i x
                unfold kvT
                rw [this.1, this.2]
              have HKL2 : Hid (keyOf Tryz.prog 43 (.agg #[.int .i64 x.c, .int .i64 x.r]) = some (klT ((Tr.of X2 x.c x.r).set i x.s))) := by
                have : klT ((Tr.of X2 x.c x.r).set i x.s) = klT ⟨x.c, x.r, nul, nul, nul⟩ := by unfold klT; rw [hkv]
                rw [this]
                exact HKL.out
              have hmx : X2.length < maxLen := by have := HJ3.out.2.1.few; have e : maxLen = 9223372036854775807 := rfl; omega
              have HMx : Hid (X2.length < maxLen) := hmx
              have HPut : Hid (∀ w', w'.ownsMap Tryz.prog 43 mpg.anyR w.heap.size (X2.length + 1) ((DataW.map es).put (klT ((Tr.of X2 x.c x.r).set i x.s)) (.held (.agg #[.string (o.set i x.s).s0, .string (o.set i x.s).s1, .string (o.set i x.s).s2]))) → W3.mapTurned w' w.heap.size → LI w L i (k + 1) (putT X2 i x) w') := fun w' h1 h2 => by
                refine LI.put (m := X2.length + 1) HJ3.out.2.1 hi3n HXI.out.1 HXI.out.2 HG.out HLk.out ?_ ?_ HJ3.out.1 h2
                · rw [hkv]; exact HKL2.out
                · rw [← HO.out] at h1; exact h1
              clear hkv hmx hbr hbw
              generalize klT ((Tr.of X2 x.c x.r).set i x.s) = kq at *
              generalize (o.set i x.s) = o' at *
              go_wp2_with (first | (at_mapUpdate; refine wpList_mapUpdate_in _ rfl _ _ _ 57 rfl 43 63 keyC under_table mpg.anyR w.heap.size X2.length (.map es) rfl HJ3.out.2.2 HMx.out _ _ kq rfl rfl HKL2.out (.held (.agg #[.string o'.s0, .string o'.s1, .string o'.s2])) [] rfl ?_; intro w3 hown3 hturn3))
              exact ⟨⟨k + 1, putT X2 i x, by simp, hkn, HPut.out w3 hown3 hturn3⟩, by simp [intOf]; omega⟩
            · have hkn' : ¬ (k : Int) < (n : Int) := by omega
              obtain rfl : k = n := by omega
              have HE2 : Hid (LI w L (i + 1) 0 X2 wr) := by
                obtain ⟨a1, a2, a3, a4, a5⟩ := HJ.out
                refine ⟨a1, a2, ?_, by omega, fun j s' hj hs' => ?_⟩
                · rw [← AL_end (k := k) (by rw [HXS.out, HNn.out]; exact Nat.le_refl _)]
                  exact a3
                · by_cases e : j = i
                  · subst e
                    rw [HS.out] at hs'
                    cases hs'
                    exact HT.out
                  · exact a5 j s' (by omega) hs'
              go_wp2_with fail
              go_meet
              case rel => exact ⟨X2, HE2.out⟩
        · have HN2 : Hid (t ≠ 0) := h0
          rw [ps.errV_some h0]
          clear h0
          go_wp2_with fail
          exact bodyPost_ret (v := .tuple #[.map none, .iface 67 (.int .i64 t)]) (by simp [results, Tryz.results27, go_sem]) rfl ⟨t, ShT.found (fun j s' hj hs' => HI.out.ok j s' hj hs') HS.out HT.out HN2.out, .inl ⟨HN2.out, by rw [ps.errV_some HN2.out], HI.out.below.tr HB1.out⟩⟩
      · have hlt' : ¬ (i : Int) < (N : Int) := by omega
        obtain rfl : i = N := by omega
        go_wp2_with fail
        go_meet
        case rel => exact ⟨X, HI.out⟩
  case rest =>
  obtain ⟨X, HX⟩ := hcut
  have HIX : Hid (LI w L N 0 X wc) := HX
  clear HX
  apply_assumption
  go_wp2_with fail
  exact bodyPost_ret (v := .tuple #[.map (some w.heap.size), .nilIface]) (by simp [results, Tryz.results27, go_sem]) rfl ⟨0, ShT.none fun j s hs => HIX.out.ok j s (by rw [← HN.out]; exact (List.getElem?_eq_some_iff.1 hs).1) hs, .inr ⟨rfl, rfl, X, by rw [HN.out]; exact HIX.out⟩⟩
end Go.Proofs.YtomgjjngkffbbaaGreatDoor.fw

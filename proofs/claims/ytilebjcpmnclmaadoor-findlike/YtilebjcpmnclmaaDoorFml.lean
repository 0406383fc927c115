
/- The document's Like. Conditions: a text of at most 200 bytes. -/
import Derived.Test.YtilebjcpmnclmaaDoorFmk
import Derived.OwnWalk
import Derived.BigQuiet
namespace Go.Proofs.YtilebjcpmnclmaaDoor.fw
open Go.RowKit Go.Sort
/-- A row of truths in a block of its own. -/
def BA (w : World) (g q : Nat) (f : Nat → Bool) : Prop := w.heap[g]? = some (.cells ((List.range q).map fun i => Value.bool (f i)).toArray 4 (0, 0))
theorem BA.at {w : World} {g q : Nat} {f : Nat → Bool} (h : BA w g q f) {i : Nat} (hi : i < q) : w.cell? ⟨g, i, none⟩ = some (.bool (f i)) := by
  unfold BA at h
  simp only [World.cell?, h]
  simp [hi]
theorem BA.lt {w : World} {g q : Nat} {f : Nat → Bool} (h : BA w g q f) : g < w.heap.size := (Array.getElem?_eq_some_iff.1 h).1
theorem BA.fz {w : World} {g q : Nat} {f : Nat → Bool} (h : BA w g q f) (i : Nat) : w.frozen? ⟨g, i, none⟩ = false := by
  unfold BA at h
  unfold World.frozen?
  simp [h]
theorem BA.next {w w' : World} {g q : Nat} {f : Nat → Bool} (h : BA w g q f) (hb : Bw w w') : BA w' g q f := by
  unfold BA
  rw [hb.block g h.lt]
  exact h
theorem blk_set {w : World} {b o : Nat} {cs : Array Value} {u : Value} {t : TypeId} {f : Nat × Nat} (h : w.heap[b]? = some (.cells cs t f)) : (w.setCell ⟨b, o, none⟩ u).heap[b]? = some (.cells (cs.setIfInBounds o u) t f) := by
  have hlt := (Array.getElem?_eq_some_iff.1 h).1
  have h' : w.heap[b] = .cells cs t f := by simpa [Array.getElem?_eq_getElem hlt] using h
  show (w.heap.modify b _)[b]? = _
  rw [Array.getElem?_eq_getElem (by simpa using hlt), Array.getElem_modify_self, h']
  rfl
theorem BA.set {w : World} {g q : Nat} {f : Nat → Bool} (h : BA w g q f) (k : Nat) (b : Bool) : BA (w.setCell ⟨g, k, none⟩ (.bool b)) g q (fun i => if i = k then b else f i) := by
  unfold BA
  rw [blk_set (o := k) (u := .bool b) h]
  congr 2
  apply Array.ext'
  rw [Array.toList_setIfInBounds]
  apply List.ext_getElem?
  intro i
  rw [List.getElem?_set]
  simp only [List.getElem?_map, List.length_map, List.length_range]
  by_cases e : k = i
  · subst e
    by_cases hk : k < q
    · simp [hk]
    · simp [hk]
  · by_cases hi : i < q
    · simp [e, hi, Ne.symm e]
    · simp [e, hi]
theorem info4 : (Tryd.prog.info? 4).map (fun i => (i.zero, i.size, i.bytes)) = some (some (.bool false), 1, 1) := by kernel_rfl
theorem make_bools (n : Nat) (hn : n ≤ 100000) (w : World) : (Instr.makeSlice 34 (.int .i64 (n : Int)) (.int .i64 (n : Int))).run Tryd.prog w = .ok (.slice (some ⟨w.heap.size, 0, none⟩) n n) (w.alloc (.cells (madeCells #[.bool false] n) 4)) := by
  obtain ⟨i0, hi, hz0, hz1, hz2⟩ := info_parts info4
  have := run_make (P := Tryd.prog) w 34 4 i0 _ Tryd.underlying34 hi hz0 .i64 .i64 (n : Int) (n : Int) (by omega) (by omega) (by rw [hz2]; omega) (by omega)
  rw [this, hz1]
  simp [Value.cells]
theorem BA.new (w : World) (n : Nat) : BA (w.alloc (.cells (madeCells #[.bool false] n) 4)) w.heap.size n (fun _ => false) := by
  unfold BA
  rw [heap_alloc_new]
  congr 2
  apply Array.ext'
  apply List.ext_getElem?
  intro i
  have e : ∀ x : Nat, ([Value.bool false] : List Value)[x % 1]?.getD default = Value.bool false := fun x => by rw [Nat.mod_one]; rfl
  simp [madeCells, e]

theorem mcs_form (p : Mk) : ∃ a z, mcs p = [.int .i64 a, .int .u8 z] ∧ (a = 1 ↔ p = .many) ∧ ∀ c : UInt8, p ≠ .many → fits p c = (decide (a = 2) || decide (z = (c.toNat : Int))) := by
  cases p with
  | many => exact ⟨_, _, rfl, by simp, fun _ h => absurd rfl h⟩
  | one => exact ⟨_, _, rfl, by simp, fun c _ => by simp [fits]⟩
  | byte b =>
    refine ⟨_, _, rfl, by simp, fun c _ => ?_⟩
    simp only [fits]
    by_cases h : b = c
    · subst h; simp
    · have h2 : ¬ (b.toNat : Int) = (c.toNat : Int) := fun e => h (UInt8.toNat_inj.1 (by omega))
      simp [h, h2]
/-- A table of what may still be. -/
def TB (s : List UInt8) (X : List Mk) (n : Nat) (f : Nat → Bool) : Prop := ∀ i, i ≤ n → f i = lkL X (s.drop i)
theorem TB.start (s : List UInt8) : TB s [] s.length (fun i => if i = s.length then true else false) := by
  intro i hi
  rw [lkL]
  by_cases h : i = s.length
  · subst h; simp
  · have : ¬ (s.drop i).isEmpty = true := by rw [List.isEmpty_iff, List.drop_eq_nil_iff]; omega
    simp [h, this]
/-- One row of the next table, from behind. -/
structure NX (s : List UInt8) (X : List Mk) (n : Nat) (f : Nat → Bool) (i : Int) : Prop where
  hi : ∀ j : Nat, j ≤ n → i < (j : Int) → f j = lkL X (s.drop j)
  lo : ∀ j : Nat, (j : Int) ≤ i → f j = false
theorem NX.set {s : List UInt8} {X : List Mk} {n : Nat} {f : Nat → Bool} {i : Nat} (h : NX s X n f (i : Int)) {b : Bool} (hb : b = lkL X (s.drop i)) : NX s X n (fun j => if j = i then b else f j) ((i : Int) - 1) := by
  refine ⟨fun j hj hl => ?_, fun j hj => ?_⟩
  · by_cases e : j = i
    · subst e; simp [hb]
    · simp only [if_neg e]
      exact h.hi j hj (by omega)
  · have e : ¬ j = i := by omega
    simp only [if_neg e]
    exact h.lo j (by omega)
theorem NX.skip {s : List UInt8} {X : List Mk} {n : Nat} {f : Nat → Bool} {i : Nat} (h : NX s X n f (i : Int)) (hb : lkL X (s.drop i) = false) : NX s X n f ((i : Int) - 1) := by
  refine ⟨fun j hj hl => ?_, fun j hj => h.lo j (by omega)⟩
  by_cases e : j = i
  · subst e; rw [hb]; exact h.lo j (Int.le_refl _)
  · exact h.hi j hj (by omega)
theorem lk_end (p : Mk) (X : List Mk) {s : List UInt8} {i : Nat} (h : s.length ≤ i) : lkL (.many :: X) (s.drop i) = lkL X (s.drop i) ∧ (p ≠ .many → lkL (p :: X) (s.drop i) = false) := by
  rw [List.drop_eq_nil_of_le h]
  refine ⟨by rw [lkL], fun hp => ?_⟩
  cases p <;> first | exact absurd rfl hp | rw [lkL]
theorem lk_in (p : Mk) (X : List Mk) {s : List UInt8} {i : Nat} {c : UInt8} (h : s[i]? = some c) : lkL (.many :: X) (s.drop i) = (lkL X (s.drop i) || lkL (.many :: X) (s.drop (i + 1))) ∧ (p ≠ .many → lkL (p :: X) (s.drop i) = (fits p c && lkL X (s.drop (i + 1)))) := by
  have hi : i < s.length := (List.getElem?_eq_some_iff.1 h).1
  have e : s.drop i = c :: s.drop (i + 1) := by
    rw [List.drop_eq_getElem_cons hi]
    rw [List.getElem?_eq_getElem hi] at h
    rw [Option.some.inj h]
  rw [e]
  refine ⟨by rw [lkL], fun hp => ?_⟩
  cases p <;> first | exact absurd rfl hp | simp [lkL, fits]
/-- What stands while one row is made. -/
structure IR (w : World) (s : List UInt8) (Y : List Mk) (n g gN : Nat) (f f' : Nat → Bool) (i : Int) (wr : World) : Prop where
  bw : Bw w wr
  old : BA wr g (n + 1) f
  new : BA wr gN (n + 1) f'
  nx : NX s Y n f' i
  ha : w.heap.size ≤ g
  hb : g < gN
theorem IR.set {w : World} {s : List UInt8} {Y : List Mk} {n g gN : Nat} {f f' : Nat → Bool} {i : Nat} {wr : World} (h : IR w s Y n g gN f f' (i : Int) wr) {b : Bool} (hb : b = lkL Y (s.drop i)) : IR w s Y n g gN f (fun j => if j = i then b else f' j) ((i : Int) - 1) (wr.setCell ⟨gN, i, none⟩ (.bool b)) := by
  have h1 := h.ha
  have h2 := h.hb
  refine ⟨h.bw.setCell (by show w.heap.size ≤ gN; omega) _, ?_, h.new.set i b, h.nx.set hb, h1, h2⟩
  unfold BA
  rw [heap_setCell_other _ _ _ _ (by show g ≠ gN; omega)]
  exact h.old
theorem IR.drew {w : World} {s : List UInt8} {Y : List Mk} {n g gN : Nat} {f f' : Nat → Bool} {i : Int} {wr : World} (h : IR w s Y n g gN f f' i wr) : IR w s Y n g gN f f' i wr.drew := ⟨h.bw.drew, h.old, h.new, h.nx, h.ha, h.hb⟩
theorem IR.next {w : World} {s : List UInt8} {Y : List Mk} {n g gN : Nat} {f f' : Nat → Bool} {i : Int} {wr wy : World} (h : IR w s Y n g gN f f' i wr) (hb : Bw wr wy) : IR w s Y n g gN f f' i wy := ⟨h.bw.tr hb, h.old.next hb, h.new.next hb, h.nx, h.ha, h.hb⟩
theorem drN_bw (w : World) (n : Nat) : Bw w (w.drewN n) := by
  induction n with
  | zero => exact Below.refl _ _
  | succ n ih => exact ih.drew
set_option maxRecDepth 1000000 in
set_option maxHeartbeats 8000000 in
theorem rlike_any (s : ByteArray) (X : List Mk) (v : Value) (w0 w : World) (hv : RV mL w0 v X w) (hs : s.size ≤ 200) (hX : X.length ≤ 200) :
    Calls Tryd.prog 5 #[.string s, v] w fun e w' => e = .returned (.bool (lkL X s.toList)) ∧ Bw w w' := by
  have hmk : ∀ w, (Instr.makeSlice 34 (.int .i64 ((s.size : Int) + 1)) (.int .i64 ((s.size : Int) + 1))).run Tryd.prog w = .ok (.slice (some ⟨w.heap.size, 0, none⟩) (s.size + 1) (s.size + 1)) (w.alloc (.cells (madeCells #[.bool false] (s.size + 1)) 4)) := fun w => by
    have := make_bools (s.size + 1) (by omega) w
    rwa [Int.natCast_add, Int.natCast_one] at this
  have HX : Hid (X.length ≤ 200) := hX
  have HV : Hid (RV mL w0 v X w) := hv
  obtain ⟨pX, cX, eV, -⟩ := hv.form
  subst eV
  clear hv hX
  have hs9 : (s.size : Int) ≤ 200 := by omega
  have hs0 : (0 : Int) ≤ (s.size : Int) := by omega
  have hs1 : (s.size : Int) < (s.size : Int) + 1 := by omega
  have hX9 : (X.length : Int) ≤ 200 := by have := HX.out; omega
  go_enter Tryd.func5, Tryd.ntmps5
  go_upto_region 2 with fail
  have HA : Hid (BA (w.alloc (.cells (madeCells #[.bool false] (s.size + 1)) 4)) w.heap.size (s.size + 1) (fun _ => false) ∧ Bw w (w.alloc (.cells (madeCells #[.bool false] (s.size + 1)) 4))) := ⟨BA.new w _, Bw.al _ _⟩
  generalize w.alloc (.cells (madeCells #[.bool false] (s.size + 1)) 4) = w1 at *
  obtain ⟨g, hg⟩ : ∃ g, w.heap.size = g := ⟨_, rfl⟩
  rw [hg] at HA
  rw [hg]
  have HG : Hid (w.heap.size = g) := hg
  clear hg
  have hc1 := HA.out.1.at (i := s.size) (by omega)
  have hf1 := HA.out.1.fz s.size
  go_upto_block 0 with fail
  clear hc1 hf1
  have HA1 : Hid (BA (w1.setCell ⟨g, s.size, none⟩ (.bool true)) g (s.size + 1) (fun i => if i = s.size then true else false) ∧ Bw w (w1.setCell ⟨g, s.size, none⟩ (.bool true))) := ⟨HA.out.1.set _ _, HA.out.2.setCell (Nat.le_of_eq HG.out) _⟩
  clear HA
  generalize w1.setCell ⟨g, s.size, none⟩ (.bool true) = w2 at *
  go_cut [5] (fun s5 wx => ∃ g' f, s5 = .slice (some ⟨g', 0, none⟩) (s.size + 1) (s.size + 1) ∧ Hid (Bw w wx ∧ BA wx g' (s.size + 1) f ∧ TB s.toList X s.size f))
  case first =>
    go_wp2_with fail
    go_loopw [5, 6] (fun s5 s6 wr => ∃ (g' : Nat) (f : Nat → Bool) (k : Nat), s5 = .slice (some ⟨g', 0, none⟩) (s.size + 1) (s.size + 1) ∧ s6 = .int .i64 ((k : Int) - 1) ∧ k ≤ X.length ∧ Hid (Bw w wr ∧ BA wr g' (s.size + 1) f ∧ TB s.toList (X.drop k) s.size f ∧ w.heap.size ≤ g')) (fun _ s6 _ => (intOf s6 + 1).toNat)
    case atStart =>
      refine ⟨g, _, X.length, rfl, rfl, Nat.le_refl _, HA1.out.2, HA1.out.1, ?_, Nat.le_of_eq HG.out⟩
      rw [List.drop_length]
      have := TB.start s.toList
      rw [size_list] at this
      exact this
    case round =>
      obtain ⟨g', f, k, rfl, rfl, hk, HR⟩ := hrel
      cases k with
      | zero =>
        have hneg : ¬ (((0 : Nat) : Int) - 1 ≥ 0) := by omega
        go_wp2_with fail
        go_meet
        case rel => exact ⟨g', f, rfl, HR.out.1, HR.out.2.1, HR.out.2.2.1⟩
      | succ k =>
        have ek : ((k + 1 : Nat) : Int) - 1 = (k : Int) := by omega
        simp only [ek]
        have hk0 : (k : Int) ≥ 0 := by omega
        have hk1 : (k : Int) < (X.length : Int) := by omega
        have hk9 : (k : Int) < 200 := by omega
        have hx : X[k]? = some X[k] := List.getElem?_eq_getElem (by omega)
        obtain ⟨pk, epk⟩ : ∃ p, X[k] = p := ⟨_, rfl⟩
        rw [epk] at hx
        have hdr : X.drop k = pk :: X.drop (k + 1) := by rw [List.drop_eq_getElem_cons (by omega), epk]
        have HDR : Hid (X.drop k = pk :: X.drop (k + 1)) := hdr
        obtain ⟨ak, zk, em, hak, hft⟩ := mcs_form pk
        have HFT : Hid (∀ c : UInt8, pk ≠ .many → fits pk c = (decide (ak = 2) || decide (zk = (c.toNat : Int)))) := hft
        clear hft
        obtain ⟨gX, c9, e1, hcX, hgX, -⟩ := (HV.out.next HR.out.1).at hx
        injection e1 with e2 e3 e4
        subst e2
        clear e3 e4 hcX hgX
        have HCL : Hid (∀ wx, Bw w wx → wx.cell? ⟨gX, k * 2, none⟩ = some (.int .i64 ak) ∧ wx.cell? ⟨gX, k * 2 + 1, none⟩ = some (.int .u8 zk)) := by
          intro wx hb
          obtain ⟨gX', c9', e1', -, -, hcell⟩ := (HV.out.next hb).at hx
          injection e1' with e2' e3' e4'
          injection e2' with e5
          injection e5 with e6
          subst e6
          exact ⟨hcell 0 _ (by show (mcs _)[0]? = _; rw [em]; rfl), hcell 1 _ (by show (mcs _)[1]? = _; rw [em]; rfl)⟩
        clear hx epk hdr
        go_upto_block 2 with fail
        have HI : Hid (IR w s.toList (X.drop k) s.size g' wr.heap.size f (fun _ => false) ((s.size + 1 : Nat) - 1) (wr.alloc (.cells (madeCells #[.bool false] (s.size + 1)) 4))) := by
          refine ⟨HR.out.1.tr (Bw.al _ _), HR.out.2.1.next (Bw.al _ _), BA.new wr _, ⟨fun j h1 h2 => ?_, fun _ _ => rfl⟩, HR.out.2.2.2, HR.out.2.1.lt⟩
          omega
        generalize wr.alloc (.cells (madeCells #[.bool false] (s.size + 1)) 4) = w3 at *
        generalize wr.heap.size = gN at *
        have HTB : Hid (TB s.toList (X.drop (k + 1)) s.size f) := HR.out.2.2.1
        clear HR
        go_cut [] (fun wx => ∃ f', Hid (IR w s.toList (X.drop k) s.size g' gN f f' (-1) wx))
        case first =>
          go_wp2_with fail
          go_loopw [8] (fun s8 wr => ∃ (i : Nat) (f' : Nat → Bool), s8 = .int .i64 ((i : Int) - 1) ∧ i ≤ s.size + 1 ∧ Hid (IR w s.toList (X.drop k) s.size g' gN f f' ((i : Int) - 1) wr)) (fun s8 _ => (intOf s8 + 1).toNat)
          case atStart => exact ⟨s.size + 1, _, by congr 1; omega, Nat.le_refl _, HI⟩
          case round =>
            obtain ⟨i, f', rfl, hi, HJ⟩ := hrel
            cases i with
            | zero =>
              have hneg : ¬ (((0 : Nat) : Int) - 1 ≥ 0) := by omega
              go_wp2_with fail
              go_meet
              case rel => exact ⟨f', HJ⟩
            | succ i =>
              have ei : ((i + 1 : Nat) : Int) - 1 = (i : Int) := by omega
              simp only [ei]
              simp only [ei] at HJ
              have hi0 : (i : Int) ≥ 0 := by omega
              have hi1 : (i : Int) < (s.size : Int) + 1 := by omega
              have hi9 : (i : Int) ≤ 200 := by omega
              obtain ⟨hq0, hq1⟩ := HCL.out wr HJ.out.bw
              have hm0 := HJ.out.old.at (i := i) (by omega)
              rw [HTB.out i (by omega)] at hm0
              have hnf := HJ.out.new.fz i
              have hnc := HJ.out.new.at (i := i) (by omega)
              have HST : Hid (∀ b wx, IR w s.toList (X.drop k) s.size g' gN f f' (i : Int) wx → b = lkL (X.drop k) (s.toList.drop i) → ∃ f'', IR w s.toList (X.drop k) s.size g' gN f f'' ((i : Int) - 1) (wx.setCell ⟨gN, i, none⟩ (.bool b))) := fun b wx h1 h2 => ⟨_, h1.set h2⟩
              by_cases hmany : pk = .many
              · have hak1 : ak = 1 := hak.mpr hmany
                subst hak1
                clear hak
                have HMN : Hid (X.drop k = .many :: X.drop (k + 1)) := by rw [← hmany]; exact HDR
                clear hmany hq1
                obtain ⟨b0, eb0⟩ : ∃ b, lkL (X.drop (k + 1)) (s.toList.drop i) = b := ⟨_, rfl⟩
                rw [eb0] at hm0
                have HB0 : Hid (lkL (X.drop (k + 1)) (s.toList.drop i) = b0) := eb0
                clear eb0
                by_cases hlt : i < s.size
                · have hlt' : (i : Int) < (s.size : Int) := by omega
                  have hi2 : (i : Int) + 1 < (s.size : Int) + 1 := by omega
                  have hi3 : (0 : Int) ≤ (i : Int) + 1 := by omega
                  have hm1 := HJ.out.new.at (i := i + 1) (by omega)
                  rw [HJ.out.nx.hi (i + 1) (by omega) (by omega)] at hm1
                  obtain ⟨b1, eb1⟩ : ∃ b, lkL (X.drop k) (s.toList.drop (i + 1)) = b := ⟨_, rfl⟩
                  rw [eb1] at hm1
                  have HB : Hid ((b0 || b1) = lkL (X.drop k) (s.toList.drop i)) := by
                    show _ = _
                    rw [← eb1, ← HB0.out, HMN.out, (lk_in .many _ (at_l3 hlt)).1]
                  clear eb1
                  obtain ⟨f'', HJ2⟩ := HST.out _ wr HJ.out HB.out
                  have HJ3 : Hid (IR w s.toList (X.drop k) s.size g' gN f f'' ((i : Int) - 1) (wr.setCell ⟨gN, i, none⟩ (.bool (b0 || b1)))) := HJ2
                  clear HJ2 HJ HST HB HB0
                  cases b0
                  · go_wp2_with fail
                    exact ⟨⟨i, f'', rfl, by omega, HJ3⟩, by simp [intOf]⟩
                  · go_wp2_with fail
                    exact ⟨⟨i, f'', rfl, by omega, HJ3⟩, by simp [intOf]⟩
                · have hlt' : ¬ (i : Int) < (s.size : Int) := by omega
                  have HB : Hid (b0 = lkL (X.drop k) (s.toList.drop i)) := by
                    show _ = _
                    rw [← HB0.out, HMN.out, (lk_end .many _ (by rw [size_list]; omega)).1]
                  obtain ⟨f'', HJ2⟩ := HST.out _ wr HJ.out HB.out
                  have HJ3 : Hid (IR w s.toList (X.drop k) s.size g' gN f f'' ((i : Int) - 1) (wr.setCell ⟨gN, i, none⟩ (.bool b0))) := HJ2
                  clear HJ2 HJ HST HB HB0
                  cases b0
                  · go_wp2_with fail
                    exact ⟨⟨i, f'', rfl, by omega, HJ3⟩, by simp [intOf]⟩
                  · go_wp2_with fail
                    exact ⟨⟨i, f'', rfl, by omega, HJ3⟩, by simp [intOf]⟩
              · have hak1 : ¬ ak = 1 := fun e => hmany (hak.mp e)
                clear hak hm0
                have HD2 : Hid (IR w s.toList (X.drop k) s.size g' gN f f' (i : Int) wr.drew) := HJ.out.drew
                by_cases hlt : i < s.size
                · have hlt' : (i : Int) < (s.size : Int) := by omega
                  have hi2 : (i : Int) + 1 < (s.size : Int) + 1 := by omega
                  have hi3 : (0 : Int) ≤ (i : Int) + 1 := by omega
                  obtain ⟨c, ec⟩ : ∃ c, s[i] = c := ⟨_, rfl⟩
                  have hm1 := HJ.out.old.at (i := i + 1) (by omega)
                  rw [HTB.out (i + 1) (by omega)] at hm1
                  obtain ⟨b1, eb1⟩ : ∃ b, lkL (X.drop (k + 1)) (s.toList.drop (i + 1)) = b := ⟨_, rfl⟩
                  rw [eb1] at hm1
                  have HLK : Hid (lkL (X.drop k) (s.toList.drop i) = (fits pk c && b1)) := by
                    show _ = _
                    rw [← eb1, HDR.out, (lk_in pk _ (at_l3 hlt)).2 hmany, ec]
                  have HFC := HFT.out c hmany
                  rw [HFC] at HLK
                  clear HFC eb1
                  by_cases h2 : ak = 2
                  · subst h2
                    have HB : Hid (b1 = lkL (X.drop k) (s.toList.drop i)) := by show _ = _; rw [HLK.out]; simp
                    obtain ⟨f'', HJ2⟩ := HST.out _ wr.drew HD2.out HB.out
                    have HJ3 : Hid (IR w s.toList (X.drop k) s.size g' gN f f'' ((i : Int) - 1) (wr.drew.setCell ⟨gN, i, none⟩ (.bool b1))) := HJ2
                    clear HJ2 HD2 HST HB HLK HJ
                    go_upto_region 12 with fail
                    go_region
                    go_wp2_with fail
                    exact ⟨⟨i, f'', rfl, by omega, HJ3⟩, by simp [intOf]⟩
                  · have hn1 : decide (i < s.size) = true := by simp [hlt]
                    have hn2 : (ak == 2) = false := by simp [h2]
                    have hn3 : decide (ak = 2) = false := by simp [h2]
                    by_cases h3 : zk = (c.toNat : Int)
                    · have HB : Hid (b1 = lkL (X.drop k) (s.toList.drop i)) := by show _ = _; rw [HLK.out]; simp [h3]
                      have HJ3 : Hid (∀ n, ∃ f'', IR w s.toList (X.drop k) s.size g' gN f f'' ((i : Int) - 1) ((wr.drewN n).setCell ⟨gN, i, none⟩ (.bool b1))) := fun n => HST.out _ _ (HJ.out.next (drN_bw _ n)) HB.out
                      subst h3
                      clear HD2 HST HB HLK HJ
                      go_upto_region 12 with fail
                      go_quiet (fail)
                      go_wp2_with fail
                      obtain ⟨f'', HJ4⟩ := HJ3.out _
                      exact ⟨⟨i, f'', rfl, by omega, HJ4⟩, by simp [intOf]⟩
                    · have h4 : (zk == (c.toNat : Int)) = false := by simp [h3]
                      have HJ3 : Hid (∀ n, IR w s.toList (X.drop k) s.size g' gN f f' ((i : Int) - 1) (wr.drewN n)) := by
                        intro n
                        have h := HJ.out.next (drN_bw _ n)
                        exact ⟨h.bw, h.old, h.new, h.nx.skip (by rw [HLK.out]; simp [h2, h3]), h.ha, h.hb⟩
                      clear HD2 HST HLK HJ
                      go_upto_region 12 with fail
                      go_quiet (fail)
                      go_wp2_with fail
                      exact ⟨⟨i, f', rfl, by omega, HJ3.out _⟩, by simp [intOf]⟩
                · have hlt' : ¬ (i : Int) < (s.size : Int) := by omega
                  have HJ3 : Hid (IR w s.toList (X.drop k) s.size g' gN f f' ((i : Int) - 1) wr.drew) := by
                    have h := HD2.out
                    exact ⟨h.bw, h.old, h.new, h.nx.skip (by rw [HDR.out]; exact (lk_end pk _ (by rw [size_list]; omega)).2 hmany), h.ha, h.hb⟩
                  clear HD2 HST HJ
                  go_upto_region 12 with fail
                  go_region
                  go_wp2_with fail
                  exact ⟨⟨i, f', rfl, by omega, HJ3⟩, by simp [intOf]⟩
        case rest =>
        obtain ⟨f', HJ⟩ := hcut
        apply_assumption
        go_wp2_with fail
        exact ⟨⟨gN, f', k, rfl, rfl, by omega, HJ.out.bw, HJ.out.new, fun i hi => HJ.out.nx.hi i hi (by omega), by have h1 := HJ.out.ha; have h2 := HJ.out.hb; omega⟩, by simp [intOf]⟩
  case rest =>
  obtain ⟨g', f, rfl, HE⟩ := hcut
  apply_assumption
  have hc0 := HE.out.2.1.at (i := 0) (by omega)
  rw [HE.out.2.2 0 (Nat.zero_le _), List.drop_zero] at hc0
  have hz : (0 : Int) < (s.size : Int) + 1 := by omega
  go_wp2_with fail
  go_ret
  exact ⟨rfl, HE.out.1⟩
end Go.Proofs.YtilebjcpmnclmaaDoor.fw

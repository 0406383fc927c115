
/- Package book: Pack; sccsame.Sheets; lists and bytes that were handed in. Conditions: as each theorem says. -/
import Derived.Test.YtokfijkhflfioaaGreatDoorBkq
import Derived.Test.YtokfijkhflfioaaGreatDoorFop
import Derived.Deep.MidRow
import Derived.ProofKit
import Derived.OpenShut
import Derived.Deep.Slices
import Derived.Deep.Strs
import Derived.Lib.SmallJoins
namespace Go.Proofs.YtokfijkhflfioaaGreatDoor.ps
open Go.ChangeShapes Go.WideShapes Go.ChangeAt Go.RowKit
open adr (C isC)
section
variable {H : Type} {enc : TypeId × Value → H} {W : World} {base : Nat} {spare : Nat → Bool} {held : Bool}
set_option maxRecDepth 100000 in
theorem open_fills2 {r0 : Reach} {b0 : Nat} {v : Value} {d : DataW H} {q : List MemPlace} (hv : Value.okWide Tryz.prog W r0 b0 26 v) (h : DataW.Trod enc Tryz.prog W 0 spare held 26 v d q) :
    ∃ (p : Option Addr) (xs : List Fl) (cap : Nat), v = .slice p xs.length cap ∧ FM W p xs ∧ xs.length ≤ cap := by
  obtain ⟨p, len, cap, rfl⟩ := okWide_slice Tryz.underlying26 hv
  obtain ⟨fuel, hf⟩ := h
  rcases Go.Deep.open_slice Tryz.underlying26 hf with ⟨e, -⟩ | ⟨a, len', cap', m, n, D, Pl, e, -, hlc, hcm, hm, -, hel⟩
  · simp [Value.cells] at e
    obtain ⟨rfl, rfl, rfl⟩ := e
    exact ⟨none, [], 0, rfl, .inl rfl, Nat.le_refl _⟩
  simp [Value.cells] at e
  obtain ⟨rfl, rfl, rfl⟩ := e
  have hle : len ≤ m := by rw [hm]; split <;> omega
  rw [vcof33] at hel
  haveI : Inhabited Fl := ⟨⟨0, 0, nul⟩⟩
  obtain ⟨F, hF⟩ := Go.Deep.choose_lt (α := Fl) (n := len) (p := fun i y => W.cells? 0 (a.add (i * 3)) 3 = some (fl3 y)) (fun i hi => by
    obtain ⟨cs', g1, g2⟩ := hel i (by omega)
    obtain ⟨f, rfl⟩ := fl_trod g2
    exact ⟨f, g1⟩)
  have hlen : ((List.range len).map F).length = len := by simp
  refine ⟨some a, (List.range len).map F, cap, by rw [hlen], ?_, by rw [hlen]; exact hlc⟩
  by_cases h0 : len = 0
  · left; subst h0; rfl
  right
  have hc0 : ∀ i, i < len → ∀ j, j < 3 → W.cell? (a.add (i * 3 + j)) = (fl3 (F i))[j]? := fun i hi j hj => by
    have := (World.cells?_some (hF i hi)).2.2 j hj
    rw [Go.Deep.add_add] at this
    exact this
  have hsp : W.cell? a = some (.int .i64 (F 0).c) := by
    have := hc0 0 (by omega) 0 (by omega)
    simpa [Addr.add] using this
  have hspot := World.cell?_spot hsp
  obtain ⟨g, o, sp⟩ := a
  simp only at hspot
  subst hspot
  refine ⟨g, o, rfl, ?_, fun t u hu => ?_⟩
  · unfold World.cell? at hsp
    rcases Nat.lt_or_ge g W.heap.size with h | h
    · exact h
    · rw [Array.getElem?_eq_none h] at hsp
      simp at hsp
  · obtain ⟨i, j, x, rfl, hj, hx, hu'⟩ := flF_inv hu
    have hi : i < len := by have := (List.getElem?_eq_some_iff.1 hx).1; rw [hlen] at this; exact this
    have hxF : x = F i := by
      rw [List.getElem?_map, List.getElem?_range hi] at hx
      simpa using hx.symm
    subst hxF
    have := hc0 i hi j hj
    rw [add_plain, hu'] at this
    exact this
end
theorem told_good {xs : List Fl} (hs : Srt xs) (hl : xs.length ≤ 200) (hg : ∀ x ∈ xs, isC x.c x.r = true ∧ ckT x.s = 0) : Told xs 0 := by
  refine .inr ⟨hl, .inl ⟨rfl, fun i hi => ?_⟩⟩
  have hx : xs[i]? = some xs[i] := List.getElem?_eq_getElem hi
  obtain ⟨h1, h2⟩ := hg _ (List.getElem_mem hi)
  have ho : ordB xs i xs[i] = false := by
    unfold ordB
    cases i with
    | zero => rfl
    | succ k =>
      have hk : k < xs.length := by omega
      simp only
      rw [List.getElem?_eq_getElem hk]
      have := List.pairwise_iff_getElem.1 hs k (k + 1) hk hi (Nat.lt_succ_self _)
      simp only
      rw [this]
      rfl
  rw [cd_text hx h1 ho]
  exact h2
end Go.Proofs.YtokfijkhflfioaaGreatDoor.ps
namespace Go.Proofs.YtokfijkhflfioaaGreatDoor.fw
open Go Go.RowKit Go.Sort
/-- Bytes that lie somewhere, with their room. -/
def BC (w : World) (v : Value) (l : List UInt8) : Prop := BM w v l ∧ ∃ p c, v = .slice p l.length c ∧ l.length ≤ c
theorem BC.next {w w' : World} {v : Value} {l : List UInt8} (h : BC w v l) (hb : Bw w w') : BC w' v l := ⟨h.1.next hb, h.2⟩
theorem BV.bc {w : World} {v : Value} {xs : List UInt8} {wx : World} (h : BV w v xs wx) : BC wx v xs := by
  refine ⟨h.bm, ?_⟩
  obtain ⟨p, c, rfl, ⟨h0, rfl, rfl⟩ | ⟨g, rfl, hc⟩⟩ := h.form
  · exact ⟨none, 0, rfl, by omega⟩
  · exact ⟨_, c, rfl, hc⟩
theorem bc_open {w : World} {v : Value} {l : List UInt8} (h : BC w v l) (hl : l.length ≤ 140737488355328) (hE : ps.EnvP w) : Calls Tryz.prog 15 #[v] w fun e w' => OpO w l e w' := by
  obtain ⟨h1, p, c, rfl, hc⟩ := h
  exact open_any p c l w h1 hc hl hE
theorem bc_take {w : World} {p : Option Addr} {c : Nat} {l : List UInt8} (h : BC w (.slice p l.length c) l) (k : Nat) (hk : k ≤ l.length) : BC w (.slice p k c) (l.take k) := by
  obtain ⟨h1, p', c', e, hc⟩ := h
  cases e
  have hlk : (l.take k).length = k := by rw [List.length_take]; omega
  refine ⟨?_, p, c, by rw [hlk], by omega⟩
  obtain ⟨p2, c2, e, h2⟩ := h1
  cases e
  refine ⟨p, c, by rw [hlk], fun i x hx => ?_⟩
  rw [List.getElem?_take] at hx
  split at hx
  · exact h2 i x hx
  · cases hx
open Go.ChangeShapes Go.WideShapes Go.ChangeAt in
set_option maxRecDepth 100000 in
theorem open_bytes {H : Type} {enc : TypeId × Value → H} {W : World} {spare : Nat → Bool} {held : Bool} {r0 : Reach} {b0 : Nat} {v : Value} {d : DataW H} {q : List MemPlace} (hv : Value.okWide Tryz.prog W r0 b0 29 v) (h : DataW.Trod enc Tryz.prog W 0 spare held 29 v d q) :
    ∃ l : List UInt8, BC W v l ∧ (l = [] ∨ ∃ es fs, d = .slice es fs ∧ es.length = l.length) := by
  obtain ⟨p, len, cap, rfl⟩ := okWide_slice Tryz.underlying29 hv
  obtain ⟨fuel, hf⟩ := h
  rcases Go.Deep.open_slice1 Tryz.underlying29 (by kernel_rfl) hf with ⟨e, -⟩ | ⟨a, len', cap', m, n, V, D, Pl, e, -, hlc, hcm, hm, hx, hel⟩
  · simp [Value.cells] at e
    obtain ⟨rfl, rfl, rfl⟩ := e
    exact ⟨[], ⟨bm_nil W, none, 0, rfl, Nat.le_refl _⟩, .inl rfl⟩
  simp [Value.cells] at e
  obtain ⟨rfl, rfl, rfl⟩ := e
  have hle : len ≤ m := by rw [hm]; split <;> omega
  obtain ⟨F, hF⟩ := Go.Deep.choose_lt (α := UInt8) (n := len) (p := fun i y => W.cell? (a.add i) = some (.int .u8 (y.toNat : Int))) (fun i hi => by
    obtain ⟨g1, g2⟩ := hel i (by omega)
    obtain ⟨c, e, -, hw⟩ := DataW.trod_int Tryz.underlying5 g2
    have e2 : V i = .int .u8 c := by simpa using e
    have h1 : IntKind.u8.min = 0 := rfl
    have h2 : IntKind.u8.max = 255 := rfl
    have hr : 0 ≤ c ∧ c ≤ 255 := by simpa [Lit.wf, h1, h2] using hw
    refine ⟨UInt8.ofNat c.toNat, ?_⟩
    rw [g1, e2, UInt8.toNat_ofNat']
    congr 2
    omega)
  have hlen : ((List.range len).map F).length = len := by simp
  refine ⟨(List.range len).map F, ⟨?_, some a, cap, by rw [hlen], by rw [hlen]; exact hlc⟩, .inr ⟨_, _, (Prod.mk.inj hx).1, by simp⟩⟩
  refine ⟨some a, cap, by rw [hlen], fun i x hx => ?_⟩
  have hi : i < len := by have := (List.getElem?_eq_some_iff.1 hx).1; rw [hlen] at this; exact this
  have hxF : x = F i := by
    rw [List.getElem?_map, List.getElem?_range hi] at hx
    simpa using hx.symm
  subst hxF
  have h1 := hF i hi
  have h00 := hF 0 (by omega)
  have ha0 : a.add 0 = a := by simp [Addr.add]
  rw [ha0] at h00
  have hspot := World.cell?_spot h00
  obtain ⟨g, o, sp⟩ := a
  have hsp : sp = none := hspot
  subst hsp
  refine ⟨g, o, rfl, ?_⟩
  rw [ps.add_plain] at h1
  exact h1
theorem gd_is {x : ps.Fl} (h : Gd okT x) (hs : x.s.size ≠ 0) : adr.isC x.c x.r = true ∧ ps.ckT x.s = 0 := by
  obtain ⟨h1, h2, h3⟩ := h
  refine ⟨adr.isC_iff.2 ⟨h1, h2⟩, ?_⟩
  have := of_decide_eq_true h3
  unfold ftx at this
  rwa [if_neg hs] at this
theorem is_gd {x : ps.Fl} (h : adr.isC x.c x.r = true) (hs : x.s.size ≠ 0) (h2 : ps.ckT x.s = 0) : Gd okT x := by
  obtain ⟨h3, h4⟩ := adr.isC_iff.1 h
  refine ⟨h3, h4, decide_eq_true ?_⟩
  unfold ftx
  rw [if_neg hs]
  exact h2
/-- What is there of any bytes is a sheet. -/
theorem told_open (b : List UInt8) : ps.Told (opE [] b).1 0 := by
  obtain ⟨h1, h2, h3, h4, -⟩ := book_any okT b.length b
  exact ps.told_good h1 h4 fun x hx => gd_is (h3 x hx) (h2 x hx)
set_option maxRecDepth 1000000 in
set_option maxHeartbeats 4000000 in
theorem pack_any (v : Value) (l : List UInt8) (w : World) (h : BC w v l) (hl : l.length ≤ 140737488355328) (hE : ps.EnvP w) :
    Calls Tryz.prog 17 #[v] w fun e w' => ∃ u, e = .returned (.tuple #[u, .nilIface]) ∧ BC w' u (bkS (opE [] l).1) ∧ Bw w w' := by
  have HO : Hid (Calls Tryz.prog 15 #[v] w fun e w' => OpO w l e w') := bc_open h hl hE
  have HE : Hid (ps.EnvP w) := hE
  have HT : Hid (ps.Told (opE [] l).1 0) := told_open l
  clear h hE
  go_enter Tryz.func17, Tryz.ntmps17
  go_upto_region 2 with (first | (go_at_call 15; refine HO.out.mono ?_; rintro e w1 ⟨⟨q, cq, rfl, hfm⟩, hb1⟩))
  have HW : Hid (Calls Tryz.prog 13 #[.slice q (opE [] l).1.length cq] w1 fun e w' => ∃ u, e = .returned (.tuple #[u, .nilIface]) ∧ BC w' u (bkS (opE [] l).1) ∧ Bw w1 w') := (writeP_any q cq (opE [] l).1 w1 hfm (HE.out.below hb1 HE.out.size)).mono fun e w' ⟨t, h1, h2⟩ => by
    obtain rfl := HT.out.one h1
    rcases h2 with ⟨h3, -⟩ | ⟨-, u, rfl, hu⟩
    · exact absurd rfl h3
    · exact ⟨u, rfl, hu.bc, hu.below⟩
  have HB1 : Hid (Bw w w1) := hb1
  clear hfm hb1 HO HT
  go_wp2_with (first | (go_at_call 13; refine HW.out.mono ?_; rintro e w2 ⟨u, rfl, hu, hb2⟩))
  exact bodyPost_ret (v := .tuple #[u, .nilIface]) (by simp [results, Tryz.results17, go_sem]) rfl ⟨u, rfl, hu, HB1.out.tr hb2⟩
theorem eqF (c r : Int) (s : ByteArray) (m : Nat) (W : World) : (Op.equalIn (m + 4) 25 (.agg #[.int .i64 c, .int .i64 r, .string s]) (.agg #[.int .i64 c, .int .i64 r, .string s])).run Tryz.prog W = .ok true W := by
  have hS : Tryz.prog.underlying 25 = some (.struct (Tryz.prog.fieldsOf 25)) := by kernel_rfl
  have hp : Tryz.prog.stoodInHeld 25 = false := by kernel_rfl
  rw [run_equalIn_struct W (m + 3) 25 _ _ hS hp]
  simp only [Program.fieldsOf, Tryz.underlying25]
  simp [Op.eqFields, go_sem, ps.eqIn30]
theorem neqF (c r : Int) (s : ByteArray) (W : World) : (binOp BinOp.neq 25 (.agg #[.int .i64 c, .int .i64 r, .string s]) (.agg #[.int .i64 c, .int .i64 r, .string s])).run Tryz.prog W = .ok (.bool false) W := by
  rw [run_neq_struct, show (10000 : Nat) = 9996 + 4 from rfl, eqF]; rfl

set_option maxRecDepth 1000000 in
set_option maxHeartbeats 4000000 in
/-- sccsame.Sheets at a list of cells that lies in memory twice. -/
theorem rsheets_fm (X : List ps.Fl) (p p' : Option Addr) (c c' : Nat) (w : World) (hv : ps.FM w p X) (hv' : ps.FM w p' X) (hl : X.length ≤ 100000) :
    Calls Tryz.prog 16 #[.slice p X.length c, .slice p' X.length c'] w fun e w' => e = .returned (.bool true) ∧ Bw w w' := by
  have HV : Hid (ps.FM w p X) := hv
  have HV' : Hid (ps.FM w p' X) := hv'
  have hl9 : (X.length : Int) ≤ 100000 := by omega
  clear hv hl hv'
  go_enter Tryz.func16, Tryz.ntmps16
  go_upto_block 0 with fail
  go_cut [] (fun wx => Hid (Bw w wx))
  case first =>
    go_wp2_with fail
    go_loopw [5] (fun s5 wr => ∃ i : Nat, s5 = .int .i64 (i : Int) ∧ i ≤ X.length ∧ Hid (Bw w wr)) (fun s5 _ => X.length - (intOf s5).toNat)
    case atStart => exact ⟨0, rfl, Nat.zero_le _, Below.refl _ _⟩
    case round =>
      obtain ⟨i, rfl, hi, HR⟩ := hrel
      by_cases hlt : i < X.length
      · have hlt' : (i : Int) < (X.length : Int) := by omega
        have hi0 : (0 : Int) ≤ (i : Int) := by omega
        have hx : X[i]? = some X[i] := List.getElem?_eq_getElem hlt
        obtain ⟨x, ex⟩ : ∃ x, X[i] = x := ⟨_, rfl⟩
        rw [ex] at hx
        obtain ⟨gX, oX, rfl, -, q0, q1, q2⟩ := fm_at (fm_next HV.out HR.out) hx
        obtain ⟨gY, oY, rfl, -, r0, r1, r2⟩ := fm_at (fm_next HV'.out HR.out) hx
        have e30 := fun W => neqF x.c x.r x.s W
        clear hx ex
        obtain ⟨xc, xr, xs⟩ := x
        dsimp only at q0 q1 q2 r0 r1 r2 e30
        go_wp2_with fail
        go_cut [25] (fun s25 wx => s25 = .bool false ∧ wx = wr.drew)
        case first =>
          go_region
          all_goals
            go_wp2_with fail
            go_meet
            case rel => exact ⟨rfl, rfl⟩
        case rest =>
        obtain ⟨rfl, rfl⟩ := hcut
        apply_assumption
        clear q0 q1 q2 r0 r1 r2 e30
        have HR2 : Hid (Bw w wr.drew) := HR.out.drew
        go_wp2_with fail
        exact ⟨⟨i + 1, rfl, hlt, HR2⟩, by simp [intOf]; omega⟩
      · have hlt' : ¬ (i : Int) < (X.length : Int) := by omega
        go_wp2_with fail
        go_meet
        case rel => exact HR
  case rest =>
  have HC := hcut
  clear hcut
  apply_assumption
  go_wp2_with fail
  go_ret
  exact ⟨rfl, HC.out⟩
end Go.Proofs.YtokfijkhflfioaaGreatDoor.fw

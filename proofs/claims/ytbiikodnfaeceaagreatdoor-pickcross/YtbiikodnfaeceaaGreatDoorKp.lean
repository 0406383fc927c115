
/- Proved: the law PickCross returns true for every table and every three columns: what Cross says is wrong, or the two columns' values, each once, rising, and the sums of the third in the rows that have both are the document's. Conditions: the listed package variables start as their initialisers lay them (the card ties them). -/
import Derived.Test.YtbiikodnfaeceaaGreatDoorKi
import Derived.Test.YtbiikodnfaeceaaGreatDoorSa
import Derived.OpenShut
import Derived.Deep.Slices
import Derived.Deep.Strs
import Derived.Lib.SmallJoins
import Derived.Test.YtbiikodnfaeceaaGreatDoorOq
import Derived.ReadAgain
import Derived.ChangeOld
import Derived.Handed
import Derived.Below
import Derived.SizedLaws
import Derived.ProofKit
import Derived.Test.YtbiikodnfaeceaaGreatDoorTie
import Derived.Test.YtbiikodnfaeceaaGreatDoorCards
import Derived.LaidMore
import Derived.Shelf.Vars
import Derived.Lay
import Derived.MakeChecks

/- The law PickCross. Conditions: as each theorem says. -/
namespace Go.Proofs.YtbiikodnfaeceaaGreatDoor.so
open Go.RowKit Go.Sort Go.Shelf
def c3F (xb xo x : Int) (i : Nat) : Int := if i = 0 then xb else if i = 1 then xo else x
theorem cf3 {T : Tb} {xb xo x e : Int} (h : CF T 3 (c3F xb xo x) e) : GF T 2 (cF xb xo) x e := by
  rcases h with ⟨h1, h2⟩ | ⟨h0, ⟨-, h⟩ | ⟨rfl, -, i, hi, hb⟩ | ⟨rfl, -, hall⟩⟩
  · exact .inl ⟨h1, .inl ⟨h1, h2⟩⟩
  · omega
  · by_cases c0 : colOk T xb
    · by_cases c1 : colOk T xo
      · have hx : ¬ colOk T x := by
          have : i = 0 ∨ i = 1 ∨ i = 2 := by omega
          rcases this with rfl | rfl | rfl
          · exact absurd c0 hb
          · exact absurd c1 hb
          · exact hb
        refine .inr ⟨.inr ⟨h0, .inr (.inr ⟨rfl, by omega, fun j hj => ?_⟩)⟩, .inl ⟨rfl, hx⟩⟩
        have : j = 0 ∨ j = 1 := by omega
        rcases this with rfl | rfl
        · exact c0
        · exact c1
      · exact .inl ⟨by omega, .inr ⟨h0, .inr (.inl ⟨rfl, by omega, 1, by omega, c1⟩)⟩⟩
    · exact .inl ⟨by omega, .inr ⟨h0, .inr (.inl ⟨rfl, by omega, 0, by omega, c0⟩)⟩⟩
  · refine .inr ⟨.inr ⟨h0, .inr (.inr ⟨rfl, by omega, fun j hj => ?_⟩)⟩, .inr ⟨rfl, hall 2 (by omega)⟩⟩
    have : j = 0 ∨ j = 1 := by omega
    rcases this with rfl | rfl
    · exact hall 0 (by omega)
    · exact hall 1 (by omega)
set_option maxRecDepth 1000000 in
set_option maxHeartbeats 16000000 in
theorem crossLaw_any (T : Tb) (p : Option Addr) (cp : Nat) (xb xo x : Int) (w : World) (hT : TM w p T) (hq : T.q ≤ 9223372036854775807) (hL : ∀ i, i < T.q → T.L i ≤ 9223372036854775807) (h64 : ∀ i, i < T.q → ∀ j, j < T.L i → B64 (T.v i j).n) (hE : ErrTy w) :
    Calls Tryz.prog 4 #[.slice p T.q cp, .int .i64 xb, .int .i64 xo, .int .i64 x] w fun e w' => e = .returned (.bool true) ∧ Bw w w' := by
  have hnew := heap_alloc_new w (.cells #[.int .i64 xb, .int .i64 xo, .int .i64 x] 3)
  have H1 := rcolumns_any T p cp (some ⟨w.heap.size, 0, none⟩) 3 3 (c3F xb xo x) (w.alloc (.cells #[.int .i64 xb, .int .i64 xo, .int .i64 x] 3)) (hT.next (Bw.al _ _)) (.inr ⟨w.heap.size, 0, rfl, by simp, fun i hi => by
    have : i = 0 ∨ i = 1 ∨ i = 2 := by omega
    rcases this with rfl | rfl | rfl
    · simp only [World.cell?, hnew]; rfl
    · simp only [World.cell?, hnew]; rfl
    · simp only [World.cell?, hnew]; rfl⟩) hq (by omega) hL
  have HB0 : Hid (Bw w (w.alloc (.cells #[.int .i64 xb, .int .i64 xo, .int .i64 x] 3))) := Bw.al _ _
  have HT : Hid (TM w p T) := hT
  have H64 : Hid (∀ i, i < T.q → ∀ j, j < T.L i → B64 (T.v i j).n) := h64
  have H2 : Hid (Snd T → ∀ (k : Nat) wx, colOk T (k : Int) → Bw w wx → Calls Tryz.prog 11 #[.slice p T.q cp, .int .i64 (k : Int)] wx fun e w' => HDO T k wx e w') := fun hS k wx hc hb => rheads_any T p cp k wx (hT.next hb) hS hc
  have H3 : Hid (∀ wx, Bw w wx → Calls Tryz.prog 12 #[.slice p T.q cp, .int .i64 xb, .int .i64 xo, .int .i64 x] wx fun e w' => CRO T xb xo x wx e w') := fun wx hb => cross_any T p cp xb xo x wx (hT.next hb) hq hL h64 (fun hS k wy hc hty => eachOnce_any T p cp k wy hty hS hc)
  have H5 : Hid (∀ wx e, Bw w wx → Calls Tryz.prog 9 #[errV e, .int .i64 e] wx fun r w' => r = .returned (.bool true) ∧ Bw wx w') := fun wx e hb => (rsame_any e e wx (errTy_next hE hb)).mono fun r w' h => ⟨by rw [h.1]; simp, h.2⟩
  have H6 : Hid (∀ p1 n c1 (a : Nat → Vl) p2 c2 (b : Nat → Vl) wx, VM wx p1 n a → VM wx p2 n b → n ≤ 1000000 → (∀ i, i < n → a i = b i) → Calls Tryz.prog 10 #[.slice p1 n c1, .slice p2 n c2] wx fun e w' => e = .returned (.bool true) ∧ Bw wx w') := fun p1 n c1 a p2 c2 b wx h1 h2 hn hab => (rvals_same p1 n c1 a p2 c2 b wx h1 h2 hn hab).mono fun e w' h => ⟨h.1, h.2.below⟩
  obtain ⟨q, eq⟩ : ∃ q, T.q = q := ⟨_, rfl⟩
  have HEQ : Hid (T.q = q) := eq
  rw [eq] at H1 H2 H3 ⊢
  clear hT hq hL h64 hE hnew eq
  go_enter Tryz.func4, Tryz.ntmps4
  go_upto_region 2 with fail
  refine H1.mono ?_
  clear H1
  rintro e w1 ⟨⟨E, rfl, hcf⟩, hb1⟩
  have HGF : Hid (GF T 2 (cF xb xo) x E) := cf3 hcf
  have HB1 : Hid (Bw w w1) := HB0.out.tr hb1
  clear hcf hb1 HB0
  by_cases hE0 : E = 0
  · subst hE0
    obtain ⟨hS, -, hco, hcx⟩ := HGF.out.zero
    have hcb : colOk T xb := hco 0 (by omega)
    have hco' : colOk T xo := hco 1 (by omega)
    obtain ⟨kb, rfl⟩ : ∃ k : Nat, xb = (k : Int) := ⟨xb.toNat, by have := hcb.1; omega⟩
    obtain ⟨ko, rfl⟩ : ∃ k : Nat, xo = (k : Int) := ⟨xo.toNat, by have := hco'.1; omega⟩
    obtain ⟨k, rfl⟩ : ∃ k : Nat, x = (k : Int) := ⟨x.toNat, by have := hcx.1; omega⟩
    have HKL : Hid (∀ i, i < T.q → kb < T.L i ∧ ko < T.L i ∧ k < T.L i) := fun i hi => by
      have a1 := (hS.col hcb hi).2.2.1
      have a2 := (hS.col hco' hi).2.2.1
      have a3 := (hS.col hcx hi).2.2.1
      rw [Int.toNat_natCast] at a1 a2 a3
      exact ⟨a1, a2, a3⟩
    have hq60 : q ≤ 60 := by rw [← HEQ.out]; exact hS.few
    have e1 := H2.out hS kb w1 hcb HB1.out
    have HE2 : Hid (∀ wx, Bw w wx → Calls Tryz.prog 11 #[.slice p q cp, .int .i64 (ko : Int)] wx fun e w' => HDO T ko wx e w') := fun wx hb => H2.out hS ko wx hco' hb
    clear hS hco hcx hcb hco' H2
    go_upto_region 5 with fail
    refine e1.mono ?_
    clear e1
    rintro e w2 ⟨va, rfl, Wa, hx, hhx, hva, hba⟩
    have HHX : Hid (Hds T kb hx) := hhx
    have HB2 : Hid (Bw w w2) := HB1.out.tr (hba.tr hva.below)
    obtain ⟨pa, ca, ea, hvma, -⟩ := hva.vm
    have e2 := HE2.out w2 HB2.out
    have HVA : Hid (VM w2 pa hx.length (nthV hx)) := hvma
    subst ea
    clear hhx hva hba hvma HB1 HE2
    go_upto_region 5 with fail
    go_upto_region 6 with fail
    refine e2.mono ?_
    clear e2
    rintro e w3 ⟨vb, rfl, Wb, hy, hhy, hvb, hbb⟩
    have HHY : Hid (Hds T ko hy) := hhy
    have hb23 : Bw w2 w3 := hbb.tr hvb.below
    have HB3 : Hid (Bw w w3) := HB2.out.tr hb23
    obtain ⟨pb, cb, eb, hvmb, -⟩ := hvb.vm
    have HVA3 : Hid (VM w3 pa hx.length (nthV hx)) := HVA.out.next hb23
    have HVB : Hid (VM w3 pb hy.length (nthV hy)) := hvmb
    have e3 := H3.out w3 HB3.out
    subst eb
    clear hhy hvb hbb hvmb hb23 HB2 HVA H3
    go_upto_region 6 with fail
    go_upto_region 7 with fail
    refine e3.mono ?_
    clear e3
    rintro e w4 ⟨er, vx, vy, vz, rfl, hgf, -, hyes, hb4⟩
    have her : er = 0 := hgf.one HGF.out
    subst her
    obtain ⟨hx2, hy2, px, cx, py, cy, W, ls, rfl, rfl, hhx2, hhy2, hvx, hvy, hls, hlm⟩ := hyes rfl
    simp only [Int.toNat_natCast] at hhx2 hhy2 hlm
    have exx := hhx2.one HHX.out
    have eyy := hhy2.one HHY.out
    subst exx eyy
    have HB4 : Hid (Bw w w4) := HB3.out.tr hb4
    have HVA4 : Hid (VM w4 pa hx2.length (nthV hx2)) := HVA3.out.next hb4
    have HVB4 : Hid (VM w4 pb hy2.length (nthV hy2)) := HVB.out.next hb4
    have HVX4 : Hid (VM w4 px hx2.length (nthV hx2)) := hvx
    have HVY4 : Hid (VM w4 py hy2.length (nthV hy2)) := hvy
    have HLS4 : Hid (LS W vz ls w4) := hls
    have HLM : Hid (ls.map Ln.vs = hx2.map fun a => hy2.map fun b => suV T kb ko k a b) := hlm
    have hxl := HHX.out.le
    have hyl := HHY.out.le
    obtain ⟨pz, cz, ez⟩ := hls.form
    have hll : ls.length = hx2.length := by
      have := congrArg List.length hlm
      rwa [List.length_map, List.length_map] at this
    rw [hll] at ez
    subst ez
    have e5 := H5.out w4 0 HB4.out
    have hqq := HEQ.out
    obtain ⟨nx, hnx⟩ : ∃ nx, hx2.length = nx := ⟨_, rfl⟩
    obtain ⟨ny, hny⟩ : ∃ ny, hy2.length = ny := ⟨_, rfl⟩
    have HNX : Hid (hx2.length = nx) := hnx
    have HNY : Hid (hy2.length = ny) := hny
    rw [hnx] at HVA4 HVX4 HLS4 hxl ⊢
    rw [hny] at HVB4 HVY4 hyl ⊢
    have hnx60 : nx ≤ 60 := by omega
    have hny60 : ny ≤ 60 := by omega
    clear hgf hyes hb4 hhx2 hhy2 hvx hvy hls hlm hll hnx hny hxl hyl hqq HB3 HVA3 HVB H5
    go_upto_region 7 with fail
    go_upto_region 8 with fail
    refine e5.mono ?_
    clear e5
    rintro e w5 ⟨rfl, hb5⟩
    have e6 := H6.out px nx cx (nthV hx2) pa ca (nthV hx2) w5 (HVX4.out.next hb5) (HVA4.out.next hb5) (by omega) (fun _ _ => rfl)
    have HB45 : Hid (Bw w4 w5) := hb5
    clear hb5
    go_upto_region 8 with fail
    go_upto_region 9 with fail
    refine e6.mono ?_
    clear e6
    rintro e w6 ⟨rfl, hb6⟩
    have HB46 : Hid (Bw w4 w6) := HB45.out.tr hb6
    have e7 := H6.out py ny cy (nthV hy2) pb cb (nthV hy2) w6 (HVY4.out.next HB46.out) (HVB4.out.next HB46.out) (by omega) (fun _ _ => rfl)
    clear hb6 HB45 H6
    go_upto_region 9 with fail
    go_upto_region 10 with fail
    refine e7.mono ?_
    clear e7
    rintro e w7 ⟨rfl, hb7⟩
    have HB47 : Hid (Bw w4 w7) := HB46.out.tr hb7
    clear hb7 HB46
    go_upto_region 10 with fail
    go_cut [73] (fun s73 wx => s73 = .bool false ∧ wx = w7)
    case first =>
      go_wp2_with fail
      go_meet
      case rel => exact ⟨by simp, rfl⟩
    case rest =>
      obtain ⟨rfl, rfl⟩ := hcut
      apply_assumption
      refine wp_cond_false (by simp [Act.eval]) ?_
      refine wp_skip ?_
      apply_assumption
      exact ctail12 T p cp q kb ko k hx2 hy2 pa nx ca pb ny cb pz cz W ls w wc HEQ hq60 (HT.out.next (HB4.out.tr HB47.out)) HKL H64 HNX HNY hnx60 hny60 (HVA4.out.next HB47.out) (HVB4.out.next HB47.out) (HLS4.out.next HB47.out) HLM (HB4.out.tr HB47.out) _ _ _ _ _ _ _ _ _ _ _ _ _ _ _ _ _ _ _ _ _ _ _ _ _ _ _ _ _ _ _ _ _ _ _ _ _ _ _ _ _ _ _ _ _ _ _ _ _ _ _ _ _ _ _ _ _ _ _ _ _ _ _ _ _ _ _ _ _ _ _ _ _ _ _ _ _ _ _ _ _ _ _ _ _ _ _ _ _ _ _ _ _ _ _ _ _ _ _ _ _ _ _ _ _ _ _ _ _ _ _ _ _ _ _ _ _ _ _ _ _ _ _ _ _ _ _ _ _ _ _ _ _ _ _ _ _ _ _ _
  · have hne : (E == 0) = false := by simpa using hE0
    have e3 := H3.out w1 HB1.out
    clear H3 H2
    go_upto_region 6 with fail
    go_upto_region 7 with fail
    refine e3.mono ?_
    clear e3
    rintro e w4 ⟨er, vx, vy, vz, rfl, hgf, hno, -, hb4⟩
    have her : er = E := hgf.one HGF.out
    subst her
    obtain ⟨rfl, rfl, rfl⟩ := hno hE0
    have HB4 : Hid (Bw w w4) := HB1.out.tr hb4
    have e5 := H5.out w4 er HB4.out
    clear hgf hno hb4 H5
    go_upto_region 7 with fail
    go_upto_region 8 with fail
    refine e5.mono ?_
    clear e5
    rintro e w5 ⟨rfl, hb5⟩
    have HB5 : Hid (Bw w w5) := HB4.out.tr hb5
    have e6 := H6.out none 0 0 (nthV []) none 0 (nthV []) w5 (.inl rfl) (.inl rfl) (by omega) (fun _ _ => rfl)
    clear hb5 HB4
    go_upto_region 8 with fail
    go_upto_region 9 with fail
    refine e6.mono ?_
    clear e6
    rintro e w6 ⟨rfl, hb6⟩
    have HB6 : Hid (Bw w w6) := HB5.out.tr hb6
    have e7 := H6.out none 0 0 (nthV []) none 0 (nthV []) w6 (.inl rfl) (.inl rfl) (by omega) (fun _ _ => rfl)
    clear hb6 HB5 H6
    go_upto_region 9 with fail
    go_upto_region 10 with fail
    refine e7.mono ?_
    clear e7
    rintro e w7 ⟨rfl, hb7⟩
    have HB7 : Hid (Bw w w7) := HB6.out.tr hb7
    clear hb7 HB6
    go_wp2_with fail
    go_loopw [19] (fun s19 wr => s19 = .int .i64 0 ∧ wr = w7) (fun _ _ => 0)
    case atStart => exact ⟨rfl, rfl⟩
    case round =>
      obtain ⟨rfl, rfl⟩ := hrel
      go_wp2_with fail
      go_ret
      exact ⟨rfl, HB7.out⟩
end Go.Proofs.YtbiikodnfaeceaaGreatDoor.so

/- A table, keys and numbers that were handed in lie in memory as they are read. Nothing is walked here. -/
namespace Go.Proofs.YtbiikodnfaeceaaGreatDoor.so
open Go.ChangeShapes Go.WideShapes Go.ChangeAt Go.RowKit
theorem vcof3 : Tryz.prog.cellsOf 3 = 1 := by kernel_rfl
theorem vcof4 : Tryz.prog.cellsOf 4 = 1 := by kernel_rfl
theorem vcof9 : Tryz.prog.cellsOf 9 = 1 := by kernel_rfl
theorem vcofV : Tryz.prog.cellsOf 36 = 3 := by kernel_rfl
theorem vcofK : Tryz.prog.cellsOf 48 = 2 := by kernel_rfl
theorem vcofR : Tryz.prog.cellsOf 34 = 1 := by kernel_rfl
theorem add_plain (g o k : Nat) : (⟨g, o, none⟩ : Addr).add k = ⟨g, o + k, none⟩ := by
  unfold Addr.add
  by_cases h : k = 0 <;> simp [h]
theorem list3 {α : Type} {l : List α} (h : l.length = 3) : ∃ a b c, l = [a, b, c] := by
  match l, h with
  | [a, b, c], _ => exact ⟨a, b, c, rfl⟩
theorem list2 {α : Type} {l : List α} (h : l.length = 2) : ∃ a b, l = [a, b] := by
  match l, h with
  | [a, b], _ => exact ⟨a, b, rfl⟩
theorem blk_of {W : World} {g o : Nat} {v : Value} (h : W.cell? ⟨g, o, none⟩ = some v) : g < W.heap.size := by
  unfold World.cell? at h
  rcases Nat.lt_or_ge g W.heap.size with h' | h'
  · exact h'
  · rw [Array.getElem?_eq_none h'] at h
    simp at h
instance : Inhabited Vl := ⟨⟨0, 0, nul⟩⟩
section
variable {H : Type} {enc : TypeId × Value → H} {W : World} {spare : Nat → Bool} {held : Bool}
set_option maxRecDepth 100000 in
theorem val_trod {base fuel : Nat} {cs : List Value} {x : DataW H × List MemPlace} (h : DataW.trod enc Tryz.prog W base spare held fuel 36 cs = some x) :
    ∃ y : Vl, cs = [.int .i64 y.k, .int .i64 y.n, .string y.s] := by
  obtain ⟨y0, y1, y2, n, hx, hl, h0, h1, h2⟩ := Go.Deep.trod_struct3 Tryz.underlying36 h
  obtain ⟨a0, a1, a2, rfl⟩ := list3 (hl.trans vcofV)
  simp only [vcof3, vcof9, List.drop_zero, List.drop_succ_cons, List.take_succ_cons, List.take_zero] at h0 h1 h2
  obtain ⟨k, e0, -, -⟩ := DataW.trod_int Tryz.underlying3 h0
  obtain ⟨m, e1, -, -⟩ := DataW.trod_int Tryz.underlying3 h1
  obtain ⟨s, e2, -, -⟩ := DataW.trod_string Tryz.underlying9 h2
  simp at e0 e1 e2
  subst e0 e1 e2
  exact ⟨⟨k, m, s⟩, rfl⟩
set_option maxRecDepth 100000 in
theorem row_trod {fuel : Nat} {cs : List Value} {x : DataW H × List MemPlace} (h : DataW.trod enc Tryz.prog W 0 spare held fuel 34 cs = some x) :
    ∃ (p : Option Addr) (len cap : Nat) (v : Nat → Vl), cs = [.slice p len cap] ∧ len ≤ 9223372036854775807 ∧ VM W p len v := by
  rcases Go.Deep.open_slice Tryz.underlying34 h with ⟨e, -⟩ | ⟨a, len, cap, m, n, D, Pl, e, -, hlc, hcm, hm, -, hel⟩
  · exact ⟨none, 0, 0, fun _ => ⟨0, 0, nul⟩, e, by omega, .inl rfl⟩
  have hmax : maxLen = 9223372036854775807 := rfl
  have hle : len ≤ m := by rw [hm]; split <;> omega
  rw [vcofV] at hel
  obtain ⟨F, hF⟩ := Go.Deep.choose_lt (α := Vl) (n := len) (p := fun i y => W.cells? 0 (a.add (i * 3)) 3 = some [.int .i64 y.k, .int .i64 y.n, .string y.s]) (fun i hi => by
    obtain ⟨cs', g1, g2⟩ := hel i (by omega)
    obtain ⟨y, rfl⟩ := val_trod g2
    exact ⟨y, g1⟩)
  refine ⟨some a, len, cap, F, e, by omega, ?_⟩
  by_cases h0 : len = 0
  · exact .inl h0
  right
  have hc0 : ∀ i, i < len → ∀ j, j < 3 → W.cell? (a.add (i * 3 + j)) = ([.int .i64 (F i).k, .int .i64 (F i).n, .string (F i).s] : List Value)[j]? := fun i hi j hj => by
    have := (World.cells?_some (hF i hi)).2.2 j hj
    rw [Go.Deep.add_add] at this
    exact this
  have hsp : W.cell? a = some (.int .i64 (F 0).k) := by
    have := hc0 0 (by omega) 0 (by omega)
    simpa [Addr.add] using this
  have hspot := World.cell?_spot hsp
  obtain ⟨g, o, sp⟩ := a
  simp only at hspot
  subst hspot
  refine ⟨g, o, rfl, blk_of hsp, fun i hi => ?_⟩
  have q0 := hc0 i hi 0 (by omega)
  have q1 := hc0 i hi 1 (by omega)
  have q2 := hc0 i hi 2 (by omega)
  rw [add_plain] at q0 q1 q2
  exact ⟨q0, by rw [Nat.add_assoc]; exact q1, by rw [Nat.add_assoc]; exact q2⟩
set_option maxRecDepth 100000 in
theorem open_table {r0 : Reach} {b0 : Nat} {v : Value} {d : DataW H} {q : List MemPlace} (hv : Value.okWide Tryz.prog W r0 b0 22 v) (h : DataW.Trod enc Tryz.prog W 0 spare held 22 v d q) :
    ∃ (p : Option Addr) (cap : Nat) (T : Tb), v = .slice p T.q cap ∧ T.q ≤ 9223372036854775807 ∧ T.q ≤ cap ∧ (∀ i, i < T.q → T.L i ≤ 9223372036854775807) ∧ TM W p T := by
  obtain ⟨p, len, cap, rfl⟩ := okWide_slice Tryz.underlying22 hv
  obtain ⟨fuel, hf⟩ := h
  rcases Go.Deep.open_slice Tryz.underlying22 hf with ⟨e, -⟩ | ⟨a, len', cap', m, n, D, Pl, e, -, hlc, hcm, hm, -, hel⟩
  · simp [Value.cells] at e
    obtain ⟨rfl, rfl, rfl⟩ := e
    exact ⟨none, 0, ⟨0, fun _ => none, fun _ => 0, fun _ => 0, fun _ _ => ⟨0, 0, nul⟩⟩, rfl, by simp, by simp, by simp, .inl rfl⟩
  simp [Value.cells] at e
  obtain ⟨rfl, rfl, rfl⟩ := e
  have hmax : maxLen = 9223372036854775807 := rfl
  have hle : len ≤ m := by rw [hm]; split <;> omega
  rw [vcofR] at hel
  obtain ⟨F, hF⟩ := Go.Deep.choose_lt (α := Option Addr × Nat × Nat × (Nat → Vl)) (n := len) (p := fun i y => W.cells? 0 (a.add (i * 1)) 1 = some [.slice y.1 y.2.1 y.2.2.1] ∧ y.2.1 ≤ 9223372036854775807 ∧ VM W y.1 y.2.1 y.2.2.2) (fun i hi => by
    obtain ⟨cs', g1, g2⟩ := hel i (by omega)
    obtain ⟨p', l', c', v', rfl, hl, hv⟩ := row_trod g2
    exact ⟨(p', l', c', v'), g1, hl, hv⟩)
  refine ⟨some a, cap, ⟨len, fun i => (F i).1, fun i => (F i).2.1, fun i => (F i).2.2.1, fun i => (F i).2.2.2⟩, rfl, by show len ≤ _; omega, hlc, fun i hi => (hF i hi).2.1, ?_⟩
  by_cases h0 : len = 0
  · exact .inl h0
  right
  have hc0 : ∀ i, i < len → W.cell? (a.add i) = some (.slice (F i).1 (F i).2.1 (F i).2.2.1) := fun i hi => by
    have := (World.cells?_some (hF i hi).1).2.2 0 (by omega)
    rw [Go.Deep.add_add, Nat.add_zero, Nat.mul_one] at this
    exact this
  have hsp : W.cell? a = some (.slice (F 0).1 (F 0).2.1 (F 0).2.2.1) := by
    have := hc0 0 (by omega)
    simpa [Addr.add] using this
  have hspot := World.cell?_spot hsp
  obtain ⟨g, o, sp⟩ := a
  simp only at hspot
  subst hspot
  refine ⟨g, o, rfl, blk_of hsp, fun i hi => ⟨?_, (hF i hi).2.2⟩⟩
  have q0 := hc0 i hi
  rw [add_plain] at q0
  exact q0
set_option maxRecDepth 100000 in
theorem open_ints {r0 : Reach} {b0 : Nat} {v : Value} {d : DataW H} {q : List MemPlace} (hv : Value.okWide Tryz.prog W r0 b0 23 v) (h : DataW.Trod enc Tryz.prog W 0 spare held 23 v d q) :
    ∃ (p : Option Addr) (n cap : Nat) (c : Nat → Int), v = .slice p n cap ∧ n ≤ 9223372036854775807 ∧ IM W p n c := by
  obtain ⟨p, len, cap, rfl⟩ := okWide_slice Tryz.underlying23 hv
  obtain ⟨fuel, hf⟩ := h
  rcases Go.Deep.open_slice1 Tryz.underlying23 vcof3 hf with ⟨e, -⟩ | ⟨a, len', cap', m, n, V, D, Pl, e, -, hlc, hcm, hm, -, hel⟩
  · simp [Value.cells] at e
    obtain ⟨rfl, rfl, rfl⟩ := e
    exact ⟨none, 0, 0, fun _ => 0, rfl, by omega, .inl rfl⟩
  simp [Value.cells] at e
  obtain ⟨rfl, rfl, rfl⟩ := e
  have hle : len ≤ m := by rw [hm]; split <;> omega
  obtain ⟨F, hF⟩ := Go.Deep.choose_lt (α := Int) (n := len) (p := fun i y => W.cell? (a.add i) = some (.int .i64 y)) (fun i hi => by
    obtain ⟨g1, g2⟩ := hel i (by omega)
    obtain ⟨y, e0, -, -⟩ := DataW.trod_int Tryz.underlying3 g2
    simp at e0
    exact ⟨y, by rw [g1, e0]⟩)
  have hmx : maxLen = 9223372036854775807 := rfl
  refine ⟨some a, len, cap, F, rfl, by omega, ?_⟩
  by_cases h0 : len = 0
  · exact .inl h0
  right
  have hsp : W.cell? a = some (.int .i64 (F 0)) := by
    have := hF 0 (by omega)
    simpa [Addr.add] using this
  have hspot := World.cell?_spot hsp
  obtain ⟨g, o, sp⟩ := a
  simp only at hspot
  subst hspot
  refine ⟨g, o, rfl, blk_of hsp, fun i hi => ?_⟩
  have := hF i hi
  rw [add_plain] at this
  exact this
end
end Go.Proofs.YtbiikodnfaeceaaGreatDoor.so

/- A table, and numbers, that were handed in: with what 64 bits hold, and how long the reading is. Conditions: as each theorem says. -/
namespace Go.Proofs.YtbiikodnfaeceaaGreatDoor.so
open Go.RowKit Go.Joins Go.ChangeShapes Go.WideShapes Go.ChangeAt
section
variable {H : Type} {enc : TypeId × Value → H} {W : World} {spare : Nat → Bool} {held : Bool}
set_option maxRecDepth 100000 in
theorem val_trodB {base fuel : Nat} {cs : List Value} {x : DataW H × List MemPlace} (h : DataW.trod enc Tryz.prog W base spare held fuel 36 cs = some x) :
    ∃ y : Vl, cs = [.int .i64 y.k, .int .i64 y.n, .string y.s] ∧ B64 y.n := by
  obtain ⟨y0, y1, y2, n, hx, hl, h0, h1, h2⟩ := Go.Deep.trod_struct3 Tryz.underlying36 h
  obtain ⟨a0, a1, a2, rfl⟩ := list3 (hl.trans vcofV)
  simp only [vcof3, vcof9, List.drop_zero, List.drop_succ_cons, List.take_succ_cons, List.take_zero] at h0 h1 h2
  obtain ⟨k, e0, -, -⟩ := DataW.trod_int Tryz.underlying3 h0
  obtain ⟨m, e1, -, hw⟩ := DataW.trod_int Tryz.underlying3 h1
  obtain ⟨s, e2, -, -⟩ := DataW.trod_string Tryz.underlying9 h2
  simp at e0 e1 e2
  subst e0 e1 e2
  exact ⟨⟨k, m, s⟩, rfl, bounds_i64 hw⟩
set_option maxRecDepth 100000 in
theorem row_trodB {fuel : Nat} {cs : List Value} {x : DataW H × List MemPlace} (h : DataW.trod enc Tryz.prog W 0 spare held fuel 34 cs = some x) :
    ∃ (p : Option Addr) (len cap : Nat) (v : Nat → Vl), cs = [.slice p len cap] ∧ len ≤ 9223372036854775807 ∧ VM W p len v ∧ ∀ i, i < len → B64 (v i).n := by
  rcases Go.Deep.open_slice Tryz.underlying34 h with ⟨e, -⟩ | ⟨a, len, cap, m, n, D, Pl, e, -, hlc, hcm, hm, -, hel⟩
  · exact ⟨none, 0, 0, fun _ => ⟨0, 0, nul⟩, e, by omega, .inl rfl, fun i hi => by omega⟩
  have hmax : maxLen = 9223372036854775807 := rfl
  have hle : len ≤ m := by rw [hm]; split <;> omega
  rw [vcofV] at hel
  obtain ⟨F, hF⟩ := Go.Deep.choose_lt (α := Vl) (n := len) (p := fun i y => W.cells? 0 (a.add (i * 3)) 3 = some [.int .i64 y.k, .int .i64 y.n, .string y.s] ∧ B64 y.n) (fun i hi => by
    obtain ⟨cs', g1, g2⟩ := hel i (by omega)
    obtain ⟨y, rfl, hb⟩ := val_trodB g2
    exact ⟨y, g1, hb⟩)
  refine ⟨some a, len, cap, F, e, by omega, ?_, fun i hi => (hF i hi).2⟩
  by_cases h0 : len = 0
  · exact .inl h0
  right
  have hc0 : ∀ i, i < len → ∀ j, j < 3 → W.cell? (a.add (i * 3 + j)) = ([.int .i64 (F i).k, .int .i64 (F i).n, .string (F i).s] : List Value)[j]? := fun i hi j hj => by
    have := (World.cells?_some (hF i hi).1).2.2 j hj
    rw [Go.Deep.add_add] at this
    exact this
  have hsp : W.cell? a = some (.int .i64 (F 0).k) := by
    have := hc0 0 (by omega) 0 (by omega)
    simpa [Addr.add] using this
  have hspot := World.cell?_spot hsp
  obtain ⟨g, o, sp⟩ := a
  simp only at hspot
  subst hspot
  refine ⟨g, o, rfl, blk_of hsp, fun i hi => ?_⟩
  have q0 := hc0 i hi 0 (by omega)
  have q1 := hc0 i hi 1 (by omega)
  have q2 := hc0 i hi 2 (by omega)
  rw [add_plain] at q0 q1 q2
  exact ⟨q0, by rw [Nat.add_assoc]; exact q1, by rw [Nat.add_assoc]; exact q2⟩
set_option maxRecDepth 100000 in
theorem open_tableB {r0 : Reach} {b0 : Nat} {v : Value} {d : DataW H} {q : List MemPlace} (hv : Value.okWide Tryz.prog W r0 b0 22 v) (h : DataW.Trod enc Tryz.prog W 0 spare held 22 v d q) :
    ∃ (p : Option Addr) (cap : Nat) (T : Tb), v = .slice p T.q cap ∧ T.q ≤ 9223372036854775807 ∧ T.q ≤ cap ∧ (∀ i, i < T.q → T.L i ≤ 9223372036854775807) ∧ TM W p T ∧ ∀ i, i < T.q → ∀ j, j < T.L i → B64 (T.v i j).n := by
  obtain ⟨p, len, cap, rfl⟩ := okWide_slice Tryz.underlying22 hv
  obtain ⟨fuel, hf⟩ := h
  rcases Go.Deep.open_slice Tryz.underlying22 hf with ⟨e, -⟩ | ⟨a, len', cap', m, n, D, Pl, e, -, hlc, hcm, hm, -, hel⟩
  · simp [Value.cells] at e
    obtain ⟨rfl, rfl, rfl⟩ := e
    exact ⟨none, 0, ⟨0, fun _ => none, fun _ => 0, fun _ => 0, fun _ _ => ⟨0, 0, nul⟩⟩, rfl, by simp, by simp, by simp, .inl rfl, fun i hi => absurd hi (Nat.not_lt_zero _)⟩
  simp [Value.cells] at e
  obtain ⟨rfl, rfl, rfl⟩ := e
  have hmax : maxLen = 9223372036854775807 := rfl
  have hle : len ≤ m := by rw [hm]; split <;> omega
  rw [vcofR] at hel
  obtain ⟨F, hF⟩ := Go.Deep.choose_lt (α := Option Addr × Nat × Nat × (Nat → Vl)) (n := len) (p := fun i y => W.cells? 0 (a.add (i * 1)) 1 = some [.slice y.1 y.2.1 y.2.2.1] ∧ y.2.1 ≤ 9223372036854775807 ∧ VM W y.1 y.2.1 y.2.2.2 ∧ ∀ j, j < y.2.1 → B64 (y.2.2.2 j).n) (fun i hi => by
    obtain ⟨cs', g1, g2⟩ := hel i (by omega)
    obtain ⟨p', l', c', v', rfl, hl, hv, hb⟩ := row_trodB g2
    exact ⟨(p', l', c', v'), g1, hl, hv, hb⟩)
  refine ⟨some a, cap, ⟨len, fun i => (F i).1, fun i => (F i).2.1, fun i => (F i).2.2.1, fun i => (F i).2.2.2⟩, rfl, by show len ≤ _; omega, hlc, fun i hi => (hF i hi).2.1, ?_, fun i hi => (hF i hi).2.2.2⟩
  by_cases h0 : len = 0
  · exact .inl h0
  right
  have hc0 : ∀ i, i < len → W.cell? (a.add i) = some (.slice (F i).1 (F i).2.1 (F i).2.2.1) := fun i hi => by
    have := (World.cells?_some (hF i hi).1).2.2 0 (by omega)
    rw [Go.Deep.add_add, Nat.add_zero, Nat.mul_one] at this
    exact this
  have hsp : W.cell? a = some (.slice (F 0).1 (F 0).2.1 (F 0).2.2.1) := by
    have := hc0 0 (by omega)
    simpa [Addr.add] using this
  have hspot := World.cell?_spot hsp
  obtain ⟨g, o, sp⟩ := a
  simp only at hspot
  subst hspot
  refine ⟨g, o, rfl, blk_of hsp, fun i hi => ⟨?_, (hF i hi).2.2.1⟩⟩
  have q0 := hc0 i hi
  rw [add_plain] at q0
  exact q0
set_option maxRecDepth 100000 in
theorem open_intsB {r0 : Reach} {b0 : Nat} {v : Value} {d : DataW H} {q : List MemPlace} (hv : Value.okWide Tryz.prog W r0 b0 23 v) (h : DataW.Trod enc Tryz.prog W 0 spare held 23 v d q) :
    ∃ (p : Option Addr) (n cap : Nat) (c : Nat → Int), v = .slice p n cap ∧ n ≤ 9223372036854775807 ∧ IM W p n c ∧ (n = 0 ∨ ∃ elems sp, d = .slice elems sp ∧ elems.length = n) := by
  obtain ⟨p, len, cap, rfl⟩ := okWide_slice Tryz.underlying23 hv
  obtain ⟨fuel, hf⟩ := h
  rcases Go.Deep.open_slice1 Tryz.underlying23 vcof3 hf with ⟨e, -⟩ | ⟨a, len', cap', m, n, V, D, Pl, e, -, hlc, hcm, hm, hx, hel⟩
  · simp [Value.cells] at e
    obtain ⟨rfl, rfl, rfl⟩ := e
    exact ⟨none, 0, 0, fun _ => 0, rfl, by omega, .inl rfl, .inl rfl⟩
  simp [Value.cells] at e
  obtain ⟨rfl, rfl, rfl⟩ := e
  have hle : len ≤ m := by rw [hm]; split <;> omega
  obtain ⟨F, hF⟩ := Go.Deep.choose_lt (α := Int) (n := len) (p := fun i y => W.cell? (a.add i) = some (.int .i64 y)) (fun i hi => by
    obtain ⟨g1, g2⟩ := hel i (by omega)
    obtain ⟨y, e0, -, -⟩ := DataW.trod_int Tryz.underlying3 g2
    simp at e0
    exact ⟨y, by rw [g1, e0]⟩)
  have hmx : maxLen = 9223372036854775807 := rfl
  injection hx with hx _
  refine ⟨some a, len, cap, F, rfl, by omega, ?_, .inr ⟨_, _, hx, by simp⟩⟩
  by_cases h0 : len = 0
  · exact .inl h0
  right
  have hsp : W.cell? a = some (.int .i64 (F 0)) := by
    have := hF 0 (by omega)
    simpa [Addr.add] using this
  have hspot := World.cell?_spot hsp
  obtain ⟨g, o, sp⟩ := a
  simp only at hspot
  subst hspot
  refine ⟨g, o, rfl, blk_of hsp, fun i hi => ?_⟩
  have := hF i hi
  rw [add_plain] at this
  exact this
end
end Go.Proofs.YtbiikodnfaeceaaGreatDoor.so

/- The outside of a law that writes nothing: its arguments, whatever their types, read behind the call as they did; and the row's frame with the world's shape handed on. No program is walked here. -/
namespace Go.Proofs.YtbiikodnfaeceaaGreatDoor.out
open Go.RowKit
section
variable {H : Type} {enc : TypeId × Value → H} {P : Program}
theorem trodAll_carry {w w' : World} {base : Nat} {spare : Nat → Bool} {held : Bool} : ∀ {ts : List TypeId} {vs : List Value} {ds : List (DataW H)} {ps : List MemPlace},
    DataW.TrodAll enc P w base spare held ts vs ds ps → (∀ p ∈ ps, w.sameAt w' p) → DataW.TrodAll enc P w' base spare held ts vs ds ps
  | [], [], [], _, h, _ => h
  | _ :: _, _ :: _, _ :: _, _, ⟨p, q, ⟨n, h1⟩, h2, e⟩, hs =>
    ⟨p, q, ⟨n, DataW.trod_carry n _ _ _ h1 (fun x hx => hs x (by rw [e]; exact List.mem_append_left _ hx))⟩, trodAll_carry h2 (fun x hx => hs x (by rw [e]; exact List.mem_append_right _ hx)), e⟩
theorem sameAt_below {w w' : World} (hb : Below w.heap.size w w') (p : MemPlace) (hp : p.block < w.heap.size) : w.sameAt w' p := by
  cases p with
  | cell b off => exact hb.cell (p := ⟨b, off, none⟩) hp
  | map b => exact hb.block b hp
/-- What a law that writes nothing was handed reads behind it as it did. -/
theorem trodAll_after (hl : laidOutB P = true) (hm : mapsRowed P = true) (hz : ((List.range P.types.size).all fun t => match P.underlying t with | some (.slice e) => decide (0 < P.cellsOf e) | _ => true) = true)
    {w w' : World} {ts : List TypeId} {vs : List Value} {ds : List (DataW H)} {ps : List MemPlace} (hts : ∀ t ∈ ts, t < P.types.size)
    (h : DataW.TrodAll enc P w 0 (fun _ => true) true ts vs ds ps) (hb : Below w.heap.size w w') : DataW.TrodAll enc P w' 0 (fun b => decide (b < w.heap.size)) true ts vs ds ps :=
  trodAll_carry (DataW.TrodAll.respare (kids_rows hl hm) (slices_full_of P hz) hts h (fun p hp => decide_eq_true (h.lt p hp))) (fun p hp => sameAt_below hb p (h.lt p hp))
theorem returnsInHanded_shaped {a : Assume} {C : Checked} {os : Os} {f : FuncId} {fn : Func} {s : ChangeSpec} {conds : List PathCond} {apart fresh handsOn again : Bool} {X : World → Array Value → Prop}
    (hX : ∀ (w w' : World) (args : Array Value), w.heap = w'.heap → X w args → X w' args)
    (own : ownKnob C.prog.godebug = none) (started : os.Started) (noInit : C.prog.inits.idxOf? f = none) (hfn : C.prog.funcs[f]? = some fn)
    (witness : ∃ (w : World) (tape : Tape) (i : Input), w.os = os ∧ (w.forCall tape i).Shaped C.prog ∧ i.vars = [] ∧ Input.okWide C.prog (w.forCall tape i) .any w.heap.size f i ∧
      ((s.pre enc C.prog fn conds apart (w.forCall tape i).memory i.args ∧ X (w.forCall tape i).memory i.args) ∧ sizedMet enc C.prog fn (OpenSpec.ofChange s) apart (w.forCall tape i).memory i.args) ∧ a.holds C.prog (lone (Frame.enter C.prog f i.args .normal) [] (w.forCall tape i)))
    (contract : ∀ (W : World) (base : Nat) (args : Array Value) (ds gs : List (DataW H)) (before : List MemPlace),
      (∀ (j : Nat) t v, fn.params[j]? = some t → args[j]? = some v → Value.okWide C.prog W .any base t v) →
      DataW.Whole enc C.prog fn.params.toList s.vars apart W args.toList ds gs before →
      conds.all (PathCond.test C.prog ⟨fn.params.toList, ds, s.plain.varTypes C.prog, gs⟩) = true →
      (DataW.weightsEach C.prog (fn.params.toList ++ s.plain.varTypes C.prog) (ds ++ gs)).all (· ≤ reachBytes) = true → X W args → W.ShapedOpen C.prog →
      a.holds C.prog (lone (Frame.enter C.prog f args .normal) [] W) →
      Calls C.prog f args W fun e W' => ∃ v, e = .returned v ∧ s.post enc C.prog fn apart fresh handsOn again W args v W') :
    ReturnsInHanded a C os f .any (fun w args => (s.pre enc C.prog fn conds apart w args ∧ X w args) ∧ sizedMet enc C.prog fn (OpenSpec.ofChange s) apart w args) (s.post enc C.prog fn apart fresh handsOn again) := by
  refine returnsInHanded_of_calls own started noInit witness ?_
  intro w tape i _ hsh _ hok hpre hholds
  obtain ⟨_, _, _, fn', hfn', _, _, _, _, hval⟩ := hok
  have e : fn' = fn := Option.some.inj (hfn'.symm.trans hfn)
  subst e
  obtain ⟨⟨⟨ds, gs, before, hw, hc⟩, hx⟩, hz⟩ := hpre
  have hw' := DataW.Whole.of_heap (w' := w.forCall tape i) (by rfl) hw
  refine (contract (w.forCall tape i) w.heap.size i.args ds gs before hval hw' hc (hz.weights hw) (hX _ _ _ (by rfl) hx) hsh hholds).mono fun e W' ⟨v, he, hp⟩ => ?_
  subst he
  exact ChangeSpec.post_blind hp
end
end Go.Proofs.YtbiikodnfaeceaaGreatDoor.out
namespace Go.Proofs.YtbiikodnfaeceaaGreatDoor.pkx
open Go.ChangeShapes Go.WideShapes Go.ChangeAt Go.RowKit Go.Joins
theorem gErr : Tryz.prog.globalNamed "errors.errorType" = some 0 := by kernel_rfl
theorem rtErr : (Tryz.prog.cutTypes.find? (·.1 == "internal/reflectlite.rtype")).map (·.2) = some 117 := by kernel_rfl
theorem oneErr : ((List.range 254).filter fun t => Tryz.prog.rowNamed t [101, 114, 114, 111, 114]) = [29] := by kernel_rfl
theorem sizeErr : Tryz.prog.types.size = 254 := by kernel_rfl
theorem size_of_var {W : World} {n : String} {g : Nat} {c : Array Value} (hg : Tryz.prog.globalNamed n = some g) (h : W.var? Tryz.prog n = some c) : g < W.heap.size := by
  unfold World.var? at h
  rw [hg] at h
  simp only [Option.bind_some] at h
  by_cases hh : g < W.heap.size
  · exact hh
  · rw [Array.getElem?_eq_none (by omega)] at h
    cases h
theorem err_of_handle {W : World} (h : handlesMet Tryz.prog [("errors.errorType", Rows.laid_errors_errorType)] W) : ErrTy W := by
  obtain ⟨name, u, ty, e1, e2, e3, e4, e5⟩ := h _ (List.mem_singleton.2 rfl)
  have en : name = [101, 114, 114, 111, 114] := (Option.some.inj e1).symm
  subst en
  obtain rfl := Option.some.inj (rtErr.symm.trans e2)
  have hm : ty ∈ (List.range 254).filter fun t => Tryz.prog.rowNamed t [101, 114, 114, 111, 114] := List.mem_filter.2 ⟨List.mem_range.2 (by rw [← sizeErr]; exact e3), e4⟩
  rw [oneErr] at hm
  obtain rfl := List.mem_singleton.1 hm
  have hh : typeHandle Tryz.prog 29 = .pointer (some ⟨8, 29, none⟩) := by kernel_rfl
  rw [hh] at e5
  exact ⟨size_of_var gErr e5, by simpa using World.var?_cell gErr e5 0⟩
theorem err_of {W : World} (h : laidMetH Tryz.prog Rows.pickCrossRow.laid W) : ErrTy W := err_of_handle (show laidMet Tryz.prog _ W ∧ handlesMet Tryz.prog [("errors.errorType", Rows.laid_errors_errorType)] W from h).2
theorem door_met (os : Os) (args : Array Value) : laidMetH Tryz.prog Rows.pickCrossRow.laid ((World.doorLaid Tryz.prog 400 os).forCall (fun _ _ => 0) ⟨#[], args, []⟩).memory :=
  laidMetH_of_parts3 (fuel := 8) (laidMet_of_run' 8 (by kernel_rfl) (by kernel_rfl)) (by kernel_rfl) (by kernel_rfl)
theorem laid_out : laidOutB Tryz.prog = true := by kernel_rfl
theorem maps_rowed : mapsRowed Tryz.prog = true := by kernel_rfl
theorem slices_full : ((List.range Tryz.prog.types.size).all fun t => match Tryz.prog.underlying t with | some (.slice e) => decide (0 < Tryz.prog.cellsOf e) | _ => true) = true := by kernel_rfl
theorem params_in : ∀ t ∈ Tryz.f4.params.toList, t < Tryz.prog.types.size := by
  have h : (Tryz.f4.params.toList.all fun t => decide (t < Tryz.prog.types.size)) = true := by kernel_rfl
  exact fun t ht => of_decide_eq_true (List.all_eq_true.1 h t ht)
theorem trodAll_four {H : Type} {enc : TypeId × Value → H} {P : Program} {w : World} {base : Nat} {spare : Nat → Bool} {held : Bool} {t0 t1 t2 t3 : TypeId} {args : Array Value} {ds : List (DataW H)} {ps : List MemPlace} (h : DataW.TrodAll enc P w base spare held [t0, t1, t2, t3] args.toList ds ps) :
    ∃ v0 v1 v2 v3 d0 d1 d2 d3 p0 p1 p2 p3, args = #[v0, v1, v2, v3] ∧ ds = [d0, d1, d2, d3] ∧ DataW.Trod enc P w base spare held t0 v0 d0 p0 ∧ DataW.Trod enc P w base spare held t1 v1 d1 p1 ∧ DataW.Trod enc P w base spare held t2 v2 d2 p2 ∧ DataW.Trod enc P w base spare held t3 v3 d3 p3 := by
  obtain ⟨v0, vs, d0, ds0, p0, q0, hargs, rfl, -, h0, r0⟩ := trodAll_cons h
  obtain ⟨v1, vs1, d1, ds1, p1, q1, rfl, rfl, -, h1, r1⟩ := trodAll_cons r0
  obtain ⟨v2, vs2, d2, ds2, p2, q2, rfl, rfl, -, h2, r2⟩ := trodAll_cons r1
  obtain ⟨v3, vs3, d3, ds3, p3, q3, rfl, rfl, -, h3, r3⟩ := trodAll_cons r2
  obtain ⟨rfl, rfl, -⟩ := trodAll_nil r3
  exact ⟨v0, v1, v2, v3, d0, d1, d2, d3, p0, p1, p2, p3, by cases args; simp_all, rfl, h0, h1, h2, h3⟩
theorem own : ownKnob Tryz.checked.prog.godebug = none := by kernel_rfl
set_option maxRecDepth 100000 in
theorem lifted (os : Os) (started : os.Started) (H : Type) (enc : TypeId × Value → H) :
    ReturnsInHanded {} Tryz.checked os 4 .any (fun w args => (Rows.pickCrossSpec.pre enc Tryz.prog Tryz.f4 [] false w args ∧ laidMetH Tryz.prog Rows.pickCrossRow.laid w) ∧ sizedMet enc Tryz.prog Tryz.f4 (OpenSpec.ofChange Rows.pickCrossSpec) false w args)
      (Rows.pickCrossSpec.post enc Tryz.prog Tryz.f4 false true false false) := by
  refine out.returnsInHanded_shaped (C := Tryz.checked) (X := fun w _ => laidMetH Tryz.prog Rows.pickCrossRow.laid w) (fun _ _ _ hh h => h.of_heap hh) own started (by kernel_rfl) Tryz.func4
    (ChangeSpec.witness_shaped (enc := enc) (C := Tryz.checked) (os := os) (X := fun w _ => laidMetH Tryz.prog Rows.pickCrossRow.laid w) false (World.doorLaid Tryz.prog 400 os) #[.slice none 0 0, .int .i64 0, .int .i64 0, .int .i64 0] 8 rfl (World.shaped_of_RefB (by kernel_rfl) (by kernel_rfl)) (by kernel_rfl) (by kernel_rfl) (by kernel_rfl) (door_met os _)) ?_
  intro W base args ds gs before hval0 hW _ _ hL hsh _
  have hval : ∀ (j : Nat) t v, Tryz.f4.params[j]? = some t → args[j]? = some v → Value.okWide Tryz.prog W .any base t v := hval0
  have hW' := hW
  obtain ⟨p, q, hA0, hV, rfl, hfz, hnd⟩ := hW
  have hAft : ∀ W', Below W.heap.size W W' → DataW.TrodAll enc Tryz.prog W' 0 (fun b => decide (b < W.heap.size)) true Tryz.f4.params.toList args.toList ds p := fun W' hb => out.trodAll_after laid_out maps_rowed slices_full params_in hA0 hb
  have hA : DataW.TrodAll enc Tryz.prog W 0 (fun _ => true) true Tryz.f4.params.toList args.toList ds p := hA0
  rw [Tryz.params4] at hA hval
  obtain ⟨v0, v1, v2, v3, d0, d1, d2, d3, p0, p1, p2, p3, rfl, rfl, h0, h1, h2, h3⟩ := trodAll_four hA
  obtain ⟨rfl, rfl⟩ := trodVars_none hV
  obtain ⟨p, cap, T, rfl, hq, hqc, hTL, hTM, h64⟩ := so.open_tableB (hval 0 22 v0 rfl rfl) h0
  obtain ⟨x1, rfl, -, -, -⟩ := open_int Tryz.underlying3 (hval 1 3 v1 rfl rfl) h1
  obtain ⟨x2, rfl, -, -, -⟩ := open_int Tryz.underlying3 (hval 2 3 v2 rfl rfl) h2
  obtain ⟨x3, rfl, -, -, -⟩ := open_int Tryz.underlying3 (hval 3 3 v3 rfl rfl) h3
  clear hA0 hval0
  simp only [List.append_nil] at hW'
  have key : Calls Tryz.prog 4 #[.slice p T.q cap, .int .i64 x1, .int .i64 x2, .int .i64 x3] W fun e w' => e = .returned (.bool true) ∧ Below W.heap.size W w' := so.crossLaw_any T p cap x1 x2 x3 W hTM hq hTL h64 (err_of hL)
  refine key.mono fun e W' ⟨he, hg⟩ => ?_
  subst he
  exact ⟨_, rfl, _, _, _, [], _, [], hW', trodAll_mk1 (shut_bool Tryz.underlying4 _), hAft W' hg, rfl, hg.frame _, fun h => by cases h⟩
theorem row_holds : Rows.PickCrossSaid :=
  OpenClaim.holds_of_wide 4 Tryz.f4 rfl rfl rfl rfl rfl rfl rfl ⟨rfl, rfl, rfl, rfl, rfl⟩ rfl rfl rfl rfl rfl (by kernel_rfl) Tryz.func4 (by kernel_rfl)
    (of_decide_eq_true (by kernel_rfl)) (by unfold Func.isWrapper; first | (rw [if_pos (by decide +kernel)]; kernel_rfl) | (rw [if_neg (by decide +kernel)]; exact ⟨rfl, rfl⟩))
    (fun os started H enc _ => lifted os started H enc)
theorem card_holds : Rows.PickCrossCardSaid :=
  Claim7.holds_tied_plain_at .later [] [.data, .data, .data, .handle, .sentinel, .sentinel, .data] true Rows.pickCrossCard.stood.harness true
    row_holds (fun _ h => by cases h) (by kernel_rfl) (fun _ h => by cases h) pickCross_row_tie rfl ⟨rfl, rfl⟩ (by kernel_rfl) rfl
    (fun f fn hf hfn => by
      obtain rfl : f = 4 := Option.some.inj ((show Tryz.prog.funcNamed "sccsettle/scclaw3.PickCross" = some 4 by kernel_rfl).symm.trans hf) |>.symm
      obtain rfl : fn = Tryz.f4 := (Option.some.inj (Tryz.func4.symm.trans hfn)).symm
      exact ⟨by kernel_rfl, fun j t ht => by
        rw [Tryz.params4] at ht
        have hm : t ∈ [22, 3, 3, 3] := by simpa using Array.mem_of_getElem? ht
        have hall : ([22, 3, 3, 3].all fun u => !Tryz.prog.wantsStandIn u) = true := by kernel_rfl
        exact (show Tryz.prog.wantsStandIn t = false by simpa using List.all_eq_true.1 hall t hm)⟩)
    (by kernel_rfl)
#print axioms card_holds
end Go.Proofs.YtbiikodnfaeceaaGreatDoor.pkx

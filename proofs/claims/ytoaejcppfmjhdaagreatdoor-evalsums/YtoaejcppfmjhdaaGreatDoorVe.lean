/- Package eval: what SUM, MIN, MAX, COUNT and COUNTA come to, boxes among their arguments. Conditions: the package variables hold what the program lays; of the rest as each theorem says. -/
import Derived.Test.YtoaejcppfmjhdaaGreatDoorVc
import Derived.Test.YtoaejcppfmjhdaaGreatDoorUd
import Derived.Test.YtoaejcppfmjhdaaGreatDoorVa
import Derived.Test.YtoaejcppfmjhdaaGreatDoorVb
import Derived.Test.YtoaejcppfmjhdaaGreatDoorVd
import Derived.Test.YtoaejcppfmjhdaaGreatDoorQe
import Derived.Test.YtoaejcppfmjhdaaGreatDoorEw
import Derived.Test.YtoaejcppfmjhdaaGreatDoorLy
import Derived.Deep.RegionHeldLaw
import Derived.Deep.AppendLies
namespace Go.Proofs.YtoaejcppfmjhdaaGreatDoor.ov
open Go.RowKit
open ev (VV b2I)
theorem enters2 {K : Nat} {fn : Func} (h : Tryz.prog.funcs[K]? = some fn) (h1 : decide (fn.name = "runtime.NumGoroutine") = false) (h2 : fn.body.isNone = false) (v u : Value) (w : World) : Sem.run Tryz.prog (callFunc K #[v, u]) w = .ok (.enter K #[v, u]) w := by
  simp [callFunc, go_sem, h]
  rw [if_neg (of_decide_eq_false h1), if_neg (fun e => by rw [e] at h2; cases h2)]
/-- What an argument is: a value, or a box of the first column. -/
def AgW (w : World) (P : Nat → Prop) (mb : Nat) (t' : fm.T) (a : Ag) : Prop :=
  (a.box = false ∧ a.mb = none ∧ a.fc = 0 ∧ a.fr = 0 ∧ a.tc = 0 ∧ a.tr = 0 ∧ t'.kd ≠ 6 ∧ ∀ u, fm.Nd w P u t' → ev.Wo w mb u a.k a.n a.s) ∨
  (a.box = true ∧ ∃ r t : fm.Rf, t' = .nd 6 0 nul r t [] ∧ r.c = 1 ∧ t.c = 1 ∧ adr.isC 1 r.r = true ∧ adr.isC 1 t.r = true ∧ a.mb = some mb ∧ a.fc = 1 ∧ a.tc = 1 ∧ a.fr = min r.r t.r ∧ a.tr = max r.r t.r ∧ a.tr - a.fr + 1 = a.R ∧ (∀ i, i < a.R → (a.X i).i = i + 1) ∧
    ∀ (i : Nat) wx, i < a.R → Below w.heap.size w wx → (Instr.lookup 68 (.map (some mb)) (.agg #[.int .i64 1, .int .i64 (a.fr + i)]) false).run Tryz.prog wx = .ok (VV (a.X i).k (a.X i).n (a.X i).s) wx)
theorem isC_row {r : Int} (h : adr.isC 1 r = true) : 1 ≤ r ∧ r ≤ 99 := by
  unfold adr.isC at h
  simp at h
  exact h
theorem seq_many {w : World} {P : Nat → Prop} {mb : Nat} {ts : List fm.T} {p : Option Addr} {cc : Nat} {us : List Value} (hk : fm.Kids w P p ts.length cc us) (hlen : us.length = ts.length) (hs : ∀ (i : Nat) u t', us[i]? = some u → ts[i]? = some t' → fm.Nd w P u t') (h2 : ts.length ≤ 200)
    (A : Nat → Ag) (hA : ∀ (i : Nat) t', ts[i]? = some t' → AgW w P mb t' (A i)) (wz : World) (hbz : Below w.heap.size w wz) (Bc : Nat) (hBc : wz.heap[Bc]? = some (.cells #[.map (some mb), .slice p ts.length cc] 123 (0, 0))) :
    rb.SeqB Fence.wide 4 Tryz.prog 265 #[] #[.pointer (some ⟨Bc, 0, none⟩)] It.enc (KC wz.heap.size) (fun ys => ys = flatA A ts.length) (fun pre => pre <+: flatA A ts.length) (flatA A ts.length).length wz := by
  refine items_seq 4 (by omega) (.map (some mb)) p ts.length cc (by omega) A wz Bc hBc (fun i wu hi hu => ?_) (fun i wu hi hbox hu => ?_) (fun i hi hbox => ?_)
  · have hbu := bnext hbz hu hbz.size
    have ht := List.getElem?_eq_getElem hi
    have hAi := hA i _ ht
    generalize A i = a at *
    obtain ⟨bx, ak, an, az, mb', fc, fr, tc, tr, R, X⟩ := a
    unfold AgW at hAi
    dsimp only [Ag.g] at hAi ⊢
    rcases hAi with ⟨rfl, rfl, rfl, rfl, rfl, rfl, h6, -⟩ | ⟨rfl, r, t, hT, hr, ht1, hr1, ht2, rfl, rfl, rfl, rfl, rfl, -, -, -⟩
    · exact grid_no hk hlen hs (.map (some mb)) i hi (fun t' e => by rw [ht] at e; cases e; exact h6) wu hbu
    · obtain ⟨u, hu1⟩ : ∃ u, us[i]? = some u := ⟨us[i]'(by omega), List.getElem?_eq_getElem _⟩
      have hn := hs i u _ hu1 ht
      rw [hT] at hn
      cases hn with
      | @mk _ _ _ _ _ p1 m1 c1 us1 _ hk1 hl1 hs1 =>
        have := ev.grid_any hk hlen hs (some mb) i hi r t p1 m1 c1 hu1 (by rw [hr]; exact hr1) (by rw [ht1]; exact ht2) wu hbu
        rw [hr, ht1] at this
        simpa using this
  · have hbu := bnext hbz hu hbz.size
    have ht := List.getElem?_eq_getElem hi
    have hAi := hA i _ ht
    rcases hAi with ⟨-, -, -, -, -, -, -, hW⟩ | ⟨hb, -⟩
    · exact ev.value_any hk hlen hs (.map (some mb)) i hi _ _ _ (fun wt u hus hbu => hW u (hs i u _ hus ht) wt hbu) wu hbu
    · rw [hb] at hbox; cases hbox
  · have ht := List.getElem?_eq_getElem hi
    have hAi := hA i _ ht
    generalize A i = a at *
    obtain ⟨bx, ak, an, az, mb', fc, fr, tc, tr, R, X⟩ := a
    unfold AgW at hAi
    dsimp only [Ag.g] at hAi hbox ⊢
    subst hbox
    rcases hAi with ⟨hb, -⟩ | ⟨-, r, t, hT, hr, ht1, hr1, ht2, rfl, rfl, rfl, hfr, htr, hR, hX, hL⟩
    · cases hb
    · have e1 := isC_row hr1
      have e2 := isC_row ht2
      exact values_stops 3 (by omega) (some mb) 1 fr tr R (by omega) (by omega) (by omega) (by omega) hR (by omega) X hX wz (fun j wx hj hb => hL j wx hj (bnext hbz hb hbz.size))
/-- The first that is bad, or else what is handed over. -/
def fbN (xs : List It) (z : V3) : V3 := match xs.find? (fun x => !good nmV ctN x) with | some x => nmV x.k x.n x.s | none => z
theorem fbN_good {xs : List It} {z : V3} (h : ∀ y ∈ xs, good nmV ctN y = true) : fbN xs z = z := by
  unfold fbN
  rw [List.find?_eq_none.2 (fun y hy => by simp [h y hy])]
theorem findN {α : Type} (p : α → Bool) (pre : List α) (x : α) (t : List α) (h : ∀ y ∈ pre, p y = false) (hx : p x = true) : (pre ++ x :: t).find? p = some x := by
  induction pre with
  | nil => simp [hx]
  | cons a l ih => simp only [List.cons_append, List.find?_cons, h a (by simp)]; exact ih (fun y hy => h y (by simp [hy]))
theorem fbN_bad {xs : List It} {z : V3} {pre : List It} {x : It} (hp : pre ++ [x] <+: xs) (h : ∀ y ∈ pre, good nmV ctN y = true) (hx : good nmV ctN x = false) : fbN xs z = nmV x.k x.n x.s := by
  obtain ⟨t, rfl⟩ := hp
  unfold fbN
  rw [List.append_assoc, List.singleton_append, findN _ pre x t (fun y hy => by simp [h y hy]) (by simp [hx])]
section
variable {w : World} {P : Nat → Prop} {v : Value} {mb : Nat} {nm : ByteArray} {ts : List fm.T} (hN : fm.Nd w P v (.nd 9 0 nm .z .z ts)) (hE : fm.EnvW w)
  (h1 : 1 ≤ ts.length) (h2 : ts.length ≤ 200) (A : Nat → Ag) (hA : ∀ (i : Nat) t', ts[i]? = some t' → AgW w P mb t' (A i)) (hl : (flatA A ts.length).length ≤ 1000000)
include hN hE h1 h2 hA hl
set_option maxHeartbeats 1600000 in
theorem wo_num (K : Nat) (hEn : ∀ v wx, Sem.run Tryz.prog (callFunc K #[v]) wx = .ok (.enter K #[v]) wx)
    (HF : ∀ wx, Calls Tryz.prog 83 #[.string nm] wx fun e w' => ∃ b, e = .returned (fnM b) ∧ ManyN K b w' ∧ Below wx.heap.size wx w')
    (z : V3) (HW : ∀ wx v base, wx.ownsRow base 3 1 v (ovN nmV ctN (flatA A ts.length)).length ((ovN nmV ctN (flatA A ts.length)).map (Value.int .i64)) → Calls Tryz.prog K #[v] wx fun e w' => e = .returned (VV z.k z.n z.s) ∧ Below wx.heap.size wx w') :
    ev.Wo w mb v (fbN (flatA A ts.length) z).k (fbN (flatA A ts.length) z).n (fbN (flatA A ts.length) z).s := by
  intro w1 hbw
  cases hN with | @mk k0 n0 s0 r t' p q cc us ts' hk hlen hs =>
  have hq : q = ts.length := by have := hk.1; omega
  subst hq
  refine ev.wo_call (some mb) nm p ts.length cc _ _ _ w1 (fun wx hx => ?_)
  have hbx := bnext hbw hx hbw.size
  refine call_manyP (some mb) nm p ts.length (by omega) (by omega) (ManyN K) (fun b w w' h hb => h.below hb) cc (fbN (flatA A ts.length) z) wx HF (fun b wy hM hy => ?_)
  have hby := bnext hbx hy hbx.size
  obtain ⟨pc, pr, pw, hb1, hc, hr, hw⟩ := hM
  refine many1_any (.map (some mb)) p ts.length cc b pc pr pw _ wy hb1 (fun wz Bc hBc hz => ?_)
  have hbz := bnext hby hz hby.size
  exact over_nm nmV (flatA A ts.length) hl #[.pointer (some ⟨Bc, 0, none⟩)] K pc pr pw (fbN (flatA A ts.length) z) wz ((hz.block _ hc.lt).trans hc) ((hz.block _ hr.lt).trans hr) ((hz.block _ hw.lt).trans hw) hEn
    (seq_many hk hlen hs h2 A hA wz hbz Bc hBc)
    (fun k n s wu => ev.isBad_any k n s wu) (fun k wu => countsN_any k wu) (fun k n s wu hu => number_all k n s wu (hE.next (bnext hbz hu hbz.size)).f.env)
    (fun pre x hp hg hx => fbN_bad hp hg hx)
    (fun hg wu v hu hv => by rw [fbN_good hg]; exact HW wu v _ hv)
omit hE in
set_option maxHeartbeats 1600000 in
theorem wo_cnt (cn : It → Bool) (K : Nat) (hEn : ∀ v u wx, Sem.run Tryz.prog (callFunc K #[v, u]) wx = .ok (.enter K #[v, u]) wx)
    (HF : ∀ wx, Calls Tryz.prog 83 #[.string nm] wx fun e w' => ∃ b, e = .returned (fnM b) ∧ ManyC K b w' ∧ Below wx.heap.size wx w')
    (HC : ∀ x wx, Below w.heap.size w wx → Calls Tryz.prog K #[VV x.k x.n x.s, .bool x.b] wx fun e w' => e = .returned (.bool (cn x)) ∧ Below wx.heap.size wx w') :
    ev.Wo w mb v 1 (cntI cn (flatA A ts.length)) nul := by
  intro w1 hbw
  cases hN with | @mk k0 n0 s0 r t' p q cc us ts' hk hlen hs =>
  have hq : q = ts.length := by have := hk.1; omega
  subst hq
  refine ev.wo_call (some mb) nm p ts.length cc _ _ _ w1 (fun wx hx => ?_)
  have hbx := bnext hbw hx hbw.size
  refine call_manyP (some mb) nm p ts.length (by omega) (by omega) (ManyC K) (fun b w w' h hb => h.below hb) cc ⟨1, cntI cn (flatA A ts.length), nul⟩ wx HF (fun b wy hM hy => ?_)
  have hby := bnext hbx hy hbx.size
  obtain ⟨pc, hb1, hc⟩ := hM
  refine many1c_any (.map (some mb)) p ts.length cc b pc ⟨1, cntI cn (flatA A ts.length), nul⟩ wy hb1 (fun wz Bc hBc hz => ?_)
  have hbz := bnext hby hz hby.size
  exact many_cn cn (flatA A ts.length) hl #[.pointer (some ⟨Bc, 0, none⟩)] K pc wz ((hz.block _ hc.lt).trans hc) hEn (seq_many hk hlen hs h2 A hA wz hbz Bc hBc) (fun x wu hu => HC x wu (bnext hbz hu hbz.size))
end
abbrev nmSum : ByteArray := ⟨#[83, 85, 77]⟩
abbrev nmCount : ByteArray := ⟨#[67, 79, 85, 78, 84]⟩
abbrev nmCounta : ByteArray := ⟨#[67, 79, 85, 78, 84, 65]⟩
abbrev nmMin : ByteArray := ⟨#[77, 73, 78]⟩
abbrev nmMax : ByteArray := ⟨#[77, 65, 88]⟩
/-- The five names. -/
def nmJ : Nat → ByteArray
  | 0 => nmSum
  | 1 => nmCount
  | 2 => nmCounta
  | 3 => nmMin
  | _ => nmMax
/-- What each comes to. -/
def resJ (j : Nat) (xs : List It) : V3 := match j with
  | 0 => fbN xs (sumL (ovN nmV ctN xs))
  | 1 => ⟨1, cntI cnC xs, nul⟩
  | 2 => ⟨1, cntI cnF xs, nul⟩
  | 3 => fbN xs ⟨1, leastL (ovN nmV ctN xs), nul⟩
  | _ => fbN xs ⟨1, greatestL (ovN nmV ctN xs), nul⟩
theorem wo_five (j : Nat) (hj : j < 5) {w : World} {P : Nat → Prop} {v : Value} {mb : Nat} {ts : List fm.T} (hN : fm.Nd w P v (.nd 9 0 (nmJ j) .z .z ts)) (hE : fm.EnvW w)
    (h1 : 1 ≤ ts.length) (h2 : ts.length ≤ 200) (A : Nat → Ag) (hA : ∀ (i : Nat) t', ts[i]? = some t' → AgW w P mb t' (A i)) (hl : (flatA A ts.length).length ≤ 1000000) (hB : ∀ n ∈ ovN nmV ctN (flatA A ts.length), B64 n) :
    ev.Wo w mb v (resJ j (flatA A ts.length)).k (resJ j (flatA A ts.length)).n (resJ j (flatA A ts.length)).s := by
  have hl' : (ovN nmV ctN (flatA A ts.length)).length ≤ 1000000 := Nat.le_trans (ovN_len _ _ _) hl
  match j, hj, hN with
  | 0, _, hN => exact wo_num hN hE h1 h2 A hA hl 155 (ev.enters Tryz.func155 (by kernel_rfl) (by kernel_rfl)) functionOf_sum _ (fun wx v base hv => sum_any _ hB base v wx hv hl')
  | 1, _, hN => exact wo_cnt hN h1 h2 A hA hl cnC 160 (enters2 Tryz.func160 (by kernel_rfl) (by kernel_rfl)) functionOf_count (fun x wx hb => counted_any x wx (hE.next hb).f.env)
  | 2, _, hN => exact wo_cnt hN h1 h2 A hA hl cnF 161 (enters2 Tryz.func161 (by kernel_rfl) (by kernel_rfl)) functionOf_counta (fun x wx _ => filled_any x wx)
  | 3, _, hN => exact wo_num hN hE h1 h2 A hA hl 156 (ev.enters Tryz.func156 (by kernel_rfl) (by kernel_rfl)) functionOf_min _ (fun wx v base hv => least_any _ base v wx hv hl')
  | 4, _, hN => exact wo_num hN hE h1 h2 A hA hl 157 (ev.enters Tryz.func157 (by kernel_rfl) (by kernel_rfl)) functionOf_max _ (fun wx v base hv => greatest_any _ base v wx hv hl')
end Go.Proofs.YtoaejcppfmjhdaaGreatDoor.ov
/- Package eval: Eval as a whole, of any node of which it is known what it comes to; a column of values. Conditions: the package variables as the program's text lays them; of the rest as each theorem says. -/
namespace Go.Proofs.YtoaejcppfmjhdaaGreatDoor.ev
open Go.RowKit
open fm (N12 ink)
/-- A look into the map of values. -/
theorem look_of {w wx : World} {mb : Nat} {f : Value → Option Value} (hE : EvW w mb f) (hb : Below w.heap.size w wx) {key v : Value} (h : f key = some v) : (Instr.lookup 68 (.map (some mb)) key false).run Tryz.prog wx = .ok v wx := by
  have hE' := hE.next hb
  obtain ⟨l, hl⟩ : ∃ l, keyOf Tryz.prog 23 key = some l := by
    obtain ⟨es, clock, -, h2, -, h4, -⟩ := hE'.map
    obtain ⟨e0, he0, hek⟩ := h4 _ _ h
    obtain ⟨l, hl⟩ := h2 e0 he0
    rw [hek] at hl
    exact ⟨l, hl⟩
  have := (mp.cm_lookup (et := 31) (mt := 68) key23 under68 (zero31 wx) hE'.map hl).1
  rw [h] at this
  exact this
set_option maxRecDepth 100000 in
set_option maxHeartbeats 4000000 in
theorem eval_gen {k n : Int} {s : ByteArray} {r t : fm.Rf} {p : Option Addr} {q c : Nat} {T0 : fm.T} (w : World) (hE : fm.EnvW w) (hN : In w (fm.NV k n s r t (.slice p q c)) T0) (hO : fm.Ok T0) (hC : fm.Ckd T0)
    (pl : Option Addr) (cl : Nat) (xs : List Sh) (hx : ShL w pl xs) (hok : ShOk xs) (hlen : xs.length ≤ 1000) {kr mr : Int} {zr : ByteArray} (hV : ∀ (w : World) (P : Nat → Prop) (v : Value) (mb : Nat), fm.Nd w P v T0 → EvW w mb (vals xs fun _ => none) → fm.EnvW w → Wo w mb v kr mr zr) :
    Calls Tryz.prog 9 #[fm.NV k n s r t (.slice p q c), .slice pl xs.length cl] w fun e w' => e = .returned (.tuple #[VV kr mr zr, .nilIface]) ∧ Below w.heap.size w w' := by
  have HCK : Hid (∀ wx, Below w.heap.size w wx → Calls Tryz.prog 27 #[fm.NV k n s r t (.slice p q c)] wx fun e w' => e = .returned .nilIface ∧ Below wx.heap.size wx w') := fun wx hb => by
    exact fm.check_yes wx (hE.next hb) (fun _ h => h) (hN.next hb) hO hC
  have HSH : Hid (∀ wx, Below w.heap.size w wx → Calls Tryz.prog 28 #[.slice pl xs.length cl] wx fun e w' => ∃ mb, e = .returned (.tuple #[.map (some mb), .nilIface]) ∧ mp.CM Tryz.prog 23 w' mb (vals xs fun _ => none) ∧ mb < w'.heap.size ∧ Below wx.heap.size wx w') := fun wx hb => by
    refine (sheetOf_any pl cl xs wx (hx.next hb) hok (by omega)).mono ?_
    rintro e w' ⟨rfl, h1, h2, h3⟩
    exact ⟨_, rfl, h1, h2, h3⟩
  have HWO : Hid (∀ wx mb, Below w.heap.size w wx → mp.CM Tryz.prog 23 wx mb (vals xs fun _ => none) → mb < wx.heap.size → Calls Tryz.prog 29 #[.map (some mb), fm.NV k n s r t (.slice p q c)] wx fun e w' => e = .returned (VV kr mr zr) ∧ Below wx.heap.size wx w') := fun wx mb hb hm hl => by
    have hE' := hE.next hb
    exact hV wx _ _ mb (hN.next hb) ⟨hm, hl, hE'.m, by have := hE'.lt; omega⟩ hE' wx (Below.refl _ _)
  obtain ⟨hA, hR⟩ := two_new w (.cells (N12 k n s r t (.slice p q c)) 28) (.cells #[.int .i64 0, .int .i64 0, .string nul] 31)
  have hbW : Below w.heap.size w ((w.alloc (.cells (N12 k n s r t (.slice p q c)) 28)).alloc (.cells #[.int .i64 0, .int .i64 0, .string nul] 31)) := ((Below.refl _ _).alloc (Nat.le_refl _) _).alloc (by simp) _
  obtain ⟨⟨a0, a1, a2, a3, a4, a5, a6, a7, a8, a9, a10, a11⟩, -⟩ := fm.cells12 hA
  have HR : Hid (∀ wx, Below ((w.alloc (.cells (N12 k n s r t (.slice p q c)) 28)).alloc (.cells #[.int .i64 0, .int .i64 0, .string nul] 31)).heap.size ((w.alloc (.cells (N12 k n s r t (.slice p q c)) 28)).alloc (.cells #[.int .i64 0, .int .i64 0, .string nul] 31)) wx → wx.heap[w.heap.size]? = some (.cells (N12 k n s r t (.slice p q c)) 28 (0, 0)) ∧ wx.heap[w.heap.size + 1]? = some (.cells #[.int .i64 0, .int .i64 0, .string nul] 31 (0, 0)) ∧ Below w.heap.size w wx) := fun wx h => ⟨(h.block _ (fm.lt_blk hA)).trans hA, (h.block _ (fm.lt_blk hR)).trans hR, bnext hbW h hbW.size⟩
  have HB0 : Hid (Below w.heap.size w ((w.alloc (.cells (N12 k n s r t (.slice p q c)) 28)).alloc (.cells #[.int .i64 0, .int .i64 0, .string nul] 31))) := hbW
  clear hA hR hbW hE hN hO hC hx hok hlen hV
  go_enter Tryz.func9, Tryz.ntmps9
  go_wp2_with fail
  refine (HCK.out _ HB0.out).mono ?_
  clear a0 a1 a2 a3 a4 a5 a6 a7 a8 a9 a10 a11
  rintro e w1 ⟨rfl, hb1⟩
  have HB1 : Hid (Below ((w.alloc (.cells (N12 k n s r t (.slice p q c)) 28)).alloc (.cells #[.int .i64 0, .int .i64 0, .string nul] 31)).heap.size ((w.alloc (.cells (N12 k n s r t (.slice p q c)) 28)).alloc (.cells #[.int .i64 0, .int .i64 0, .string nul] 31)) w1) := hb1
  clear hb1
  go_wp2_with fail
  refine (HSH.out _ (HR.out _ HB1.out).2.2).mono ?_
  rintro e w2 ⟨mb, rfl, hm, hlt, hb2⟩
  have HM : Hid (mp.CM Tryz.prog 23 w2 mb (vals xs fun _ => none) ∧ mb < w2.heap.size) := ⟨hm, hlt⟩
  have HB2 : Hid (Below ((w.alloc (.cells (N12 k n s r t (.slice p q c)) 28)).alloc (.cells #[.int .i64 0, .int .i64 0, .string nul] 31)).heap.size ((w.alloc (.cells (N12 k n s r t (.slice p q c)) 28)).alloc (.cells #[.int .i64 0, .int .i64 0, .string nul] 31)) w2) := bnext HB1.out hb2 HB1.out.size
  obtain ⟨⟨a0, a1, a2, a3, a4, a5, a6, a7, a8, a9, a10, a11⟩, -⟩ := fm.cells12 (HR.out _ HB2.out).1
  clear hm hlt hb2 HB1
  go_wp2_with fail
  refine (HWO.out _ mb (HR.out _ HB2.out).2.2 HM.out.1 HM.out.2).mono ?_
  clear a0 a1 a2 a3 a4 a5 a6 a7 a8 a9 a10 a11
  rintro e w3 ⟨rfl, hb3⟩
  obtain ⟨-, hq1, hb4⟩ := HR.out w3 (bnext HB2.out hb3 HB2.out.size)
  have HB : Hid (Below w.heap.size w w3) := hb4
  obtain ⟨c0, c1, c2⟩ := cells3v hq1
  have f0 : ∀ o, w3.frozen? ⟨w.heap.size + 1, o, none⟩ = false := frz hq1
  have HQ1 : Hid (w3.heap[w.heap.size + 1]? = some (.cells #[.int .i64 0, .int .i64 0, .string nul] 31 (0, 0))) := hq1
  clear hq1 hb3 hb4 HR HB2 HM HWO HSH HCK HB0
  go_wp2_with fail
  refine fin3 HQ1.out (Q := bodyPost _ _ _ _ _) ?_
  clear c0 c1 c2 f0
  intro w4 hq4 hk4
  obtain ⟨d0, d1, d2⟩ := cells3v hq4
  exact bodyPost_ret (v := .tuple #[VV kr mr zr, .nilIface]) (by simp [results, Tryz.results9, go_sem, d0, d1, d2]) rfl ⟨rfl, HB.out.trans (hk4 _ (by omega))⟩
set_option maxRecDepth 100000 in
set_option maxHeartbeats 4000000 in
theorem works_gen {k n : Int} {s : ByteArray} {r t : fm.Rf} {p : Option Addr} {q c : Nat} {T0 : fm.T} (w : World) (hE : fm.EnvW w) (hN : In w (fm.NV k n s r t (.slice p q c)) T0) (hO : fm.Ok T0) (hC : fm.Ckd T0)
    (pl : Option Addr) (cl : Nat) (xs : List Sh) (hx : ShL w pl xs) (hok : ShOk xs) (hlen : xs.length ≤ 1000) {kr mr : Int} {zr : ByteArray} (hV : ∀ (w : World) (P : Nat → Prop) (v : Value) (mb : Nat), fm.Nd w P v T0 → EvW w mb (vals xs fun _ => none) → fm.EnvW w → Wo w mb v kr mr zr) :
    Calls Tryz.prog 14 #[fm.NV k n s r t (.slice p q c), .slice pl xs.length cl] w fun e w' => e = .returned (.tuple #[VV kr mr zr, .bool true]) ∧ Below w.heap.size w w' := by
  have HEV : Hid (∀ wx, Below w.heap.size w wx → Calls Tryz.prog 9 #[fm.NV k n s r t (.slice p q c), .slice pl xs.length cl] wx fun e w' => e = .returned (.tuple #[VV kr mr zr, .nilIface]) ∧ Below wx.heap.size wx w') := fun wx hb =>
    eval_gen wx (hE.next hb) (hN.next hb) hO hC pl cl xs (hx.next hb) hok hlen hV
  obtain ⟨hA, hR⟩ := two_new w (.cells (N12 k n s r t (.slice p q c)) 28) (.cells #[.int .i64 0, .int .i64 0, .string nul] 31)
  have hbW : Below w.heap.size w ((w.alloc (.cells (N12 k n s r t (.slice p q c)) 28)).alloc (.cells #[.int .i64 0, .int .i64 0, .string nul] 31)) := ((Below.refl _ _).alloc (Nat.le_refl _) _).alloc (by simp) _
  obtain ⟨⟨a0, a1, a2, a3, a4, a5, a6, a7, a8, a9, a10, a11⟩, -⟩ := fm.cells12 hA
  have HR : Hid (∀ wx, Below ((w.alloc (.cells (N12 k n s r t (.slice p q c)) 28)).alloc (.cells #[.int .i64 0, .int .i64 0, .string nul] 31)).heap.size ((w.alloc (.cells (N12 k n s r t (.slice p q c)) 28)).alloc (.cells #[.int .i64 0, .int .i64 0, .string nul] 31)) wx → wx.heap[w.heap.size + 1]? = some (.cells #[.int .i64 0, .int .i64 0, .string nul] 31 (0, 0)) ∧ Below w.heap.size w wx) := fun wx h => ⟨(h.block _ (fm.lt_blk hR)).trans hR, bnext hbW h hbW.size⟩
  have HB0 : Hid (Below w.heap.size w ((w.alloc (.cells (N12 k n s r t (.slice p q c)) 28)).alloc (.cells #[.int .i64 0, .int .i64 0, .string nul] 31))) := hbW
  clear hA hR hbW hE hN hO hC hx hok hlen hV
  go_enter Tryz.func14, Tryz.ntmps14
  go_wp2_with fail
  refine (HEV.out _ HB0.out).mono ?_
  clear a0 a1 a2 a3 a4 a5 a6 a7 a8 a9 a10 a11
  rintro e w1 ⟨rfl, hb1⟩
  obtain ⟨V1, hV1⟩ : ∃ V1, V1 = w1.alloc (.cells #[.int .i64 kr, .int .i64 mr, .string zr] 31) := ⟨_, rfl⟩
  have hbv : Below w1.heap.size w1 V1 := by rw [hV1]; exact (Below.refl _ _).alloc (Nat.le_refl _) _
  obtain ⟨hq1, hb4⟩ := HR.out V1 (bnext hb1 hbv hb1.size)
  have hv0 : V1.heap[w1.heap.size]? = some (.cells #[.int .i64 kr, .int .i64 mr, .string zr] 31 (0, 0)) := by rw [hV1]; exact heap_alloc_new _ _
  have HB : Hid (Below w.heap.size w V1) := hb4
  obtain ⟨v0, v1, v2⟩ := cells3v hv0
  obtain ⟨c0, c1, c2⟩ := cells3v hq1
  have f0 : ∀ o, V1.frozen? ⟨w.heap.size + 1, o, none⟩ = false := frz hq1
  have HQ1 : Hid (V1.heap[w.heap.size + 1]? = some (.cells #[.int .i64 0, .int .i64 0, .string nul] 31 (0, 0))) := hq1
  have HVV : Hid (w1.alloc (.cells #[.int .i64 kr, .int .i64 mr, .string zr] 31) = V1) := hV1.symm
  rw [hV1] at v0 v1 v2 c0 c1 c2 f0
  clear hq1 hb1 hb4 hbv hv0 HR HEV HB0 hV1
  go_wp2_with fail
  go_region
  all_goals
    go_wp2_with fail
    rw [HVV.out] at *
    refine fin3 (w := World.drew V1) (t := 31) HQ1.out (Q := bodyPost _ _ _ _ _) ?_
    clear c0 c1 c2 f0
    intro w4 hq4 hk4
    obtain ⟨d0, d1, d2⟩ := cells3v hq4
    exact bodyPost_ret (v := .tuple #[VV kr mr zr, .bool true]) (by simp [results, Tryz.results14, go_sem, d0, d1, d2]) rfl ⟨rfl, HB.out.drew.trans (hk4 _ (by omega))⟩
/-- A list of values that was handed in. -/
def VM (w : World) (p : Option Addr) (q : Nat) (k m : Nat → Int) (z : Nat → ByteArray) : Prop :=
  q = 0 ∨ ∃ g o, p = some ⟨g, o, none⟩ ∧ g < w.heap.size ∧ ∀ i, i < q → w.cell? ⟨g, o + i * 3, none⟩ = some (.int .i64 (k i)) ∧ w.cell? ⟨g, o + i * 3 + 1, none⟩ = some (.int .i64 (m i)) ∧ w.cell? ⟨g, o + i * 3 + 2, none⟩ = some (.string (z i))
theorem VM.next {w w' : World} {p : Option Addr} {q : Nat} {k m : Nat → Int} {z : Nat → ByteArray} (h : VM w p q k m z) (hb : Below w.heap.size w w') : VM w' p q k m z := by
  rcases h with h | ⟨g, o, h1, h2, h3⟩
  · exact .inl h
  · refine .inr ⟨g, o, h1, Nat.lt_of_lt_of_le h2 hb.size, fun i hi => ?_⟩
    rw [hb.cell (p := ⟨g, _, none⟩) h2, hb.cell (p := ⟨g, _, none⟩) h2, hb.cell (p := ⟨g, _, none⟩) h2]
    exact h3 i hi
/-- Are all of the first so many values? -/
def allV (k m : Nat → Int) (z : Nat → ByteArray) : Nat → Bool
  | 0 => true
  | n + 1 => allV k m z n && vv.isVal (k n) (m n) (z n)
theorem allV_at {k m : Nat → Int} {z : Nat → ByteArray} {n : Nat} (h : allV k m z n = true) : ∀ i, i < n → vv.isVal (k i) (m i) (z i) = true := by
  induction n with
  | zero => intro i hi; omega
  | succ n ih =>
    unfold allV at h
    rw [Bool.and_eq_true] at h
    intro i hi
    by_cases e : i = n
    · subst e; exact h.2
    · exact ih h.1 i (by omega)
theorem allV_of {k m : Nat → Int} {z : Nat → ByteArray} {n : Nat} (h : ∀ i, i < n → vv.isVal (k i) (m i) (z i) = true) : allV k m z n = true := by
  induction n with
  | zero => rfl
  | succ n ih =>
    unfold allV
    rw [ih (fun i hi => h i (by omega)), h n (by omega)]
    rfl
/-- The cells of a column that is shown, as memory has them. -/
def colL (k m : Nat → Int) (z : Nat → ByteArray) : Nat → List Value
  | 0 => []
  | n + 1 => colL k m z n ++ [.int .i64 1, .int .i64 ((n : Int) + 1), .int .i64 (k n), .int .i64 (m n), .string (z n), .int .i64 0, .int .i64 0]
theorem own40 {w : World} {base n : Nat} {v : Value} {xs : List Value} (h : w.ownsRow base 40 7 v n xs) {w' : World} (hb : Below w.heap.size w w') : w'.ownsRow base 40 7 v n xs := by
  obtain ⟨h0, h | ⟨g, cap, cur, h1, h2, h3, h4⟩⟩ := h
  · exact ⟨h0, Or.inl h⟩
  · exact ⟨h0, Or.inr ⟨g, cap, cur, h1, h2, by rw [hb.block g (fm.lt_blk h3)]; exact h3, h4⟩⟩
abbrev Z7 : Array Value := #[.int .i64 0, .int .i64 0, .int .i64 0, .int .i64 0, .string nul, .int .i64 0, .int .i64 0]
theorem info40 : (Tryz.prog.info? 40).map (fun i => (i.zero, i.size, i.bytes)) = some (some (.agg Z7), 7, 64) := by kernel_rfl
set_option maxRecDepth 100000 in
set_option maxHeartbeats 4000000 in
theorem values_law (p : Option Addr) (q c : Nat) (hq : q ≤ 9223372036854775807) (k m : Nat → Int) (z : Nat → ByteArray) (w : World) (hv : VM w p q k m z) :
    Calls Tryz.prog 16 #[.slice p q c, .int .i64 8] w fun e w' => e = .returned (.bool (decide (1 ≤ q) && decide (q ≤ 8) && allV k m z q)) ∧ Below w.heap.size w w' := by
  have HV : Hid (VM w p q k m z) := hv
  clear hv
  by_cases h8 : 8 < (q : Int)
  · rw [show (decide (1 ≤ q) && decide (q ≤ 8) && allV k m z q) = false from by rw [decide_eq_false (by omega : ¬ q ≤ 8)]; simp]
    go_enter Tryz.func16, Tryz.ntmps16
    go_wp2_with fail
    go_ret
    exact ⟨rfl, Below.refl _ _⟩
  by_cases h0 : q = 0
  · subst h0
    go_enter Tryz.func16, Tryz.ntmps16
    go_wp2_with fail
    go_ret
    exact ⟨rfl, Below.refl _ _⟩
  obtain ⟨A, hA⟩ : ∃ A, allV k m z q = A := ⟨_, rfl⟩
  have HA : Hid (allV k m z q = A) := hA
  rw [show (decide (1 ≤ q) && decide (q ≤ 8) && allV k m z q) = A from by rw [decide_eq_true (by omega : 1 ≤ q), decide_eq_true (by omega : q ≤ 8), hA]; rfl]
  clear hA
  have hq0 : ¬ (q : Int) = 0 := by omega
  have HI : Hid (∀ a b c wx, Calls Tryz.prog 11 #[VV a b c] wx fun e w' => e = .returned (.bool (vv.isVal a b c)) ∧ Below wx.heap.size wx w') := fun a b c wx => vv.is_any a b c wx
  go_enter Tryz.func16, Tryz.ntmps16
  go_wp2_with fail
  go_loopw [5] (fun i wr => ∃ j : Nat, i = .int .i64 j ∧ j ≤ q ∧ Below w.heap.size w wr ∧ ∀ i, i < j → vv.isVal (k i) (m i) (z i) = true) (fun i _ => q - (intOf i).toNat)
  case atStart => exact ⟨0, rfl, Nat.zero_le _, Below.refl _ _, fun i hi => absurd hi (Nat.not_lt_zero _)⟩
  case round =>
    obtain ⟨j, rfl, hj, hbr, hd⟩ := hrel
    have HB : Hid (Below w.heap.size w wr) := hbr
    have HD : Hid (∀ i, i < j → vv.isVal (k i) (m i) (z i) = true) := hd
    clear hbr hd
    by_cases hlt : j < q
    · have hlt' : (j : Int) < (q : Int) := by omega
      have hj0 : (0 : Int) ≤ (j : Int) := by omega
      rcases HV.out.next HB.out with h | ⟨g, o, rfl, hg, h3⟩
      · omega
      obtain ⟨y0, y1, y2⟩ := h3 j hlt
      clear h3
      have HW := HI.out (k j) (m j) (z j) wr
      cases hb : vv.isVal (k j) (m j) (z j) with
      | true =>
        have HE : Hid (vv.isVal (k j) (m j) (z j) = true) := hb
        rw [hb] at HW
        clear hb
        go_wp2_with fail
        refine HW.mono ?_
        clear y0 y1 y2
        rintro e w1 ⟨rfl, hb1⟩
        have HB1 : Hid (Below w.heap.size w w1) := bnext HB.out hb1 HB.out.size
        clear hb1 HB
        go_wp2_with fail
        exact ⟨⟨j + 1, by simp, hlt, HB1.out, fun i hi => by
          by_cases e : i = j
          · subst e; exact HE.out
          · exact HD.out i (by omega)⟩, by simp [intOf]; omega⟩
      | false =>
        have HE : Hid (A = false) := by
          unfold Hid
          rw [← HA.out]
          cases h : allV k m z q with
          | false => rfl
          | true => have := allV_at h j hlt; rw [hb] at this; cases this
        rw [hb] at HW
        clear hb
        go_wp2_with fail
        refine HW.mono ?_
        clear y0 y1 y2
        rintro e w1 ⟨rfl, hb1⟩
        have HB1 : Hid (Below w.heap.size w w1) := bnext HB.out hb1 HB.out.size
        clear hb1 HB
        go_wp2_with fail
        go_ret
        exact ⟨by rw [HE.out]; rfl, HB1.out⟩
    · have hkn : q = j := by omega
      subst hkn
      go_wp2_with fail
      go_ret
      exact ⟨by rw [← HA.out, allV_of HD.out]; rfl, HB.out⟩
/-- A value in the list that was handed in, opened. -/
abbrev CY (w : World) (g o j : Nat) (a b : Int) (c : ByteArray) (wx : World) : Prop := wx.cell? ⟨g, o + j * 3, none⟩ = some (.int .i64 a) ∧ wx.cell? ⟨g, o + j * 3 + 1, none⟩ = some (.int .i64 b) ∧ wx.cell? ⟨g, o + j * 3 + 2, none⟩ = some (.string c) ∧ Below w.heap.size w wx
theorem cyb {w : World} {g o j : Nat} {a b : Int} {c : ByteArray} {wx : World} (h : CY w g o j a b c wx) : Below w.heap.size w wx := h.2.2.2
set_option maxRecDepth 100000 in
set_option maxHeartbeats 4000000 in
theorem column_law (p : Option Addr) (q c : Nat) (hq : q ≤ 90) (k m : Nat → Int) (z : Nat → ByteArray) (w : World) (hv : VM w p q k m z) :
    Calls Tryz.prog 17 #[.slice p q c] w fun e w' => (∃ v, e = .returned v ∧ w'.ownsRow w.heap.size 40 7 v q (colL k m z q)) ∧ Below w.heap.size w w' := by
  have HV : Hid (VM w p q k m z) := hv
  clear hv
  obtain ⟨i0, hi, hz0, hz1, hz2⟩ := info_parts info40
  have H19 : Hid (∀ c r wx, Calls Tryz.prog 19 #[.int .i64 c, .int .i64 r] wx fun e w' => e = .returned (.agg #[.int .i64 c, .int .i64 r]) ∧ Below wx.heap.size wx w') := lat
  go_enter Tryz.func17, Tryz.ntmps17
  go_wp2_with fail
  go_loopw [3, 4] (fun vl vi wr => ∃ j : Nat, vi = .int .i64 j ∧ j ≤ q ∧ wr.ownsRow w.heap.size 40 7 vl j (colL k m z j) ∧ Below w.heap.size w wr) (fun _ vi _ => q - (intOf vi).toNat)
  case atStart => exact ⟨0, rfl, Nat.zero_le _, ⟨rfl, .inl ⟨rfl, rfl⟩⟩, Below.refl _ _⟩
  case round =>
    obtain ⟨j, rfl, hj, hown, hbr⟩ := hrel
    by_cases hlt : j < q
    · have hlt' : (j : Int) < (q : Int) := by omega
      have hj0 : (0 : Int) ≤ (j : Int) := by omega
      have hj9 : (j : Int) ≤ 90 := by omega
      rcases HV.out with h | ⟨g, o, rfl, hg, h3⟩
      · omega
      have sof : ∀ wx, Below w.heap.size w wx → CY w g o j (k j) (m j) (z j) wx := fun wx hb => by
        obtain ⟨q0, q1, q2⟩ := h3 j hlt
        exact ⟨by rw [hb.cell (p := ⟨g, _, none⟩) hg]; exact q0, by rw [hb.cell (p := ⟨g, _, none⟩) hg]; exact q1, by rw [hb.cell (p := ⟨g, _, none⟩) hg]; exact q2, hb⟩
      have h0d := sof _ hbr.drew
      obtain ⟨y0, y1, y2, -⟩ := sof _ hbr
      have hod : wr.drew.ownsRow w.heap.size 40 7 u3 j (colL k m z j) := hown
      have hsz0 := hbr.size
      clear hown hbr h3
      go_upto_region 5 with fail
      go_region_held_law (fun wx => CY w g o j (k j) (m j) (z j) wx) (first | exact h0d | exact sof _ (bnext (cyb (by assumption)) (by assumption) (cyb (by assumption)).size) | exact sof _ (Below.alloc (cyb (by assumption)) (cyb (by assumption)).size _) | exact sof _ (by assumption)) (first | (go_at_call 19; refine (H19.out _ _ _).mono ?_; rintro e w1 ⟨rfl, hb1⟩; have hown1 := own40 hod hb1; have hB1 : Below w.heap.size w w1 := bnext (cyb h0d) hb1 (cyb h0d).size) | (refine step_append_lies _ rfl _ _ 29 rfl w.heap.size 40 i0 (.agg Z7) 7 64 Tryz.underlying29 hi hz0 hz1 hz2 rfl (by decide) u3 j (colL k m z j) rfl (hown1.alloc _) ⟨w1.heap.size, 0, none⟩ 1 1 [.int .i64 1, .int .i64 (IntKind.i64.wrap ((j : Int) + 1)), .int .i64 (k j), .int .i64 (m j), .string (z j), .int .i64 0, .int .i64 0] rfl rfl (World.news_of_block (heap_alloc_new w1 _)) (by simp [Value.oneCell']) (by decide) (by unfold maxLen; omega) (by omega) (by have := hB1.size; simp; omega) _ rfl ?_; intro g2 cap2 w3 hown3 hgrow hat hlt3; have hb3 : Below w.heap.size w w3 := (hB1.alloc hB1.size _).grown hgrow (by have := hB1.size; simp; omega) (fun q hq => (hown1.lt q hq).1)))
      all_goals
        rw [show IntKind.i64.wrap ((j : Int) + 1) = (j : Int) + 1 from by rw [IntKind.wrap_i64]; omega] at hown3
        have HO : Hid (w3.ownsRow w.heap.size 40 7 (.slice (some ⟨g2, 0, none⟩) (j + 1) cap2) (j + 1) (colL k m z (j + 1))) := hown3
        have HB : Hid (Below w.heap.size w w3) := hb3
        clear sof h0d y0 y1 y2 hod hown3 hb3 hgrow hat hlt3 hown1 hB1 hb1
        go_wp2_with fail
        exact ⟨⟨j + 1, by simp, hlt, HO.out, HB.out⟩, by simp [intOf]; omega⟩
    · have hkn : q = j := by omega
      subst hkn
      have HO : Hid (wr.ownsRow w.heap.size 40 7 u3 q (colL k m z q)) := hown
      have HB : Hid (Below w.heap.size w wr) := hbr
      clear hown hbr
      go_wp2_with fail
      go_ret
      exact ⟨⟨_, rfl, HO.out⟩, HB.out⟩
theorem ref_len (n : Nat) (h : n < 100) : (ink.ref ⟨1, (n : Int), false, false⟩).length ≤ 3 := by
  show (fm.dollar false ++ UInt8.ofNat (64 + (1 : Int).toNat) :: (fm.dollar false ++ Lib.decDigits (n : Int).toNat)).length ≤ 3
  have := adr.it_len (r := (n : Int).toNat) (by omega)
  simp [fm.dollar]
  simpa using this
/-- The column's cells. -/
def colS (k m : Nat → Int) (z : Nat → ByteArray) : Nat → List Sh
  | 0 => []
  | n + 1 => colS k m z n ++ [⟨1, (n : Int) + 1, k n, m n, z n⟩]
theorem colS_len (k m : Nat → Int) (z : Nat → ByteArray) (n : Nat) : (colS k m z n).length = n := by
  induction n with
  | zero => rfl
  | succ n ih => simp [colS, ih]
theorem colS_at {k m : Nat → Int} {z : Nat → ByteArray} {n i : Nat} {x : Sh} (h : (colS k m z n)[i]? = some x) : i < n ∧ x = ⟨1, (i : Int) + 1, k i, m i, z i⟩ := by
  induction n with
  | zero => simp [colS] at h
  | succ n ih =>
    simp only [colS] at h
    by_cases e : i < n
    · rw [List.getElem?_append_left (by rw [colS_len]; exact e)] at h
      exact ⟨by omega, (ih h).2⟩
    · rw [List.getElem?_append_right (by rw [colS_len]; omega), colS_len] at h
      have : i = n := by
        have := (List.getElem?_eq_some_iff.1 h).1
        simp at this; omega
      subst this
      simp at h
      exact ⟨by omega, h.symm⟩
theorem colL_flat (k m : Nat → Int) (z : Nat → ByteArray) (n : Nat) : colL k m z n = (colS k m z n).flatMap Sh.cells := by
  induction n with
  | zero => rfl
  | succ n ih => simp [colL, colS, ih, Sh.cells]
theorem vals_snoc (xs : List Sh) (x : Sh) (f : Value → Option Value) : vals (xs ++ [x]) f = mp.upd (vals xs f) x.key x.val := by
  induction xs generalizing f with
  | nil => rfl
  | cons y ys ih => simp only [List.cons_append, vals]; exact ih _
theorem key_ne2 {a b c d : Int} (h : b ≠ d) : (Value.agg #[.int .i64 a, .int .i64 b]) ≠ .agg #[.int .i64 c, .int .i64 d] := fun e => by
  injection e with e
  simp at e
  exact h e.2
theorem vals_col (k m : Nat → Int) (z : Nat → ByteArray) (n : Nat) : ∀ i, i < n → vals (colS k m z n) (fun _ => none) (.agg #[.int .i64 1, .int .i64 ((i : Int) + 1)]) = some (VV (k i) (m i) (z i)) := by
  induction n with
  | zero => intro i hi; omega
  | succ n ih =>
    intro i hi
    simp only [colS]
    rw [vals_snoc]
    by_cases e : i = n
    · subst e; exact mp.upd_same _ _ _
    · rw [mp.upd_other _ _ (key_ne2 (show ((i : Int) + 1) ≠ (n : Int) + 1 by omega))]; exact ih i (by omega)
theorem keys_all : ((List.range 90).all fun i => (keyOf Tryz.prog 23 (.agg #[.int .i64 1, .int .i64 ((i : Int) + 1)])).isSome) = true := by kernel_rfl
theorem key21 : (keyOf Tryz.prog 23 (.agg #[.int .i64 2, .int .i64 1])).isSome = true := by kernel_rfl
theorem flat_at (xs : List Sh) : ∀ (i : Nat) x, xs[i]? = some x → ∀ (j : Nat) v, x.cells[j]? = some v → (xs.flatMap Sh.cells)[i * 7 + j]? = some v := by
  induction xs with
  | nil => intro i x hx; simp at hx
  | cons y ys ih =>
    intro i x hx j v hv
    have hy : y.cells.length = 7 := rfl
    simp only [List.flatMap_cons]
    cases i with
    | zero =>
      simp at hx; subst hx
      have hj : j < 7 := by have := (List.getElem?_eq_some_iff.1 hv).1; omega
      rw [List.getElem?_append_left (by omega)]
      simpa using hv
    | succ i =>
      simp at hx
      rw [List.getElem?_append_right (by omega), show (i + 1) * 7 + j - y.cells.length = i * 7 + j from by omega]
      exact ih i x hx j v hv
theorem shl_own {w : World} {base g n cap : Nat} {xs : List Sh} (h : w.ownsRow base 40 7 (.slice (some ⟨g, 0, none⟩) n cap) n (xs.flatMap Sh.cells)) : ShL w (some ⟨g, 0, none⟩) xs := by
  obtain ⟨h0, ⟨h, -⟩ | ⟨g', cap', cur, h1, h2, h3, -, -, -, h7⟩⟩ := h
  · cases h
  · injection h1 with h1
    injection h1 with h1
    injection h1 with h1
    subst h1
    refine .inr ⟨g, 0, rfl, fm.lt_blk h3, fun i x hx j v hv => ?_⟩
    have := flat_at xs i x hx j v hv
    rw [← h7, List.getElem?_take] at this
    split at this
    · simp [World.cell?, h3]; simpa using this
    · cases this
theorem works_q {k n : Int} {s : ByteArray} {r t : fm.Rf} {p : Option Addr} {q c : Nat} {T0 : fm.T} (w : World) (hE : fm.EnvW w) (hN : In w (fm.NV k n s r t (.slice p q c)) T0) (hO : fm.Ok T0) (hC : fm.Ckd T0)
    (pl : Option Addr) (cl : Nat) (xs : List Sh) (hx : ShL w pl xs) (hok : ShOk xs) (hlen : xs.length ≤ 1000) {l : Nat} (hl : xs.length = l) {kr mr : Int} {zr : ByteArray} (hV : ∀ (w : World) (P : Nat → Prop) (v : Value) (mb : Nat), fm.Nd w P v T0 → EvW w mb (vals xs fun _ => none) → fm.EnvW w → Wo w mb v kr mr zr) :
    Calls Tryz.prog 14 #[fm.NV k n s r t (.slice p q c), .slice pl l cl] w fun e w' => e = .returned (.tuple #[VV kr mr zr, .bool true]) ∧ Below w.heap.size w w' := by
  subst hl; exact works_gen w hE hN hO hC pl cl xs hx hok hlen hV
end Go.Proofs.YtoaejcppfmjhdaaGreatDoor.ev
/- The law EvalSums: plain facts of sums and counts, its nodes and cells, and what its formulas are worked to. Conditions: the package variables as the program's text lays them; of the rest as each theorem says. -/
namespace Go.Proofs.YtoaejcppfmjhdaaGreatDoor.su
open Go.RowKit
open ev (VV In ShL ShOk Sh vals colS Ev EvW Wo)
open fm (T W ink Ok Rf NV N12)
open ov
open rk (inR fK fN f_yes f_no inR_iff)
/-! Sums and counts of a list that is cut in two. -/
def sumZ : List Int → Int
  | [] => 0
  | a :: l => a + sumZ l
theorem sumZ_app (a b : List Int) : sumZ (a ++ b) = sumZ a + sumZ b := by
  induction a with
  | nil => simp [sumZ]
  | cons x l ih => simp only [List.cons_append, sumZ, ih]; omega
theorem t8_one {a b : V3} (h : (t8 a b).k = 1) (ha : a.k = 1 ∨ a.k = 4) (hb : b.k = 1 ∨ b.k = 4) : a.k = 1 ∧ b.k = 1 ∧ t8 a b = ⟨1, a.n + b.n, nul⟩ := by
  unfold t8 at h ⊢
  rcases ha with ha | ha
  · rw [ha] at h ⊢
    rcases hb with hb | hb
    · rw [hb] at h ⊢
      cases hr : inR (a.n + b.n) with
      | true => rw [(f_yes hr).1, (f_yes hr).2]; exact ⟨rfl, rfl, rfl⟩
      | false => rw [(f_no hr).1] at h; simp at h
    · rw [hb] at h; simp at h; omega
  · rw [ha] at h; simp at h; omega
theorem fold_one : ∀ (l : List Int) (t : V3), (t.k = 1 ∨ t.k = 4) → (l.foldl (fun t n => t8 t ⟨1, n, nul⟩) t).k = 1 → t.k = 1 ∧ (t.s = nul → l.foldl (fun t n => t8 t ⟨1, n, nul⟩) t = ⟨1, t.n + sumZ l, nul⟩)
  | [], t, _, h => ⟨h, fun hs => by obtain ⟨k, n, s⟩ := t; simp only [List.foldl_nil] at h ⊢; simp only [sumZ] at *; subst h hs; simp⟩
  | n :: l, t, ht, h => by
    simp only [List.foldl_cons] at h ⊢
    have hk : (t8 t ⟨1, n, nul⟩).k = 1 ∨ (t8 t ⟨1, n, nul⟩).k = 4 := by
      unfold t8
      split
      · exact ht
      · split
        · exact .inl rfl
        · cases hr : inR (t.n + n) with
          | true => exact .inl (f_yes hr).1
          | false => exact .inr (f_no hr).1
    obtain ⟨h1, h2⟩ := fold_one l _ hk h
    obtain ⟨g1, -, g3⟩ := t8_one h1 ht (.inl rfl)
    refine ⟨g1, fun _ => ?_⟩
    rw [h2 (by rw [g3]), g3]
    simp only [sumZ, V3.mk.injEq, true_and, and_true]
    omega
theorem sum_one {l : List Int} (h : (sumL l).k = 1) : sumL l = ⟨1, sumZ l, nul⟩ := by
  have := (fold_one l ⟨1, 0, nul⟩ (.inl rfl) h).2 rfl
  unfold sumL
  simpa using this
/-- Items of boxes, of 64 bits. -/
def Bx (L : List It) : Prop := ∀ x ∈ L, x.b = true ∧ B64 x.n
theorem Bx.app {a b : List It} (ha : Bx a) (hb : Bx b) : Bx (a ++ b) := fun x hx => (List.mem_append.1 hx).elim (ha x) (hb x)
theorem bx_bad {x : It} (hb : x.b = true) (h : good nmV ctN x = false) : x.k = 4 ∧ nmV x.k x.n x.s = ⟨4, x.n, x.s⟩ := by
  obtain ⟨k, n, s, b⟩ := x
  dsimp only at hb
  subst hb
  unfold good skp ctN at h
  simp only [Bool.true_and, Bool.or_eq_false_iff, Bool.and_eq_false_iff, Bool.not_eq_false'] at h
  obtain ⟨h1, h2⟩ := h
  by_cases h4 : k = 4
  · subst h4; exact ⟨rfl, rfl⟩
  · have hk1 : k = 1 := by
      rcases h1 with h1 | h1
      · simp at h1; exact absurd h1 h4
      · simpa using h1
    subst hk1
    simp [nmV] at h2
theorem bx_in {L : List It} (h : Bx L) : ∀ n ∈ ovN nmV ctN L, B64 n := by
  intro n hn
  unfold ovN at hn
  obtain ⟨x, hx, rfl⟩ := List.mem_map.1 hn
  obtain ⟨hx1, hx2⟩ := List.mem_filter.1 hx
  obtain ⟨h1, h2⟩ := h x hx1
  obtain ⟨k, n, s, b⟩ := x
  dsimp only at h1 h2 hx2 ⊢
  subst h1
  unfold skp ctN at hx2
  by_cases h4 : k = 4
  · subst h4; exact h2
  · by_cases h1 : k = 1
    · subst h1; exact h2
    · exfalso; simp [h4, h1] at hx2
theorem fbN_cases (xs : List It) (z : V3) : ((∀ y ∈ xs, good nmV ctN y = true) ∧ fbN xs z = z) ∨ ∃ x ∈ xs, good nmV ctN x = false ∧ fbN xs z = nmV x.k x.n x.s := by
  unfold fbN
  cases h : xs.find? (fun x => !good nmV ctN x) with
  | none => exact .inl ⟨fun y hy => by have := List.find?_eq_none.1 h y hy; simpa using this, rfl⟩
  | some x => exact .inr ⟨x, List.mem_of_find?_eq_some h, by have := List.find?_some h; simpa using this, rfl⟩
theorem ovN_app (a b : List It) : ovN nmV ctN (a ++ b) = ovN nmV ctN a ++ ovN nmV ctN b := by simp [ovN]
theorem cnt_app (cn : It → Bool) (a b : List It) : cntI cn (a ++ b) = cntI cn a + cntI cn b := by simp [cntI]
theorem cnt_le (cn : It → Bool) (a : List It) : cntI cn a ≤ a.length := List.length_filter_le _ _
theorem res_ok {j : Nat} (hj : j ≤ 2) {L : List It} (h : Bx L) (hl : L.length ≤ 1000) : ((resJ j L).k = 1 ∨ (resJ j L).k = 4) ∧ B64 (resJ j L).n := by
  match j, hj with
  | 0, _ =>
    show ((fbN L _).k = 1 ∨ (fbN L _).k = 4) ∧ B64 (fbN L _).n
    rcases fbN_cases L (sumL (ovN nmV ctN L)) with ⟨-, e⟩ | ⟨x, hx, hg, e⟩
    · rw [e]; exact sumL_ok _ (bx_in h)
    · rw [e]
      obtain ⟨h1, h2⟩ := bx_bad (h x hx).1 hg
      rw [h2]
      exact ⟨.inr rfl, (h x hx).2⟩
  | 1, _ => have := cnt_le cnC L; exact ⟨.inl rfl, by show -9223372036854775808 ≤ ((cntI cnC L : Nat) : Int); omega, by show ((cntI cnC L : Nat) : Int) ≤ 9223372036854775807; omega⟩
  | 2, _ => have := cnt_le cnF L; exact ⟨.inl rfl, by show -9223372036854775808 ≤ ((cntI cnF L : Nat) : Int); omega, by show ((cntI cnF L : Nat) : Int) ≤ 9223372036854775807; omega⟩
theorem cut_two {j : Nat} (hj : j ≤ 2) {a b : List It} (ha : Bx a) (hb : Bx b) (la : a.length ≤ 1000) (lb : b.length ≤ 1000) (h1 : (t8 (resJ j a) (resJ j b)).k = 1) (h2 : (resJ j (a ++ b)).k = 1) : t8 (resJ j a) (resJ j b) = resJ j (a ++ b) := by
  obtain ⟨g1, g2, g3⟩ := t8_one h1 (res_ok hj ha la).1 (res_ok hj hb lb).1
  rw [g3]
  match j, hj with
  | 0, _ =>
    have e1 : (resJ 0 a) = fbN a (sumL (ovN nmV ctN a)) := rfl
    have e2 : (resJ 0 b) = fbN b (sumL (ovN nmV ctN b)) := rfl
    have e3 : (resJ 0 (a ++ b)) = fbN (a ++ b) (sumL (ovN nmV ctN (a ++ b))) := rfl
    rw [e1] at g1 ⊢
    rw [e2] at g2 ⊢
    rw [e3] at h2 ⊢
    rcases fbN_cases a (sumL (ovN nmV ctN a)) with ⟨p1, p2⟩ | ⟨x, hx, hg, p2⟩
    · rcases fbN_cases b (sumL (ovN nmV ctN b)) with ⟨q1, q2⟩ | ⟨x, hx, hg, q2⟩
      · have r2 := fbN_good (xs := a ++ b) (z := sumL (ovN nmV ctN (a ++ b))) (fun y hy => (List.mem_append.1 hy).elim (p1 y) (q1 y))
        rw [p2] at g1 ⊢
        rw [q2] at g2 ⊢
        rw [r2] at h2 ⊢
        rw [sum_one g1, sum_one g2, sum_one h2, ovN_app, sumZ_app]
      · rw [q2, (bx_bad (hb x hx).1 hg).2] at g2
        simp at g2
    · rw [p2, (bx_bad (ha x hx).1 hg).2] at g1
      simp at g1
  | 1, _ => show (⟨1, ((cntI cnC a : Nat) : Int) + ((cntI cnC b : Nat) : Int), nul⟩ : V3) = ⟨1, ((cntI cnC (a ++ b) : Nat) : Int), nul⟩; rw [cnt_app]; simp
  | 2, _ => show (⟨1, ((cntI cnF a : Nat) : Int) + ((cntI cnF b : Nat) : Int), nul⟩ : V3) = ⟨1, ((cntI cnF (a ++ b) : Nat) : Int), nul⟩; rw [cnt_app]; simp
/-! The nodes, and how they are written. -/
theorem commas_len {L : Nat} : ∀ (xs : List (List UInt8)), (∀ x ∈ xs, x.length ≤ L) → (fm.commas xs).length ≤ xs.length * (L + 1)
  | [], _ => by simp [fm.commas]
  | [x], h => by have := h x (by simp); simp [fm.commas]; omega
  | x :: y :: xs, h => by
    have h1 := h x (by simp)
    have h2 := commas_len (y :: xs) (fun z hz => h z (by simp at hz; simp [hz]))
    simp only [fm.commas, List.length_append, List.length_cons] at h2 ⊢
    have : (xs.length + 1 + 1) * (L + 1) = (xs.length + 1) * (L + 1) + (L + 1) := by rw [Nat.add_mul (xs.length + 1)]; omega
    omega
theorem fold_le {D : Nat} : ∀ (ds : List Nat), (∀ d ∈ ds, d ≤ D) → ds.foldr max 0 ≤ D
  | [], _ => by simp
  | d :: ds, h => by
    have h1 := h d (by simp)
    have h2 := fold_le ds (fun z hz => h z (by simp [hz]))
    simp only [List.foldr_cons]
    omega
/-- Written in so many bytes, in so many levels. -/
def Wr (t : T) (L D : Nat) : Prop := ∃ x d, W ink t x d ∧ x.length ≤ L ∧ d ≤ D
theorem wr_lists {L D : Nat} : ∀ (ts : List T), (∀ t ∈ ts, Wr t L D) → ∃ (xs : List (List UInt8)) (ds : List Nat), xs.length = ts.length ∧ ds.length = ts.length ∧ (∀ (i : Nat) t x d, ts[i]? = some t → xs[i]? = some x → ds[i]? = some d → W ink t x d) ∧ (∀ x ∈ xs, x.length ≤ L) ∧ (∀ d ∈ ds, d ≤ D)
  | [], _ => ⟨[], [], rfl, rfl, fun i t x d h => by simp at h, by simp, by simp⟩
  | t :: ts, h => by
    obtain ⟨x, d, h1, h2, h3⟩ := h t (by simp)
    obtain ⟨xs, ds, g1, g2, g3, g4, g5⟩ := wr_lists ts (fun u hu => h u (by simp [hu]))
    refine ⟨x :: xs, d :: ds, by simp [g1], by simp [g2], fun i u y e q1 q2 q3 => ?_, ?_, ?_⟩
    · cases i with
      | zero => simp at q1 q2 q3; subst q1 q2 q3; exact h1
      | succ i => simp at q1 q2 q3; exact g3 i u y e q1 q2 q3
    · intro y hy; rcases List.mem_cons.1 hy with rfl | hy
      · exact h2
      · exact g4 y hy
    · intro y hy; rcases List.mem_cons.1 hy with rfl | hy
      · exact h3
      · exact g5 y hy
theorem wr_call {nm : ByteArray} (hn : fm.isNm nm = true) {ts : List T} {L D : Nat} (h : ∀ t ∈ ts, Wr t L D) : Wr (.nd 9 0 nm .z .z ts) (nm.size + 2 + ts.length * (L + 1)) (D + 1) := by
  obtain ⟨xs, ds, g1, g2, g3, g4, g5⟩ := wr_lists ts h
  refine ⟨_, _, .call hn g1 g2 g3, ?_, by have := fold_le ds g5; omega⟩
  have := commas_len xs g4
  rw [g1] at this
  have e : nm.data.toList.length = nm.size := by simp
  simp only [List.length_append, List.length_cons, List.length_nil, e]
  omega
theorem wr_more {t : T} {L L' D D' : Nat} (h : Wr t L D) (h1 : L ≤ L') (h2 : D ≤ D') : Wr t L' D' := by
  obtain ⟨x, d, a, b, c⟩ := h
  exact ⟨x, d, a, by omega, by omega⟩
theorem cntL_le {C : Nat} : ∀ (ts : List T), (∀ t ∈ ts, t.cnt ≤ C) → fm.cntL ts ≤ ts.length * C
  | [], _ => by simp [fm.cntL]
  | t :: ts, h => by
    have h1 := h t (by simp)
    have h2 := cntL_le ts (fun u hu => h u (by simp [hu]))
    simp only [fm.cntL, List.length_cons, Nat.add_mul]
    omega
theorem ckd_wr {t : T} {L D : Nat} (h : Wr t L D) (h6 : t.kd ≠ 6) (hc : t.cnt ≤ 200) (hL : L + 1 ≤ 200) (hD : D ≤ 30) : fm.Ckd t := by
  obtain ⟨x, d, a, b, c⟩ := h
  exact ⟨x, d, a, h6, hc, by omega, by omega⟩
abbrev rB (a : Int) : Rf := ⟨1, a, false, false⟩
abbrev tB (a b : Int) : T := .nd 6 0 nul (rB a) (rB b) []
/-- A box of the column: its corners' rows, how many lie ahead of it, how many it has. -/
structure Bo where
  a : Int
  b : Int
  lo : Nat
  R : Nat
/-- It lies in a column of so many. -/
structure Bo.Ok (x : Bo) (n : Nat) : Prop where
  mn : min x.a x.b = (x.lo : Int) + 1
  mx : max x.a x.b = (x.lo : Int) + x.R
  le : x.lo + x.R ≤ n
  n : n ≤ 90
abbrev tsB (bs : List Bo) : List T := bs.map fun x => tB x.a x.b
abbrev tC (j : Nat) (bs : List Bo) : T := .nd 9 0 (nmJ j) .z .z (tsB bs)
theorem nmJ_ok (j : Nat) (hj : j < 5) : fm.isNm (nmJ j) = true ∧ (nmJ j).size ≤ 6 := by
  match j, hj with
  | 0, _ => exact ⟨by decide, by decide⟩
  | 1, _ => exact ⟨by decide, by decide⟩
  | 2, _ => exact ⟨by decide, by decide⟩
  | 3, _ => exact ⟨by decide, by decide⟩
  | 4, _ => exact ⟨by decide, by decide⟩
theorem bo_rows {x : Bo} {n : Nat} (h : x.Ok n) : 1 ≤ x.a ∧ x.a ≤ 90 ∧ 1 ≤ x.b ∧ x.b ≤ 90 := by
  have h1 := h.mn
  have h2 := h.mx
  have h3 := h.le
  have h4 := h.n
  omega
theorem isC_of {a : Int} (h1 : 1 ≤ a) (h2 : a ≤ 90) : adr.isC 1 a = true := by unfold adr.isC; simp; omega
theorem wr_ref {a : Int} (h1 : 1 ≤ a) (h2 : a ≤ 90) : (ink.ref (rB a)).length ≤ 3 := by
  obtain ⟨n, rfl⟩ : ∃ n : Nat, a = (n : Int) := ⟨a.toNat, by omega⟩
  exact ev.ref_len n (by omega)
theorem wr_B {x : Bo} {n : Nat} (h : x.Ok n) : Wr (tB x.a x.b) 7 0 := by
  obtain ⟨h1, h2, h3, h4⟩ := bo_rows h
  refine ⟨_, 0, .box (isC_of h1 h2) (isC_of h3 h4), ?_, by omega⟩
  have e1 := wr_ref h1 h2
  have e2 := wr_ref h3 h4
  simp only [List.length_append, List.length_cons]
  omega
theorem ok_C (j : Nat) {bs : List Bo} (hl : bs.length ≤ 2) : Ok (tC j bs) := .mk (by decide) (by rw [List.length_map]; omega) (fun i u hu => by
  rw [List.getElem?_map] at hu
  obtain ⟨x, -, rfl⟩ := Option.map_eq_some_iff.1 hu
  exact ev.ok_leaf (by decide))
theorem ckd_C {j : Nat} (hj : j < 5) {bs : List Bo} {n : Nat} (hl : bs.length ≤ 2) (hb : ∀ x ∈ bs, x.Ok n) : fm.Ckd (tC j bs) := by
  have hw : Wr (tC j bs) ((nmJ j).size + 2 + (tsB bs).length * (7 + 1)) (0 + 1) := wr_call (nmJ_ok j hj).1 (fun t ht => by
    obtain ⟨x, hx, rfl⟩ := List.mem_map.1 ht
    exact wr_B (hb x hx))
  have hc := cntL_le (C := 1) (tsB bs) (fun t ht => by
    obtain ⟨x, hx, rfl⟩ := List.mem_map.1 ht
    simp [fm.cnt_eq, fm.cntL])
  rw [List.length_map] at hw hc
  have := (nmJ_ok j hj).2
  exact ckd_wr hw (show (9 : Int) ≠ 6 by decide) (by rw [fm.cnt_eq]; omega) (by omega) (by omega)
/-! The cells, and what the formulas come to. -/
section
variable (k m : Nat → Int) (z : Nat → ByteArray)
def seg (lo : Nat) (i : Nat) : Nv := ⟨(i : Int) + 1, k (lo + i), m (lo + i), z (lo + i)⟩
abbrev agS (mb : Nat) (x : Bo) : Ag := ⟨true, 0, 0, nul, some mb, 1, (x.lo : Int) + 1, 1, (x.lo : Int) + x.R, x.R, seg k m z x.lo⟩
def sg (x : Bo) : List It := (List.range x.R).map fun i => ⟨k (x.lo + i), m (x.lo + i), z (x.lo + i), true⟩
def sgs (bs : List Bo) : List It := bs.flatMap (sg k m z)
def bo0 : Bo := ⟨0, 0, 0, 0⟩
abbrev agA (mb : Nat) (bs : List Bo) (i : Nat) : Ag := agS k m z mb (bs.getD i bo0)
theorem agL_S (mb : Nat) (x : Bo) : agL (agS k m z mb x) = sg k m z x := by
  unfold agL sg uptoN
  simp [seg, nvI]
theorem flat_sgs (mb : Nat) (bs : List Bo) : flatA (agA k m z mb bs) bs.length = sgs k m z bs := by
  have e : (List.range bs.length).map (fun i => bs.getD i bo0) = bs := by
    apply List.ext_getElem
    · simp
    · intro i h1 h2
      simp at h1
      simp [h1]
  unfold flatA sgs
  simp only [agL_S]
  conv => rhs; rw [← e]
  rw [List.flatMap_map]
theorem sg_len (x : Bo) : (sg k m z x).length = x.R := by simp [sg]
variable {k m z}
theorem sg_bx {x : Bo} {n : Nat} (hx : x.Ok n) (hm : ∀ i, i < n → B64 (m i)) : Bx (sg k m z x) := by
  intro y hy
  obtain ⟨i, hi, rfl⟩ := List.mem_map.1 hy
  exact ⟨rfl, hm _ (by have := hx.le; have := List.mem_range.1 hi; omega)⟩
theorem sgs_bx {bs : List Bo} {n : Nat} (hb : ∀ x ∈ bs, x.Ok n) (hm : ∀ i, i < n → B64 (m i)) : Bx (sgs k m z bs) := by
  intro y hy
  obtain ⟨x, hx, hy⟩ := List.mem_flatMap.1 hy
  exact sg_bx (hb x hx) hm y hy
theorem sgs_len2 {bs : List Bo} {n : Nat} (hb : ∀ x ∈ bs, x.Ok n) : (sgs k m z bs).length ≤ bs.length * 90 := by
  induction bs with
  | nil => simp [sgs]
  | cons x l ih =>
    have h1 := ih (fun y hy => hb y (by simp [hy]))
    have h2 := hb x (by simp)
    have h3 := h2.le
    have h4 := h2.n
    unfold sgs at h1 ⊢
    rw [List.flatMap_cons, List.length_append, sg_len, List.length_cons]
    omega
theorem len_sgs {bs : List Bo} {n : Nat} (hl : bs.length ≤ 2) (hb : ∀ x ∈ bs, x.Ok n) : (sgs k m z bs).length ≤ 1000000 := by
  have := sgs_len2 (k := k) (m := m) (z := z) hb
  omega
theorem wo_C {j : Nat} (hj : j < 5) {bs : List Bo} {n : Nat} (h1 : 1 ≤ bs.length) (hl : bs.length ≤ 2) (hb : ∀ x ∈ bs, x.Ok n) (hm : ∀ i, i < n → B64 (m i)) {w : World} {P : Nat → Prop} {v : Value} {mb : Nat} (hN : fm.Nd w P v (tC j bs)) (hV : EvW w mb (vals (colS k m z n) fun _ => none)) (hE : fm.EnvW w) :
    Wo w mb v (resJ j (sgs k m z bs)).k (resJ j (sgs k m z bs)).n (resJ j (sgs k m z bs)).s := by
  have hlen : (tsB bs).length = bs.length := List.length_map _
  have key := wo_five j hj hN hE (mb := mb) (by omega) (by omega) (agA k m z mb bs) (fun i t' ht => by
    rw [List.getElem?_map] at ht
    obtain ⟨x, hx, rfl⟩ := Option.map_eq_some_iff.1 ht
    have hxm : x ∈ bs := List.mem_of_getElem? hx
    have hd : bs.getD i bo0 = x := by rw [List.getD_eq_getElem?_getD, hx]; rfl
    have hok := hb x hxm
    obtain ⟨r1, r2, r3, r4⟩ := bo_rows hok
    refine .inr ⟨rfl, rB x.a, rB x.b, rfl, rfl, rfl, isC_of r1 r2, isC_of r3 r4, rfl, rfl, rfl, ?_, ?_, ?_, ?_, ?_⟩
    · show ((bs.getD i bo0).lo : Int) + 1 = min x.a x.b
      rw [hd, hok.mn]
    · show ((bs.getD i bo0).lo : Int) + ((bs.getD i bo0).R : Int) = max x.a x.b
      rw [hd, hok.mx]
    · show ((bs.getD i bo0).lo : Int) + ((bs.getD i bo0).R : Int) - (((bs.getD i bo0).lo : Int) + 1) + 1 = ((bs.getD i bo0).R : Int)
      omega
    · intro i' _; rfl
    · intro i' wx hi' hbw
      show (Instr.lookup 68 (.map (some mb)) (.agg #[.int .i64 1, .int .i64 ((((bs.getD i bo0).lo : Int) + 1) + (i' : Int))]) false).run Tryz.prog wx = .ok (VV (k ((bs.getD i bo0).lo + i')) (m ((bs.getD i bo0).lo + i')) (z ((bs.getD i bo0).lo + i'))) wx
      have hi2 : i' < (bs.getD i bo0).R := hi'
      rw [hd] at hi2 ⊢
      have := ev.vals_col k m z n (x.lo + i') (by have := hok.le; omega)
      rw [show (((x.lo : Int) + 1) + (i' : Int)) = (((x.lo + i' : Nat) : Int) + 1) by omega]
      exact ev.look_of hV hbw this) (by rw [hlen, flat_sgs]; exact len_sgs hl hb) (by rw [hlen, flat_sgs]; exact bx_in (sgs_bx hb hm))
  rw [hlen, flat_sgs] at key
  exact key
end
end Go.Proofs.YtoaejcppfmjhdaaGreatDoor.su
/- The law EvalSums: what its formulas are worked to. Conditions: the package variables as the program's text lays them; of the rest as each theorem says. -/
namespace Go.Proofs.YtoaejcppfmjhdaaGreatDoor.ev
open Go.RowKit
open fm (N12 ink)
set_option maxRecDepth 100000 in
set_option maxHeartbeats 4000000 in
theorem values90 (p : Option Addr) (q c : Nat) (hq : q ≤ 9223372036854775807) (k m : Nat → Int) (z : Nat → ByteArray) (w : World) (hv : VM w p q k m z) :
    Calls Tryz.prog 16 #[.slice p q c, .int .i64 90] w fun e w' => e = .returned (.bool (decide (1 ≤ q) && decide (q ≤ 90) && allV k m z q)) ∧ Below w.heap.size w w' := by
  have HV : Hid (VM w p q k m z) := hv
  clear hv
  by_cases h90 : 90 < (q : Int)
  · rw [show (decide (1 ≤ q) && decide (q ≤ 90) && allV k m z q) = false from by rw [decide_eq_false (by omega : ¬ q ≤ 90)]; simp]
    go_enter Tryz.func16, Tryz.ntmps16
    go_wp2_with fail
    go_ret
    exact ⟨rfl, Below.refl _ _⟩
  by_cases h0 : q = 0
  · subst h0
    go_enter Tryz.func16, Tryz.ntmps16
    go_wp2_with fail
    go_ret
    exact ⟨rfl, Below.refl _ _⟩
  obtain ⟨A, hA⟩ : ∃ A, allV k m z q = A := ⟨_, rfl⟩
  have HA : Hid (allV k m z q = A) := hA
  rw [show (decide (1 ≤ q) && decide (q ≤ 90) && allV k m z q) = A from by rw [decide_eq_true (by omega : 1 ≤ q), decide_eq_true (by omega : q ≤ 90), hA]; rfl]
  clear hA
  have hq0 : ¬ (q : Int) = 0 := by omega
  have HI : Hid (∀ a b c wx, Calls Tryz.prog 11 #[VV a b c] wx fun e w' => e = .returned (.bool (vv.isVal a b c)) ∧ Below wx.heap.size wx w') := fun a b c wx => vv.is_any a b c wx
  go_enter Tryz.func16, Tryz.ntmps16
  go_wp2_with fail
  go_loopw [5] (fun i wr => ∃ j : Nat, i = .int .i64 j ∧ j ≤ q ∧ Below w.heap.size w wr ∧ ∀ i, i < j → vv.isVal (k i) (m i) (z i) = true) (fun i _ => q - (intOf i).toNat)
  case atStart => exact ⟨0, rfl, Nat.zero_le _, Below.refl _ _, fun i hi => absurd hi (Nat.not_lt_zero _)⟩
  case round =>
    obtain ⟨j, rfl, hj, hbr, hd⟩ := hrel
    have HB : Hid (Below w.heap.size w wr) := hbr
    have HD : Hid (∀ i, i < j → vv.isVal (k i) (m i) (z i) = true) := hd
    clear hbr hd
    by_cases hlt : j < q
    · have hlt' : (j : Int) < (q : Int) := by omega
      have hj0 : (0 : Int) ≤ (j : Int) := by omega
      rcases HV.out.next HB.out with h | ⟨g, o, rfl, hg, h3⟩
      · omega
      obtain ⟨y0, y1, y2⟩ := h3 j hlt
      clear h3
      have HW := HI.out (k j) (m j) (z j) wr
      cases hb : vv.isVal (k j) (m j) (z j) with
      | true =>
        have HE : Hid (vv.isVal (k j) (m j) (z j) = true) := hb
        rw [hb] at HW
        clear hb
        go_wp2_with fail
        refine HW.mono ?_
        clear y0 y1 y2
        rintro e w1 ⟨rfl, hb1⟩
        have HB1 : Hid (Below w.heap.size w w1) := bnext HB.out hb1 HB.out.size
        clear hb1 HB
        go_wp2_with fail
        exact ⟨⟨j + 1, by simp, hlt, HB1.out, fun i hi => by
          by_cases e : i = j
          · subst e; exact HE.out
          · exact HD.out i (by omega)⟩, by simp [intOf]; omega⟩
      | false =>
        have HE : Hid (A = false) := by
          unfold Hid
          rw [← HA.out]
          cases h : allV k m z q with
          | false => rfl
          | true => have := allV_at h j hlt; rw [hb] at this; cases this
        rw [hb] at HW
        clear hb
        go_wp2_with fail
        refine HW.mono ?_
        clear y0 y1 y2
        rintro e w1 ⟨rfl, hb1⟩
        have HB1 : Hid (Below w.heap.size w w1) := bnext HB.out hb1 HB.out.size
        clear hb1 HB
        go_wp2_with fail
        go_ret
        exact ⟨by rw [HE.out]; rfl, HB1.out⟩
    · have hkn : q = j := by omega
      subst hkn
      go_wp2_with fail
      go_ret
      exact ⟨by rw [← HA.out, allV_of HD.out]; rfl, HB.out⟩
theorem lbox (a b c d : Int) (w : World) : Calls Tryz.prog 18 #[.agg #[.int .i64 a, .int .i64 b], .agg #[.int .i64 c, .int .i64 d]] w fun e w' => e = .returned (fm.NV 6 0 nul ⟨a, b, false, false⟩ ⟨c, d, false, false⟩ (.slice none 0 0)) ∧ Below w.heap.size w w' := by
  go_enter Tryz.func18, Tryz.ntmps18
  go_wp2_with fail
  exact bodyPost_ret (v := fm.NV 6 0 nul ⟨a, b, false, false⟩ ⟨c, d, false, false⟩ (.slice none 0 0)) (by simp [results, Tryz.results18, go_sem]) rfl ⟨rfl, by (repeat (first | exact Below.refl _ _ | assumption | (refine Below.setCell ?_ (by first | omega | (simp <;> omega)) _) | (refine Below.alloc ?_ (by first | omega | (simp <;> omega)) _) | (refine Below.drew ?_)))⟩
end Go.Proofs.YtoaejcppfmjhdaaGreatDoor.ev
namespace Go.Proofs.YtoaejcppfmjhdaaGreatDoor.su
open Go.RowKit
open ev (VV In ShL ShOk Sh vals colS Ev EvW Wo)
open fm (T W ink Ok Rf NV N12)
open ov
section
variable {k m : Nat → Int} {z : Nat → ByteArray} {n : Nat}
theorem colS_ok (hn : n ≤ 90) (hv : ∀ i, i < n → vv.isVal (k i) (m i) (z i) = true) : ShOk (colS k m z n) := by
  intro i x hx
  obtain ⟨hi, rfl⟩ := ev.colS_at hx
  refine ⟨?_, ?_, fun wx => vv.check_yes _ _ _ wx (hv i hi)⟩
  · show adr.isC 1 ((i : Int) + 1) = true
    unfold adr.isC; simp; omega
  · have := List.all_eq_true.1 ev.keys_all i (List.mem_range.2 (by omega))
    exact Option.isSome_iff_exists.1 this
theorem works_C {j : Nat} (hj : j < 5) {bs : List Bo} (h1 : 1 ≤ bs.length) (hl : bs.length ≤ 2) (hb : ∀ x ∈ bs, x.Ok n) (hn : n ≤ 90) (hm : ∀ i, i < n → B64 (m i)) (hv : ∀ i, i < n → vv.isVal (k i) (m i) (z i) = true) (w : World) (hE : fm.EnvW w) (pl : Option Addr) (cl : Nat) (hx : ShL w pl (colS k m z n))
    {p : Option Addr} {q c : Nat} (hN : In w (NV 9 0 (nmJ j) .z .z (.slice p q c)) (tC j bs)) :
    Calls Tryz.prog 14 #[NV 9 0 (nmJ j) .z .z (.slice p q c), .slice pl n cl] w fun e w' => e = .returned (.tuple #[VV (resJ j (sgs k m z bs)).k (resJ j (sgs k m z bs)).n (resJ j (sgs k m z bs)).s, .bool true]) ∧ Below w.heap.size w w' :=
  ev.works_q w hE hN (ok_C j hl) (ckd_C hj hl hb) pl cl (colS k m z n) hx (colS_ok hn hv) (by rw [ev.colS_len]; omega) (ev.colS_len k m z n) (fun _ _ _ _ hN' hV hE' => wo_C hj h1 hl hb hm hN' hV hE')
end
/-! The first fact. -/
abbrev tNm (n : Int) : T := .nd 1 n nul .z .z []
abbrev tF : T := .nd 9 0 (nmJ 0) .z .z [tNm 2, tNm 3]
abbrev agN (n : Int) : Ag := ⟨false, 1, n, nul, none, 0, 0, 0, 0, 0, fun _ => ⟨0, 0, 0, nul⟩⟩
def agF (i : Nat) : Ag := match i with
  | 0 => agN 2
  | _ => agN 3
theorem flat_F : flatA agF 2 = [⟨1, 2, nul, false⟩, ⟨1, 3, nul, false⟩] := rfl
theorem res_F : resJ 0 (flatA agF 2) = ⟨1, 5, nul⟩ := by rw [flat_F]; rfl
theorem wo_F {f : Value → Option Value} {w : World} {P : Nat → Prop} {v : Value} {mb : Nat} (hN : fm.Nd w P v tF) (hV : EvW w mb f) (hE : fm.EnvW w) : Wo w mb v 1 5 nul := by
  have key := wo_five 0 (by omega) hN hE (mb := mb) (by simp) (by simp) agF (fun i t' ht => by
    match i, ht with
    | 0, ht => simp at ht; subst ht; exact .inl ⟨rfl, rfl, rfl, rfl, rfl, rfl, (show (1 : Int) ≠ 6 by decide), fun u hu => ev.wo_ev Ev.num w P u mb hu hV⟩
    | 1, ht => simp at ht; subst ht; exact .inl ⟨rfl, rfl, rfl, rfl, rfl, rfl, (show (1 : Int) ≠ 6 by decide), fun u hu => ev.wo_ev Ev.num w P u mb hu hV⟩
    | i + 2, ht => simp at ht) (by show (flatA agF 2).length ≤ _; rw [flat_F]; simp) (by
    show ∀ n ∈ ovN nmV ctN (flatA agF 2), B64 n
    rw [flat_F, show ovN nmV ctN [⟨1, 2, nul, false⟩, ⟨1, 3, nul, false⟩] = [2, 3] from rfl]
    intro n hn
    simp at hn
    rcases hn with rfl | rfl
    · exact ⟨by decide, by decide⟩
    · exact ⟨by decide, by decide⟩)
  have e : resJ 0 (flatA agF ([tNm 2, tNm 3] : List T).length) = ⟨1, 5, nul⟩ := res_F
  rw [e] at key
  exact key
theorem wr_N {n : Int} (h0 : 0 ≤ n) (h1 : n ≤ 9) : Wr (tNm n) 1 0 := by
  refine ⟨_, 0, .num h0 (by omega), ?_, by omega⟩
  have : n = 0 ∨ n = 1 ∨ n = 2 ∨ n = 3 ∨ n = 4 ∨ n = 5 ∨ n = 6 ∨ n = 7 ∨ n = 8 ∨ n = 9 := by omega
  rcases this with rfl | rfl | rfl | rfl | rfl | rfl | rfl | rfl | rfl | rfl <;> decide +kernel
theorem ckd_F : fm.Ckd tF := by
  have hw : Wr tF ((nmJ 0).size + 2 + ([tNm 2, tNm 3] : List T).length * (1 + 1)) (0 + 1) := wr_call (nmJ_ok 0 (by omega)).1 (fun t ht => by
    simp at ht
    rcases ht with rfl | rfl
    · exact wr_N (by decide) (by decide)
    · exact wr_N (by decide) (by decide))
  have := (nmJ_ok 0 (by omega)).2
  exact ckd_wr hw (show (9 : Int) ≠ 6 by decide) (by simp [fm.cnt_eq, fm.cntL]) (by simp at this ⊢; omega) (by omega)
/-- A block of nodes. -/
def NB (cs : Array Value) (wx : World) (g : Nat) : Prop := wx.heap[g]? = some (.cells cs 28 (0, 0))
abbrev cF : Array Value := #[.int .i64 1, .int .i64 2, .string nul, .int .i64 0, .int .i64 0, .bool false, .bool false, .int .i64 0, .int .i64 0, .bool false, .bool false, .slice none 0 0, .int .i64 1, .int .i64 3, .string nul, .int .i64 0, .int .i64 0, .bool false, .bool false, .int .i64 0, .int .i64 0, .bool false, .bool false, .slice none 0 0]
theorem works_F (w : World) (hE : fm.EnvW w) (g : Nat) (hg : NB cF w g) :
    Calls Tryz.prog 14 #[NV 9 0 nmSum .z .z (.slice (some ⟨g, 0, none⟩) 2 2), .slice none 0 0] w fun e w' => e = .returned (.tuple #[VV 1 5 nul, .bool true]) ∧ Below w.heap.size w w' :=
  ev.works_q w hE (ev.in2 (u := NV 1 2 nul .z .z (.slice none 0 0)) (v := NV 1 3 nul .z .z (.slice none 0 0)) hg rfl ev.in_leaf ev.in_leaf) (ev.ok2 (by decide) (ev.ok_leaf (by decide)) (ev.ok_leaf (by decide))) ckd_F none 0 [] (.inl rfl) (fun i x hx => by simp at hx) (by simp) rfl (fun _ _ _ _ hN hV hE => wo_F hN hV hE)
/-- A box's node in a block of its own, two in one. -/
abbrev cB (a b : Int) : Array Value := #[.int .i64 6, .int .i64 0, .string nul, .int .i64 1, .int .i64 a, .bool false, .bool false, .int .i64 1, .int .i64 b, .bool false, .bool false, .slice none 0 0]
abbrev cB2 (a b c d : Int) : Array Value := #[.int .i64 6, .int .i64 0, .string nul, .int .i64 1, .int .i64 a, .bool false, .bool false, .int .i64 1, .int .i64 b, .bool false, .bool false, .slice none 0 0, .int .i64 6, .int .i64 0, .string nul, .int .i64 1, .int .i64 c, .bool false, .bool false, .int .i64 1, .int .i64 d, .bool false, .bool false, .slice none 0 0]
theorem in_B {wx : World} {g : Nat} {j : Nat} {x : Bo} (h : wx.heap[g]? = some (.cells (cB x.a x.b) 28 (0, 0))) : In wx (NV 9 0 (nmJ j) .z .z (.slice (some ⟨g, 0, none⟩) 1 1)) (tC j [x]) :=
  ev.in1 (u := NV 6 0 nul (rB x.a) (rB x.b) (.slice none 0 0)) h rfl ev.in_leaf
theorem in_B2 {wx : World} {g : Nat} {j : Nat} {x y : Bo} (h : wx.heap[g]? = some (.cells (cB2 x.a x.b y.a y.b) 28 (0, 0))) : In wx (NV 9 0 (nmJ j) .z .z (.slice (some ⟨g, 0, none⟩) 2 2)) (tC j [x, y]) :=
  ev.in2 (u := NV 6 0 nul (rB x.a) (rB x.b) (.slice none 0 0)) (v := NV 6 0 nul (rB y.a) (rB y.b) (.slice none 0 0)) h rfl ev.in_leaf ev.in_leaf
abbrev cN : Array Value := #[.string nmSum, .string nmCount, .string nmCounta, .string nmMin, .string nmMax]
theorem names_at {wx : World} {g : Nat} (h : wx.heap[g]? = some (.cells cN 9 (0, 0))) (j : Nat) (hj : j < 5) : wx.cell? ⟨g, j, none⟩ = some (.string (nmJ j)) := by
  match j, hj with
  | 0, _ => simp [World.cell?, h, nmJ]
  | 1, _ => simp [World.cell?, h, nmJ]
  | 2, _ => simp [World.cell?, h, nmJ]
  | 3, _ => simp [World.cell?, h, nmJ]
  | 4, _ => simp [World.cell?, h, nmJ]
end Go.Proofs.YtoaejcppfmjhdaaGreatDoor.su

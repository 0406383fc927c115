/- Arguments are written one behind the other. Conditions: lengths below a million. -/
import Derived.Test.YtoebppmagkijjaaGreatDoorPl
namespace Go.Proofs.YtoebppmagkijjaaGreatDoor.fm
open Go.RowKit
theorem commas_app (a : List (List UInt8)) (x : List UInt8) : commas (a ++ [x]) = if a.length = 0 then x else commas a ++ 44 :: x := by
  cases a with
  | nil => rfl
  | cons y ys => rw [List.cons_append, commas_cons, commas_cons]; simp
theorem commas_le (a b : List (List UInt8)) : (commas a).length ≤ (commas (a ++ b)).length := by
  cases a with
  | nil => simp [commas]
  | cons y ys => rw [List.cons_append, commas_cons, commas_cons]; simp
theorem commas_take {xs : List (List UInt8)} {j : Nat} {x : List UInt8} (h : xs[j]? = some x) : commas (xs.take (j + 1)) = (if j = 0 then x else commas (xs.take j) ++ 44 :: x) ∧ (commas (xs.take (j + 1))).length ≤ (commas xs).length := by
  have hj := (List.getElem?_eq_some_iff.1 h).1
  refine ⟨?_, ?_⟩
  · rw [List.take_add_one, h]
    show commas (xs.take j ++ [x]) = _
    rw [commas_app, List.length_take, show min j xs.length = j from by omega]
  · have := commas_le (xs.take (j + 1)) (xs.drop (j + 1))
    rwa [List.take_append_drop] at this
theorem fold_take {ds : List Nat} {j d : Nat} (h : ds[j]? = some d) : (ds.take (j + 1)).foldr max 0 = max ((ds.take j).foldr max 0) d := by
  rw [List.take_add_one, h]
  exact foldr_snoc _ _
theorem fold_take_le (ds : List Nat) (j : Nat) : (ds.take j).foldr max 0 ≤ ds.foldr max 0 := by
  induction ds generalizing j with
  | nil => simp
  | cons a ds ih => cases j with
    | zero => simp
    | succ j => have := ih j; simp only [List.take_succ_cons, List.foldr_cons]; omega
set_option maxHeartbeats 4000000 in
set_option maxRecDepth 100000 in
theorem args_any (w0 : World) {P : Nat → Prop} {p : Option Addr} {q c : Nat} {us : List Value} {ts : List T} {xs : List (List UInt8)} {ds : List Nat} (hk : Kids w0 P p q c us) (hl : us.length = ts.length) (hs : ∀ (i : Nat) u t', us[i]? = some u → ts[i]? = some t' → Nd w0 P u t') (hx : xs.length = ts.length) (hd : ds.length = ts.length)
    (hN : ∀ (i : Nat) u x e, us[i]? = some u → xs[i]? = some x → ds[i]? = some e → NodeOK w0 u x e) (hq : q ≤ 9223372036854775807) (w : World) (wb : Nat) (y : List UInt8) (d m : Nat) (hb : Below w0.heap.size w0 w) (hW : WB w w0.heap.size wb y d m) (hdm : d ≤ m) (hm : m ≤ 500000 ∧ d + ds.foldr max 0 ≤ 500000) (hlen : y.length + (commas xs).length ≤ 1000000) :
    Calls Tryz.prog 145 #[ptr wb, .slice p q c] w fun e w' => e = .returned (.tuple #[]) ∧ WB w' w0.heap.size wb (y ++ commas xs) d (max m (d + ds.foldr max 0)) ∧ Kw w0.heap.size wb w w' := by
  have hqu : q = us.length := hk.1
  have HK : Hid (Kids w0 P p q c us) := hk
  have HL : Hid (us.length = ts.length) := hl
  have HS : Hid (∀ (i : Nat) u t', us[i]? = some u → ts[i]? = some t' → Nd w0 P u t') := hs
  have HN : Hid (∀ (i : Nat) u x e, us[i]? = some u → xs[i]? = some x → ds[i]? = some e → NodeOK w0 u x e) := hN
  have HX : Hid (xs.length = q ∧ ds.length = q) := ⟨by omega, by omega⟩
  have HB : Hid (Below w0.heap.size w0 w) := hb
  have HM : Hid ((m ≤ 500000 ∧ d + ds.foldr max 0 ≤ 500000) ∧ y.length + (commas xs).length ≤ 1000000) := ⟨hm, hlen⟩
  have hs0 := hb.size
  have h0 : WB w w0.heap.size wb (y ++ commas (xs.take 0)) d (max m (d + (ds.take 0).foldr max 0)) := by
    have : max m d = m := by omega
    simpa [commas, this] using hW
  clear hk hl hs hN hx hd hm hlen hW hb hqu
  go_enter Tryz.func145, Tryz.ntmps145
  go_wp2_with fail
  go_loopw [4, 5, 8] (fun _ _ i wr => ∃ j : Nat, i = .int .i64 j ∧ j ≤ q ∧ WB wr w0.heap.size wb (y ++ commas (xs.take j)) d (max m (d + (ds.take j).foldr max 0)) ∧ Kw w0.heap.size wb w wr) (fun _ _ i _ => q - (intOf i).toNat)
  case atStart => exact ⟨0, rfl, Nat.zero_le _, h0, Kw.refl _ _ _⟩
  case round =>
    clear h0
    obtain ⟨j, rfl, hj, hWr, hkr⟩ := hrel
    by_cases hlt : j < q
    · obtain ⟨g, o, u, t1, rfl, hg, hu, ht1, hc⟩ := kid_at HK.out HL.out HS.out j hlt
      have hNd := HS.out j u t1 hu ht1
      obtain ⟨xj, hxj⟩ : ∃ xj, xs[j]? = some xj := ⟨_, List.getElem?_eq_getElem (by have := HX.out.1; omega)⟩
      obtain ⟨dj, hdj⟩ : ∃ dj, ds[j]? = some dj := ⟨_, List.getElem?_eq_getElem (by have := HX.out.2; omega)⟩
      have hbr := HB.out.trans hkr.b
      have hsr := hbr.size
      have e1 : ∀ jj x, u.cells.toList[jj]? = some x → wr.cell? ⟨g, o + j * 12 + jj, none⟩ = some x := fun jj x hx => by rw [hbr.cell (p := ⟨g, _, none⟩) hg]; exact hc jj x hx
      have hct := commas_take hxj
      have hft := fold_take hdj
      have hfl := fold_take_le ds (j + 1)
      have hfl0 := fold_take_le ds j
      obtain ⟨X, hX⟩ : ∃ X, commas (xs.take j) = X := ⟨_, rfl⟩
      obtain ⟨Y, hY⟩ : ∃ Y, commas (xs.take (j + 1)) = Y := ⟨_, rfl⟩
      obtain ⟨F, hF⟩ : ∃ F, (ds.take j).foldr max 0 = F := ⟨_, rfl⟩
      obtain ⟨G, hG⟩ : ∃ G, (ds.take (j + 1)).foldr max 0 = G := ⟨_, rfl⟩
      have HRW : Hid ((commas (xs.take (j + 1)) = Y) ∧ (ds.take (j + 1)).foldr max 0 = G) := ⟨hY, hG⟩
      rw [hX, hY] at hct
      rw [hF, hG] at hft
      rw [hG] at hfl
      rw [hF] at hfl0
      rw [hX, hF] at hWr
      have hMM := HM.out
      have HNJ : Hid (∀ wx z, Kw w0.heap.size wb w wx → WB wx w0.heap.size wb z d (max m (d + F)) → z.length + xj.length ≤ 1000000 → Calls Tryz.prog 103 #[ptr wb, u] wx fun e w' => e = .returned (.tuple #[]) ∧ WB w' w0.heap.size wb (z ++ xj) d (max m (d + G)) ∧ Kw w0.heap.size wb w w') := fun wx z hkx hWx hz => by
        refine (HN.out j u _ _ hu hxj hdj wx wb z d _ (HB.out.trans hkx.b) hWx (by omega) (by omega) hz).mono ?_
        rintro e w' ⟨rfl, q1, q2⟩
        refine ⟨rfl, ?_, hkx.trans q2⟩
        rw [show max m (d + G) = max (max m (d + F)) (d + dj) from by omega]
        exact q1
      have HLB : Hid (y.length + Y.length ≤ 1000000) := by unfold Hid; omega
      have HCT : Hid (Y = if j = 0 then xj else X ++ 44 :: xj) := hct.1
      have HX0 : Hid (j = 0 → X = []) := fun e => by subst e; rw [← hX]; simp [commas]
      clear HN hct hft hfl hfl0 hMM hX hY hF hG hc
      cases hNd with
      | @mk k1 n1 s1 ra rb p1 m1 q1 us1 ts1 _ _ _ =>
      have hlt' : (j : Int) < (q : Int) := by omega
      have hj' : (0 : Int) ≤ (j : Int) := by omega
      have x0 := e1 0 _ rfl
      have x1 := e1 1 _ rfl
      have x2 := e1 2 _ rfl
      have x3 := e1 3 _ rfl
      have x4 := e1 4 _ rfl
      have x5 := e1 5 _ rfl
      have x6 := e1 6 _ rfl
      have x7 := e1 7 _ rfl
      have x8 := e1 8 _ rfl
      have x9 := e1 9 _ rfl
      have x10 := e1 10 _ rfl
      have x11 := e1 11 _ rfl
      simp only [Nat.add_zero] at x0
      have hWa := hWr.alloc (.cells (N12 k1 n1 s1 ra rb (.slice p1 m1 q1)) 28)
      have hka := hkr.alloc hsr (.cells (N12 k1 n1 s1 ra rb (.slice p1 m1 q1)) 28)
      have hnb := blk_new wr (.cells (N12 k1 n1 s1 ra rb (.slice p1 m1 q1)) 28)
      have hwl := hWr.lt
      obtain ⟨⟨a0, a1, a2, a3, a4, a5, a6, a7, a8, a9, a10, a11⟩, af⟩ := cells12 hnb
      by_cases hz : j = 0
      · subst hz
        have HE : Hid (X = [] ∧ Y = xj) := ⟨HX0.out rfl, by have := HCT.out; rwa [if_pos rfl] at this⟩
        clear HX0 HCT
        simp only [Nat.zero_mul, Nat.add_zero] at x0 x1 x2 x3 x4 x5 x6 x7 x8 x9 x10 x11
        go_wp2_with fail
        refine (HNJ.out _ _ hka hWa (by have := HLB.out; rw [HE.out.2] at this; rw [HE.out.1]; simp; omega)).mono ?_
        rintro e w4 ⟨rfl, h4, k4⟩
        go_wp2_with fail
        refine ⟨⟨0 + 1, by simp, hlt, ?_, k4⟩, by simp [intOf]; omega⟩
        rw [HRW.out.1, HRW.out.2, HE.out.2]
        rw [HE.out.1] at h4
        simpa using h4
      · have hp : (j : Int) > 0 := by omega
        have HZ : Hid (Y = X ++ 44 :: xj) := by have := HCT.out; rwa [if_neg hz] at this
        clear hz HCT HX0
        go_wp2_with fail
        have hsa := (HB.out.trans hka.b).size
        refine (write_any w0.heap.size wb _ d _ ⟨#[44]⟩ _ hWa (by have := HLB.out; rw [HZ.out] at this; simp at this ⊢; have e1 : (⟨#[44]⟩ : ByteArray).size = 1 := rfl; omega) hsa).mono ?_
        rintro e w3 ⟨rfl, h3, k3⟩
        have hn3 := k3.blk hnb (by decide) (by omega)
        clear a0 a1 a2 a3 a4 a5 a6 a7 a8 a9 a10 a11 af
        obtain ⟨⟨a0, a1, a2, a3, a4, a5, a6, a7, a8, a9, a10, a11⟩, af⟩ := cells12 hn3
        have hk3 := hka.trans k3
        go_wp2_with fail
        refine (HNJ.out _ _ hk3 h3 (by have := HLB.out; rw [HZ.out] at this; simp at this ⊢; omega)).mono ?_
        rintro e w4 ⟨rfl, h4, k4⟩
        go_wp2_with fail
        refine ⟨⟨j + 1, by simp, hlt, ?_, k4⟩, by simp [intOf]; omega⟩
        rw [HRW.out.1, HRW.out.2, HZ.out]
        simpa using h4
    · have hkn : j = q := by omega
      subst hkn
      have hxx := HX.out
      have t1 : xs.take j = xs := List.take_of_length_le (by omega)
      have t2 : ds.take j = ds := List.take_of_length_le (by omega)
      have HF : Hid (WB wr w0.heap.size wb (y ++ commas xs) d (max m (d + ds.foldr max 0))) := by rw [t1, t2] at hWr; exact hWr
      clear t1 t2 hWr
      go_wp2_with fail
      go_end0
      exact ⟨rfl, HF.out, hkr⟩
end Go.Proofs.YtoebppmagkijjaaGreatDoor.fm

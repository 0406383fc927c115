
/- The law SortStands. Conditions: as each theorem says. -/
import Derived.Test.YtehamdkjdbaceaaUh
import Derived.Test.YtehamdkjdbaceaaSh
namespace Go.Proofs.Ytehamdkjdbaceaa.so
open Go.RowKit Go.Sort Go.Shelf
def n2 : Vl := ⟨1, 2, nul⟩
theorem n2_ok : n2.ok = true := by decide +kernel
theorem km1 {w : World} {b : Nat} {x : Int} {y : Bool} (h : w.heap[b]? = some (.cells #[.int .i64 x, .bool y] 34 (0, 0))) : KM w (some ⟨b, 0, none⟩) 1 (fun _ => x) (fun _ => y) := by
  refine .inr ⟨b, 0, rfl, (Array.getElem?_eq_some_iff.1 h).1, fun i hi => ?_⟩
  have e : i = 0 := by omega
  subst e
  simp [World.cell?, h]
theorem stn2 (b0 b1 : Nat) : StN (two b0 b1 n2 n1) 1 (fun _ => 0) (fun _ => false) [1, 0] := by
  refine ⟨List.Perm.swap 0 1 [], ?_⟩
  rw [List.pairwise_cons]
  refine ⟨fun x hx => ?_, by simp⟩
  have e : x = 0 := by simpa using hx
  subst e
  left
  show crw (fun _ => n1) (fun _ => n2) (fun _ => 0) (fun _ => false) 1 0 < 0
  decide +kernel
set_option maxRecDepth 100000 in
set_option maxHeartbeats 8000000 in
theorem stands_any (T : Tb) (p : Option Addr) (cp : Nat) (p3 : Option Addr) (n c3 : Nat) (c : Nat → Int) (d : Nat → Bool) (w : World) (hT : TM w p T) (hK : KM w p3 n c d) (hq : T.q ≤ 9223372036854775807) (hn : n ≤ 8796093022208) (hL : ∀ i, i < T.q → T.L i ≤ 9223372036854775807) :
    Calls Try.prog 3 #[.slice p T.q cp, .slice p3 n c3] w fun e w' => e = .returned (.bool true) ∧ Bw w w' := by
  have HD : Hid (∀ wx, Bw w wx → Calls Try.prog 5 #[.slice p T.q cp, .slice p3 n c3] wx fun e w' => SO T n c d wx e w') := fun wx hb => sort_any T p cp p3 n c3 c d wx (hT.next hb) (hK.next hb) hq hn hL
  have HN : Hid (∀ (k : Int) (wx : World), Calls Try.prog 6 #[.int .i64 k] wx fun e w' => e = .returned (V 1 k nul) ∧ Bw wx w') := rnum_any
  have HT : Hid (TM w p T) := hT
  have HK : Hid (KM w p3 n c d) := hK
  have HL : Hid (∀ i, i < T.q → T.L i ≤ 9223372036854775807) := hL
  obtain ⟨q, eq⟩ : ∃ q, T.q = q := ⟨_, rfl⟩
  have HEQ : Hid (T.q = q) := eq
  rw [eq] at HD hq ⊢
  clear hT hK hL eq
  go_enter Try.func3, Try.ntmps3
  go_wp2_with fail
  refine (HN.out _ _).mono ?_
  rintro e w1 ⟨rfl, hb1⟩
  go_wp2_with fail
  refine (HN.out _ _).mono ?_
  rintro e w2 ⟨rfl, hb2⟩
  go_wp2_with fail
  have hbW : Bw w (((w2.alloc (.cells (vcs n1) 30)).alloc (.cells #[.slice (some ⟨w1.heap.size, 0, none⟩) 1 1, .slice (some ⟨w2.heap.size, 0, none⟩) 1 1] 32)).alloc (.cells #[.int .i64 0, .bool false] 34)) := Bw.tr (Bw.tr (Bw.tr (Bw.tr (Bw.tr hb1 (Bw.al _ _)) hb2) (Bw.al _ _)) (Bw.al _ _)) (Bw.al _ _)
  have hTM := (lit2 w1 w2 n2 n1 hb2).next (Bw.al _ (.cells #[.int .i64 0, .bool false] 34))
  have hKM : KM (((w2.alloc (.cells (vcs n1) 30)).alloc (.cells #[.slice (some ⟨w1.heap.size, 0, none⟩) 1 1, .slice (some ⟨w2.heap.size, 0, none⟩) 1 1] 32)).alloc (.cells #[.int .i64 0, .bool false] 34)) (some ⟨w2.heap.size + 1 + 1, 0, none⟩) 1 (fun _ => 0) (fun _ => false) := by
    refine km1 ?_
    have e : w2.heap.size + 1 + 1 = ((w2.alloc (.cells (vcs n1) 30)).alloc (.cells #[.slice (some ⟨w1.heap.size, 0, none⟩) 1 1, .slice (some ⟨w2.heap.size, 0, none⟩) 1 1] 32)).heap.size := by simp
    rw [e]
    exact heap_alloc_new _ _
  have HQ := sort_any (two w1.heap.size w2.heap.size n2 n1) (some ⟨w2.heap.size + 1, 0, none⟩) 2 (some ⟨w2.heap.size + 1 + 1, 0, none⟩) 1 1 (fun _ => 0) (fun _ => false) _ hTM hKM (by show 2 ≤ _; omega) (by omega) (fun _ _ => by show 1 ≤ _; omega)
  refine HQ.mono ?_
  rintro e w3 ⟨⟨x, v, rfl, hx, -, hv⟩, hb3⟩
  have hx0 := cf2 n2_ok n1_ok hx
  subst hx0
  obtain ⟨W, Z, -, hZ, hIV⟩ := hv rfl
  have eZ := hZ.one (stn2 _ _)
  subst eZ
  obtain ⟨pv, cv, rfl, him⟩ := hIV.im
  have hl2 : (natI [1, 0]).length = 2 := rfl
  rw [hl2] at him ⊢
  rcases him with h | ⟨gv, ov, rfl, hgv, h3⟩
  · cases h
  have y0 : w3.cell? ⟨gv, ov, none⟩ = some (.int .i64 1) := h3 0 (by omega)
  have HB : Hid (Bw w w3) := hbW.tr hb3
  rw [errV_0]
  clear HQ hx hv hIV hZ hl2 hbW hTM hKM hb1 hb2 hb3 hgv h3
  have HDD := HD.out w3 HB.out
  clear HD
  go_wp2_with fail
  refine HDD.mono ?_
  clear HDD y0
  rintro e w4 ⟨⟨x, v, rfl, hx, hv0, hv⟩, hb4⟩
  have HX : Hid (CF T n c x) := hx
  have HB4 : Hid (Bw w w4) := HB.out.tr hb4
  by_cases hx0 : x = 0
  · subst hx0
    obtain ⟨W, Z, -, hZ, hIV⟩ := hv rfl
    obtain ⟨pv, cv, rfl, him⟩ := hIV.im
    have hlZ : (natI Z).length = q := by rw [List.length_map, stn_len hZ, HEQ.out]
    rw [hlZ] at him ⊢
    rw [errV_0]
    have HZ : Hid (StN T n c d Z) := hZ
    have HIV : Hid (IM w4 pv q (nthN Z)) := him
    have hq60 : q ≤ 60 := by rw [← HEQ.out]; exact HX.out.zero.1.few
    have hmk := make_bools q (by omega)
    clear hx hv hv0 hb4 hIV him hZ hlZ
    let BPX := bodyPost Try.prog Try.f3 (fun _ _ => True)
    go_upto_region 9 with fail
    go_cut [9] (fun s9 wx => s9 = .slice (some ⟨w4.heap.size, 0, none⟩) q q ∧ Hid (w4.alloc (.cells (madeCells #[.bool false] q) 4) = wx))
    case first =>
      go_wp2_with fail
      go_meet
      case rel => exact ⟨rfl, rfl⟩
    case rest =>
    obtain ⟨rfl, HW⟩ := hcut
    apply_assumption
    exact tail10 T p cp p3 n c3 c d q cv w4.heap.size pv Z w w4 wc HEQ (HT.out.next HB4.out) (HK.out.next HB4.out) HX HL HZ HIV (Nat.le_refl _) (by rw [← HW.out]; exact BA.new _ _) (by rw [← HW.out]; exact Bw.al _ _) HB4 _ _ _ _ _ _ _ _ _ _ _ _ _ _ _ _ _ _ _ _ _ _ _ _ _ _ _ _ _ _ _ _ _ _ _ _ _ _ _ _ _ _ _ _ _ _ _ _ _ _ _ _ _ _ _ _ _ _ _ _ _ _ _ _ _ _ _ _ _ _ _ _ _ _ _ _ _ _ _ _ _ _ _ _ _ _ _ _ _ _ _ _ _ _ _ _ _ _ _ _ _ _ _ _ _ _ _ _ _ _ _ _ _ _ _ _ _ _ _ _ _ _ _ _ _ _ _ _ _ _ _ _ _ _ _ _ _ _ _ _ _ _ _ _ _ _ _ _ _ _ _ _ _ _ _ _ _ _ _ _ _ _ _ _ _ _ _ _ _ _ _ _ _ _ _ _ _ _ _ _ _ _ _ _ _ _ _ _ _ _ _ _ _ _ _ _
  · rw [errV_of hx0]
    clear hx hv hv0 hb4
    go_wp2_with fail
    go_ret
    exact ⟨rfl, HB4.out⟩
end Go.Proofs.Ytehamdkjdbaceaa.so

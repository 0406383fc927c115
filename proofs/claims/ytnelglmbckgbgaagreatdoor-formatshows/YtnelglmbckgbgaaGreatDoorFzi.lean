
/- The law FormatShows, walked. Conditions: as each theorem says. -/
import Derived.Test.YtnelglmbckgbgaaGreatDoorFxe
import Derived.Test.YtnelglmbckgbgaaGreatDoorFzh
import Derived.Test.YtnelglmbckgbgaaGreatDoorJr
import Derived.Test.YtnelglmbckgbgaaGreatDoorAs
namespace Go.Proofs.YtnelglmbckgbgaaGreatDoor.fw
open Go.RowKit Go.Sort
set_option maxRecDepth 100000 in
theorem check_any (s : ByteArray) (w : World) : Calls Tryz.prog 8 #[.string s] w fun e w' => e = .returned (errV (if (rcL s.toList).isSome = true then 0 else 2)) ∧ Bw w w' := by
  have hr := readCode_any s w
  cases ho : rcL s.toList with
  | none =>
    rw [ho] at hr
    have hr' : Calls Tryz.prog 17 #[.string s] w fun e w' => e = .returned (.tuple #[.agg #[.string ⟨#[]⟩, .bool false, .int .i64 0, .int .i64 0, .string ⟨#[]⟩], .iface 50 (.int .i64 2)]) ∧ Bw w w' := hr
    show Calls _ _ _ _ fun e w' => e = .returned (.iface 50 (.int .i64 2)) ∧ Bw w w'
    clear hr ho
    go_enter Tryz.func8, Tryz.ntmps8
    go_wp2_with fail
    refine hr'.mono ?_
    rintro e w1 ⟨rfl, hb1⟩
    go_wp2_with fail
    go_ret
    exact ⟨rfl, hb1.alc _⟩
  | some k =>
    rw [ho] at hr
    have hr' : Calls Tryz.prog 17 #[.string s] w fun e w' => e = .returned (.tuple #[.agg #[.string (txt k.ahead), .bool k.three, .int .i64 (k.digits : Int), .int .i64 (k.places : Int), .string (txt k.behind)], .nilIface]) ∧ Bw w w' := hr
    show Calls _ _ _ _ fun e w' => e = .returned .nilIface ∧ Bw w w'
    clear hr ho
    go_enter Tryz.func8, Tryz.ntmps8
    go_wp2_with fail
    refine hr'.mono ?_
    rintro e w1 ⟨rfl, hb1⟩
    go_wp2_with fail
    go_ret
    exact ⟨rfl, hb1.alc _⟩
/-- What Show answers of a value that is no number. -/
def soV (o : Option LK) (t : ByteArray) : Value := match o with
  | some _ => .tuple #[.string t, .nilIface]
  | none => .tuple #[.string ⟨#[]⟩, .iface 50 (.int .i64 2)]
set_option maxRecDepth 100000 in
set_option maxHeartbeats 4000000 in
theorem showOther_any (k n : Int) (u s t : ByteArray) (w : World) (hk : (k == 1) = false)
    (HV : Hid (∀ wx, Bw w wx → Calls Tryz.prog 19 #[V k n u] wx fun e w' => e = .returned (.string t) ∧ Bw wx w')) :
    Calls Tryz.prog 10 #[V k n u, .string s] w fun e w' => e = .returned (soV (rcL s.toList) t) ∧ Bw w w' := by
  have hr := readCode_any s
  cases ho : rcL s.toList with
  | none =>
    rw [ho] at hr
    have hr' : ∀ wx, Calls Tryz.prog 17 #[.string s] wx fun e w' => e = .returned (.tuple #[.agg #[.string ⟨#[]⟩, .bool false, .int .i64 0, .int .i64 0, .string ⟨#[]⟩], .iface 50 (.int .i64 2)]) ∧ Bw wx w' := hr
    clear hr ho HV
    show Calls _ _ _ _ fun e w' => e = .returned (.tuple #[.string ⟨#[]⟩, .iface 50 (.int .i64 2)]) ∧ Bw w w'
    go_enter Tryz.func10, Tryz.ntmps10
    go_wp2_with fail
    refine (hr' _).mono ?_
    rintro e w1 ⟨rfl, hb1⟩
    have HB1 : Hid (Bw w w1) := (Bw.al _ _).tr hb1
    clear hb1 hr'
    go_wp2_with fail
    exact bodyPost_ret (v := .tuple #[_, _]) (by simp [results, Tryz.results10, go_sem]) rfl ⟨rfl, HB1.out.alc _⟩
  | some lk =>
    rw [ho] at hr
    have hr' : ∀ wx, Calls Tryz.prog 17 #[.string s] wx fun e w' => e = .returned (.tuple #[.agg #[.string (txt lk.ahead), .bool lk.three, .int .i64 (lk.digits : Int), .int .i64 (lk.places : Int), .string (txt lk.behind)], .nilIface]) ∧ Bw wx w' := hr
    clear hr ho
    show Calls _ _ _ _ fun e w' => e = .returned (.tuple #[.string t, .nilIface]) ∧ Bw w w'
    generalize txt lk.ahead = A at *
    generalize txt lk.behind = BH at *
    generalize lk.three = t3 at *
    generalize (lk.digits : Int) = d at *
    generalize (lk.places : Int) = p at *
    go_enter Tryz.func10, Tryz.ntmps10
    go_upto_region 1 with fail
    have HVV : Hid ((w.alloc (.cells #[.int .i64 k, .int .i64 n, .string u] 23)).heap[w.heap.size]? = some (.cells #[.int .i64 k, .int .i64 n, .string u] 23 (0, 0))) := heap_alloc_new w _
    have HA0 : Hid (Bw w (w.alloc (.cells #[.int .i64 k, .int .i64 n, .string u] 23))) := Bw.al _ _
    have hlt : w.heap.size < (w.alloc (.cells #[.int .i64 k, .int .i64 n, .string u] 23)).heap.size := by simp
    generalize (w.alloc (.cells #[.int .i64 k, .int .i64 n, .string u] 23)) = wa at *
    go_wp2_with fail
    refine (hr' _).mono ?_
    rintro e w1 ⟨rfl, hb1⟩
    have HB1 : Hid (Bw w w1) := HA0.out.tr hb1
    have hv1 : w1.heap[w.heap.size]? = some (.cells #[.int .i64 k, .int .i64 n, .string u] 23 (0, 0)) := by rw [hb1.block _ hlt]; exact HVV.out
    have hv2 := (Bw.al w1 (.cells #[.string A, .bool t3, .int .i64 d, .int .i64 p, .string BH] 47)).block w.heap.size (Array.getElem?_eq_some_iff.1 hv1).1
    rw [hv1] at hv2
    have c0 : (w1.alloc (.cells #[.string A, .bool t3, .int .i64 d, .int .i64 p, .string BH] 47)).cell? ⟨w.heap.size, 0, none⟩ = some (.int .i64 k) := by simp only [World.cell?, hv2]; rfl
    have c1 : (w1.alloc (.cells #[.string A, .bool t3, .int .i64 d, .int .i64 p, .string BH] 47)).cell? ⟨w.heap.size, 1, none⟩ = some (.int .i64 n) := by simp only [World.cell?, hv2]; rfl
    have c2 : (w1.alloc (.cells #[.string A, .bool t3, .int .i64 d, .int .i64 p, .string BH] 47)).cell? ⟨w.heap.size, 2, none⟩ = some (.string u) := by simp only [World.cell?, hv2]; rfl
    have HB2 : Hid (Bw w (w1.alloc (.cells #[.string A, .bool t3, .int .i64 d, .int .i64 p, .string BH] 47))) := HB1.out.alc _
    clear hb1 hr' hv1 hv2 HVV HA0 hlt
    go_wp2_with fail
    refine (HV.out _ HB2.out).mono ?_
    rintro e w3 ⟨rfl, hb3⟩
    have HB3 : Hid (Bw w w3) := HB2.out.tr hb3
    clear hb3 c0 c1 c2
    go_wp2_with fail
    exact bodyPost_ret (v := .tuple #[.string t, .nilIface]) (by simp [results, Tryz.results10, go_sem]) rfl ⟨rfl, HB3.out⟩
theorem same_at (e : Int) (w : World) (hg : ErrTy w) : Calls Tryz.prog 9 #[errV e, .int .i64 e] w fun r w' => r = .returned (.bool true) ∧ Bw w w' := by
  by_cases h : e = 0
  · subst h
    exact same_nil 0 w
  · have h1 := same_errno e e w hg
    rw [beq_self_eq_true] at h1
    rw [show errV e = .iface 50 (.int .i64 e) by unfold errV; rw [if_neg h]]
    exact h1
theorem errTy_next {w w' : World} (h : ErrTy w) (hb : Bw w w') : ErrTy w' := ⟨Nat.lt_of_lt_of_le h.1 hb.size, by rw [hb.cell (p := ⟨_, _, none⟩) h.1]; exact h.2⟩
/-- A value in a block of its own. -/
structure VB (w : World) (k n : Int) (u : ByteArray) (wx : World) : Prop where
  blk : wx.heap[w.heap.size]? = some (.cells #[.int .i64 k, .int .i64 n, .string u] 23 (0, 0))
  below : Bw w wx
theorem VB.next {w wx wy : World} {k n : Int} {u : ByteArray} (h : VB w k n u wx) (hb : Bw wx wy) : VB w k n u wy :=
  ⟨by rw [hb.block _ (Array.getElem?_eq_some_iff.1 h.blk).1]; exact h.blk, h.below.tr hb⟩
theorem VB.cells {w wx : World} {k n : Int} {u : ByteArray} (h : VB w k n u wx) : wx.cell? ⟨w.heap.size, 0, none⟩ = some (.int .i64 k) ∧ wx.cell? ⟨w.heap.size, 1, none⟩ = some (.int .i64 n) ∧ wx.cell? ⟨w.heap.size, 2, none⟩ = some (.string u) := by
  simp only [World.cell?, h.blk]
  exact ⟨rfl, rfl, rfl⟩
theorem VB.new (w : World) (k n : Int) (u : ByteArray) : VB w k n u (w.alloc (.cells #[.int .i64 k, .int .i64 n, .string u] 23)) := ⟨heap_alloc_new w _, Bw.al _ _⟩
set_option maxRecDepth 1000000 in
set_option maxHeartbeats 8000000 in
theorem formatShows_any (k n : Int) (u s : ByteArray) (w : World) (h0 : -9223372036854775808 ≤ n) (h1 : n ≤ 9223372036854775807) (hE : Env w) (hT : ErrTy w) :
    Calls Tryz.prog 3 #[V k n u, .string s] w fun e w' => e = .returned (.bool true) ∧ Bw w w' := by
  have HE : Hid (Env w) := hE
  have HT : Hid (ErrTy w) := hT
  clear hE hT
  have HN := VB.new w k n u
  have his := is_any k n u
  cases hv : isVal k n u with
  | false =>
    rw [hv] at his
    go_enter Tryz.func3, Tryz.ntmps3
    go_wp2_with fail
    refine (his _).mono ?_
    rintro e w1 ⟨rfl, hb1⟩
    go_wp2_with fail
    go_ret
    exact ⟨rfl, (Bw.al _ _).tr hb1⟩
  | true =>
    rw [hv] at his
    have hcode := rcode_any s
    have hchk := check_any s
    have HRS : Hid (∀ wx, Calls Tryz.prog 6 #[V k n u] wx fun e w' => e = .returned (.string (sh k n u)) ∧ Bw wx w') := fun wx => rshow_any k n u wx hv h0 h1
    have HSH : Hid (∀ wx, Bw w wx → Calls Tryz.prog 10 #[V k n u, .string s] wx fun e w' => e = .returned (if k = 1 then snV (rcL s.toList) n else soV (rcL s.toList) (sh k n u)) ∧ Bw wx w') := fun wx hb => by
      by_cases hk : k = 1
      · subst hk
        rw [if_pos rfl]
        exact showNum_any n u s wx h0 h1 (fun wy hb2 => itoa_any n wy h0 h1 (HE.out.next (hb.tr hb2)))
      · rw [if_neg hk]
        exact showOther_any k n u s (sh k n u) wx (beq_eq_false_iff_ne.2 hk) (fun wy hb2 => Go.Proofs.YtnelglmbckgbgaaGreatDoor.show_any k n u wy (HE.out.next (hb.tr hb2)) h0 h1)
    have HER : Hid (∀ wx e, Bw w wx → Calls Tryz.prog 9 #[errV e, .int .i64 e] wx fun r w' => r = .returned (.bool true) ∧ Bw wx w') := fun wx e hb => same_at e wx (errTy_next HT.out hb)
    cases ho : rcL s.toList with
    | none =>
      rw [ho] at hcode hchk HSH
      have hchk' : ∀ wx, Calls Tryz.prog 8 #[.string s] wx fun e w' => e = .returned (.iface 50 (.int .i64 2)) ∧ Bw wx w' := hchk
      have HSH' : Hid (∀ wx, Bw w wx → Calls Tryz.prog 10 #[V k n u, .string s] wx fun e w' => e = .returned (.tuple #[.string ⟨#[]⟩, .iface 50 (.int .i64 2)]) ∧ Bw wx w') := fun wx hb => by
        refine (HSH.out wx hb).mono ?_
        rintro e w' ⟨rfl, hb'⟩
        refine ⟨?_, hb'⟩
        by_cases hk : k = 1
        · rw [if_pos hk]; rfl
        · rw [if_neg hk]; rfl
      have HER' : Hid (∀ wx, Bw w wx → Calls Tryz.prog 9 #[.iface 50 (.int .i64 2), .int .i64 2] wx fun r w' => r = .returned (.bool true) ∧ Bw wx w') := fun wx hb => HER.out wx 2 hb
      clear HSH HER hchk HRS
      go_enter Tryz.func3, Tryz.ntmps3
      go_upto_region 1 with fail
      generalize (w.alloc (.cells #[.int .i64 k, .int .i64 n, .string u] 23)) = wa at *
      obtain ⟨c0, c1, c2⟩ := HN.cells
      have HVB : Hid (VB w k n u wa) := HN
      clear HN
      go_wp2_with fail
      refine (his _).mono ?_
      rintro e w1 ⟨rfl, hb1⟩
      have V1 : Hid (VB w k n u w1) := HVB.out.next hb1
      clear hb1 HVB c0 c1 c2 his
      go_wp2_with fail
      refine (hcode _).mono ?_
      rintro e w2 ⟨⟨a, b, g, l, p, rfl⟩, hb2⟩
      have V2 : Hid (VB w k n u (w2.alloc (.cells #[.string a, .string b, .bool g, .int .i64 l, .int .i64 p] 26))) := (V1.out.next hb2).next (Bw.al _ _)
      clear hb2 V1 hcode
      go_upto_region 12 with fail
      generalize (w2.alloc (.cells #[.string a, .string b, .bool g, .int .i64 l, .int .i64 p] 26)) = w3 at *
      go_wp2_with fail
      refine (hchk' _).mono ?_
      rintro e w4 ⟨rfl, hb4⟩
      have V4 : Hid (VB w k n u w4) := V2.out.next hb4
      clear hb4 V2 hchk'
      go_wp2_with fail
      refine (HER'.out _ V4.out.below).mono ?_
      rintro e w5 ⟨rfl, hb5⟩
      have V5 : Hid (VB w k n u w5) := V4.out.next hb5
      clear hb5 V4
      obtain ⟨c0, c1, c2⟩ := V5.out.cells
      go_wp2_with fail
      refine (HSH'.out _ V5.out.below).mono ?_
      rintro e w6 ⟨rfl, hb6⟩
      have V6 : Hid (VB w k n u w6) := V5.out.next hb6
      clear hb6 V5 c0 c1 c2 HSH'
      go_wp2_with fail
      refine (HER'.out _ V6.out.below).mono ?_
      rintro e w7 ⟨rfl, hb7⟩
      have HB7 : Hid (Bw w w7) := V6.out.below.tr hb7
      clear hb7 V6 HER'
      go_wp2_with fail
      go_ret
      exact ⟨rfl, HB7.out⟩
    | some lk =>
      rw [ho] at hcode hchk HSH
      obtain ⟨ha, hd, hp, hbh, hdp⟩ := rcL_le ho
      have hchk' : ∀ wx, Calls Tryz.prog 8 #[.string s] wx fun e w' => e = .returned .nilIface ∧ Bw wx w' := hchk
      obtain ⟨T, hTT⟩ : ∃ T, (if k = 1 then txt (showL lk n) else sh k n u) = T := ⟨_, rfl⟩
      have HSH' : Hid (∀ wx, Bw w wx → Calls Tryz.prog 10 #[V k n u, .string s] wx fun e w' => e = .returned (.tuple #[.string T, .nilIface]) ∧ Bw wx w') := fun wx hb => by
        refine (HSH.out wx hb).mono ?_
        rintro e w' ⟨rfl, hb'⟩
        refine ⟨?_, hb'⟩
        by_cases hk : k = 1
        · rw [← hTT, if_pos hk, if_pos hk]; rfl
        · rw [← hTT, if_neg hk, if_neg hk]; rfl
      have HER' : Hid (∀ wx, Bw w wx → Calls Tryz.prog 9 #[.nilIface, .int .i64 0] wx fun r w' => r = .returned (.bool true) ∧ Bw wx w') := fun wx hb => HER.out wx 0 hb
      have hcode' : ∀ wx, Calls Tryz.prog 5 #[.string s] wx fun e w' => e = .returned (.tuple #[.agg #[.string (txt lk.ahead), .string (txt lk.behind), .bool lk.three, .int .i64 (lk.digits : Int), .int .i64 (lk.places : Int)], .bool true]) ∧ Bw wx w' := hcode
      have HR3 : Hid (k = 1 → ∀ wx, Calls Tryz.prog 7 #[.int .i64 n, .agg #[.string (txt lk.ahead), .string (txt lk.behind), .bool lk.three, .int .i64 (lk.digits : Int), .int .i64 (lk.places : Int)]] wx fun e w' => e = .returned (.string T) ∧ Bw wx w') := fun hk wx => by
        rw [← hTT, if_pos hk]
        exact rshow3_any lk n wx h0 h1 (by omega) hbh (by omega) (by omega) hdp
      have HRN : Hid (k ≠ 1 → sh k n u = T) := fun hk => by rw [← hTT, if_neg hk]
      clear HSH HER hchk hcode hTT
      generalize txt lk.ahead = A at *
      generalize txt lk.behind = BH at *
      generalize lk.three = t3 at *
      generalize (lk.digits : Int) = d at *
      generalize (lk.places : Int) = p at *
      generalize sh k n u = SHT at *
      go_enter Tryz.func3, Tryz.ntmps3
      let BPX := bodyPost Tryz.prog Tryz.f3 (fun _ _ => True)
      go_upto_region 1 with fail
      generalize (w.alloc (.cells #[.int .i64 k, .int .i64 n, .string u] 23)) = wa at *
      obtain ⟨c0, c1, c2⟩ := HN.cells
      have HVB : Hid (VB w k n u wa) := HN
      clear HN
      go_wp2_with fail
      refine (his _).mono ?_
      rintro e w1 ⟨rfl, hb1⟩
      have V1 : Hid (VB w k n u w1) := HVB.out.next hb1
      clear hb1 HVB c0 c1 c2 his
      go_wp2_with fail
      refine (hcode' _).mono ?_
      rintro e w2 ⟨rfl, hb2⟩
      have V2 : Hid (VB w k n u (w2.alloc (.cells #[.string A, .string BH, .bool t3, .int .i64 d, .int .i64 p] 26))) := (V1.out.next hb2).next (Bw.al _ _)
      have HFB : Hid ((w2.alloc (.cells #[.string A, .string BH, .bool t3, .int .i64 d, .int .i64 p] 26)).heap[w2.heap.size]? = some (.cells #[.string A, .string BH, .bool t3, .int .i64 d, .int .i64 p] 26 (0, 0))) := heap_alloc_new w2 _
      clear hb2 V1 hcode'
      go_upto_region 9 with fail
      generalize (w2.alloc (.cells #[.string A, .string BH, .bool t3, .int .i64 d, .int .i64 p] 26)) = w3 at *
      generalize w2.heap.size = g2 at *
      obtain ⟨c0, c1, c2⟩ := V2.out.cells
      go_wp2_with fail
      refine (HRS.out _).mono ?_
      rintro e w4 ⟨rfl, hb4⟩
      have V4 : Hid (VB w k n u w4) := V2.out.next hb4
      have hf4 : w4.heap[g2]? = some (.cells #[.string A, .string BH, .bool t3, .int .i64 d, .int .i64 p] 26 (0, 0)) := by rw [hb4.block _ (Array.getElem?_eq_some_iff.1 HFB.out).1]; exact HFB.out
      have d0 : w4.cell? ⟨g2, 0, none⟩ = some (.string A) := by simp only [World.cell?, hf4]; rfl
      have d1 : w4.cell? ⟨g2, 1, none⟩ = some (.string BH) := by simp only [World.cell?, hf4]; rfl
      have d2 : w4.cell? ⟨g2, 2, none⟩ = some (.bool t3) := by simp only [World.cell?, hf4]; rfl
      have d3 : w4.cell? ⟨g2, 3, none⟩ = some (.int .i64 d) := by simp only [World.cell?, hf4]; rfl
      have d4 : w4.cell? ⟨g2, 4, none⟩ = some (.int .i64 p) := by simp only [World.cell?, hf4]; rfl
      clear hb4 V2 c0 c1 c2 HFB hf4 HRS
      obtain ⟨c0, c1, c2⟩ := V4.out.cells
      have htt : (T.toList == T.toList) = true := by simp
      by_cases hk : k = 1
      · subst hk
        have hr3 := HR3.out rfl
        clear HR3 HRN hv ho
        go_wp2_with fail
        refine (hr3 _).mono ?_
        rintro e w5 ⟨rfl, hb5⟩
        have V5 : Hid (VB w 1 n u w5) := V4.out.next hb5
        clear hb5 V4 c0 c1 c2 d0 d1 d2 d3 d4 hr3
        go_wp2_with fail
        refine (hchk' _).mono ?_
        rintro e w6 ⟨rfl, hb6⟩
        have V6 : Hid (VB w 1 n u w6) := V5.out.next hb6
        clear hb6 V5 hchk'
        go_wp2_with fail
        refine (HER'.out _ V6.out.below).mono ?_
        rintro e w7 ⟨rfl, hb7⟩
        have V7 : Hid (VB w 1 n u w7) := V6.out.next hb7
        clear hb7 V6
        obtain ⟨c0, c1, c2⟩ := V7.out.cells
        go_wp2_with fail
        refine (HSH'.out _ V7.out.below).mono ?_
        rintro e w8 ⟨rfl, hb8⟩
        have V8 : Hid (VB w 1 n u w8) := V7.out.next hb8
        clear hb8 V7 c0 c1 c2 HSH'
        go_wp2_with fail
        refine (HER'.out _ V8.out.below).mono ?_
        rintro e w9 ⟨rfl, hb9⟩
        have HB9 : Hid (Bw w w9) := V8.out.below.tr hb9
        clear hb9 V8 HER'
        go_wp2_with fail
        go_ret
        exact ⟨rfl, HB9.out⟩
      · have hk1 : (k == 1) = false := beq_eq_false_iff_ne.2 hk
        have hrn := HRN.out hk
        subst hrn
        clear HR3 HRN hk hv ho
        have V5 := V4
        clear V4 d0 d1 d2 d3 d4
        go_wp2_with fail
        clear c0 c1 c2
        refine (hchk' _).mono ?_
        rintro e w6 ⟨rfl, hb6⟩
        have V6 : Hid (VB w k n u w6) := V5.out.next hb6
        clear hb6 V5 hchk'
        go_wp2_with fail
        refine (HER'.out _ V6.out.below).mono ?_
        rintro e w7 ⟨rfl, hb7⟩
        have V7 : Hid (VB w k n u w7) := V6.out.next hb7
        clear hb7 V6
        obtain ⟨c0, c1, c2⟩ := V7.out.cells
        go_wp2_with fail
        refine (HSH'.out _ V7.out.below).mono ?_
        rintro e w8 ⟨rfl, hb8⟩
        have V8 : Hid (VB w k n u w8) := V7.out.next hb8
        clear hb8 V7 c0 c1 c2 HSH'
        go_wp2_with fail
        refine (HER'.out _ V8.out.below).mono ?_
        rintro e w9 ⟨rfl, hb9⟩
        have HB9 : Hid (Bw w w9) := V8.out.below.tr hb9
        clear hb9 V8 HER'
        go_wp2_with fail
        go_ret
        exact ⟨rfl, HB9.out⟩
end Go.Proofs.YtnelglmbckgbgaaGreatDoor.fw

/- Package eval: a call whose arguments are all worked out. Conditions: as each theorem says. -/
import Derived.Test.YtoaejcppfmjhdaaGreatDoorEi
import Derived.Test.YtoaejcppfmjhdaaGreatDoorEf
namespace Go.Proofs.YtoaejcppfmjhdaaGreatDoor.ev
open Go.RowKit
/-- A function with a body is entered. -/
theorem enters {K : Nat} {fn : Func} (h : Tryz.prog.funcs[K]? = some fn) (h1 : decide (fn.name = "runtime.NumGoroutine") = false) (h2 : fn.body.isNone = false) (v : Value) (w : World) : Sem.run Tryz.prog (callFunc K #[v]) w = .ok (.enter K #[v]) w := by
  simp [callFunc, go_sem, h]
  rw [if_neg (of_decide_eq_false h1), if_neg (fun e => by rw [e] at h2; cases h2)]
set_option maxRecDepth 100000 in
set_option maxHeartbeats 1600000 in
theorem taking1_any (M : Value) (pk : Option Addr) (n c : Nat) (L : ByteArray) (K p q : Nat) (F : (Nat → Nat → Value) → Prop) (k m : Int) (z : ByteArray) (w : World) (ht : Taking w L K p q) (hE : Hid (∀ v wx, Sem.run Tryz.prog (callFunc K #[v]) wx = .ok (.enter K #[v]) wx))
    (HA : Hid (∀ wx, Below w.heap.size w wx → Calls Tryz.prog 246 #[.agg #[M, .slice pk n c], .string L] wx fun e w' => ∃ A cs, e = .returned (.tuple #[.slice (some ⟨A, 0, none⟩) n n, VV 0 0 nul]) ∧ AB w' A n cs ∧ F cs ∧ Below wx.heap.size wx w'))
    (HK : Hid (∀ wx A cs, AB wx A n cs → F cs → Below w.heap.size w wx → Calls Tryz.prog K #[.slice (some ⟨A, 0, none⟩) n n] wx fun e w' => e = .returned (VV k m z) ∧ Below wx.heap.size wx w')) :
    Calls Tryz.prog 245 #[.agg #[M, .slice pk n c], .pointer (some ⟨p, 0, none⟩), .pointer (some ⟨q, 0, none⟩)] w fun e w' => e = .returned (VV k m z) ∧ Below w.heap.size w w' := by
  have HI : Hid (∀ wx, Calls Tryz.prog 170 #[VV 0 0 nul] wx fun e w' => e = .returned (.bool false) ∧ Below wx.heap.size wx w') := fun wx => isBad_any 0 0 nul wx
  obtain ⟨W, hW⟩ : ∃ W, W = (w.alloc (.cells #[M, .slice pk n c] 123)).alloc (.cells #[.int .i64 0, .int .i64 0, .string nul] 31) := ⟨_, rfl⟩
  have hbW : Below w.heap.size w W := by rw [hW]; exact ((Below.refl _ _).alloc (Nat.le_refl _) _).alloc (by simp) _
  obtain ⟨hA, hR⟩ := two_new w (.cells #[M, .slice pk n c] 123) (.cells #[.int .i64 0, .int .i64 0, .string nul] 31)
  rw [← hW] at hA hR
  have htW := ht.below hbW
  have HT : Hid (Taking W L K p q) := htW
  have HR : Hid (W.heap[w.heap.size + 1]? = some (.cells #[.int .i64 0, .int .i64 0, .string nul] 31 (0, 0))) := hR
  have HBW : Hid (Below w.heap.size w W) := hbW
  have m0 : W.cell? ⟨w.heap.size, 0, none⟩ = some M := by simp [World.cell?, hA]
  have m1 : W.cell? ⟨w.heap.size, 1, none⟩ = some (.slice pk n c) := by simp [World.cell?, hA]
  have m2 : W.cell? ⟨p, 0, none⟩ = some (.string L) := by simp [World.cell?, htW.letters]
  have HWW : Hid ((w.alloc (.cells #[M, .slice pk n c] 123)).alloc (.cells #[.int .i64 0, .int .i64 0, .string nul] 31) = W) := hW.symm
  rw [hW] at m0 m1 m2
  clear hA hR htW hW hbW ht
  go_enter Tryz.func245, Tryz.ntmps245
  go_wp2_with fail
  rw [HWW.out] at *
  refine (HA.out _ HBW.out).mono ?_
  clear m0 m1 m2
  rintro e w1 ⟨A, cs, rfl, hab, hF, hb1⟩
  have HF : Hid (F cs) := hF
  obtain ⟨V1, hV⟩ : ∃ V1, V1 = w1.alloc (.cells #[.int .i64 0, .int .i64 0, .string nul] 31) := ⟨_, rfl⟩
  have hbv : Below w1.heap.size w1 V1 := by rw [hV]; exact (Below.refl _ _).alloc (Nat.le_refl _) _
  have hbW1 : Below W.heap.size W V1 := bnext hb1 hbv hb1.size
  have HAB : Hid (AB V1 A n cs) := hab.below hbv
  have HR1 : Hid (V1.heap[w.heap.size + 1]? = some (.cells #[.int .i64 0, .int .i64 0, .string nul] 31 (0, 0))) := (hbW1.block _ (fm.lt_blk HR.out)).trans HR.out
  have HB1 : Hid (Below w.heap.size w V1) := bnext HBW.out hbW1 HBW.out.size
  have HT1 : Hid (Taking V1 L K p q) := HT.out.below hbW1
  have hV0 : V1.heap[w1.heap.size]? = some (.cells #[.int .i64 0, .int .i64 0, .string nul] 31 (0, 0)) := by rw [hV]; exact heap_alloc_new _ _
  have v0 : V1.cell? ⟨w1.heap.size, 0, none⟩ = some (.int .i64 0) := by simp [World.cell?, hV0]
  have v1 : V1.cell? ⟨w1.heap.size, 1, none⟩ = some (.int .i64 0) := by simp [World.cell?, hV0]
  have v2 : V1.cell? ⟨w1.heap.size, 2, none⟩ = some (.string nul) := by simp [World.cell?, hV0]
  rw [hV] at v0 v1 v2
  have HVV : Hid (w1.alloc (.cells #[.int .i64 0, .int .i64 0, .string nul] 31) = V1) := hV.symm
  clear hV hV0 hF hab hb1 hbv hbW1 HWW HR HBW HT
  go_wp2_with fail
  rw [HVV.out] at *
  refine (HI.out _).mono ?_
  clear v0 v1 v2
  rintro e w3 ⟨rfl, hb3⟩
  have HAB3 : Hid (AB w3 A n cs) := HAB.out.below hb3
  have hR3 : w3.heap[w.heap.size + 1]? = some (.cells #[.int .i64 0, .int .i64 0, .string nul] 31 (0, 0)) := (hb3.block _ (fm.lt_blk HR1.out)).trans HR1.out
  have HR3 : Hid (w3.heap[w.heap.size + 1]? = some (.cells #[.int .i64 0, .int .i64 0, .string nul] 31 (0, 0))) := hR3
  have HB3 : Hid (Below w.heap.size w w3) := bnext HB1.out hb3 HB1.out.size
  have ht3 := HT1.out.below hb3
  have en := hE.out (.slice (some ⟨A, 0, none⟩) n n) w3
  have m4 : w3.cell? ⟨q, 0, none⟩ = some (.func (.func K) #[] #[]) := by simp [World.cell?, ht3.work]
  clear hb3 hR3 ht3 HAB HR1 HB1 HT1 HVV
  go_wp2_with fail
  refine (HK.out _ _ _ HAB3.out HF.out HB3.out).mono ?_
  clear m4 en
  rintro e w4 ⟨rfl, hb4⟩
  have hq1 : w4.heap[w.heap.size + 1]? = some (.cells #[.int .i64 0, .int .i64 0, .string nul] 31 (0, 0)) := (hb4.block _ (fm.lt_blk HR3.out)).trans HR3.out
  have HB : Hid (Below w.heap.size w w4) := bnext HB3.out hb4 HB3.out.size
  have c0 : w4.cell? ⟨w.heap.size + 1, 0, none⟩ = some (.int .i64 0) := by simp [World.cell?, hq1]
  have c1 : w4.cell? ⟨w.heap.size + 1, 1, none⟩ = some (.int .i64 0) := by simp [World.cell?, hq1]
  have c2 : w4.cell? ⟨w.heap.size + 1, 2, none⟩ = some (.string nul) := by simp [World.cell?, hq1]
  have f0 : ∀ o, w4.frozen? ⟨w.heap.size + 1, o, none⟩ = false := fun o => by simp [World.frozen?, hq1]
  have HQ1 : Hid (w4.heap[w.heap.size + 1]? = some (.cells #[.int .i64 0, .int .i64 0, .string nul] 31 (0, 0))) := hq1
  clear hq1 hb4 HAB3 HF HR3 HB3 HA HK HI
  go_wp2_with fail
  refine fin3 HQ1.out (Q := bodyPost _ _ _ _ _) ?_
  clear c0 c1 c2 f0
  intro w2 hq2 hk2
  obtain ⟨d0, d1, d2⟩ := cells3v hq2
  exact bodyPost_ret (v := VV k m z) (by simp [results, Tryz.results245, go_sem, d0, d1, d2]) rfl ⟨rfl, HB.out.trans (hk2 _ (by omega))⟩
theorem eq_fn (p q : Nat) (W : World) : (binOp BinOp.eql 118 (.func (.func 245) #[] #[.pointer (some ⟨p, 0, none⟩), .pointer (some ⟨q, 0, none⟩)]) Value.nilFunc).run Tryz.prog W = .ok (.bool false) W := by
  have h : (Op.equal 118 (.func (.func 245) #[] #[.pointer (some ⟨p, 0, none⟩), .pointer (some ⟨q, 0, none⟩)]) Value.nilFunc).run Tryz.prog W = .ok false W := by
    unfold Op.equal
    rw [show Op.maxDepth = Op.maxDepth - 1 + 1 from rfl]
    unfold Op.equalIn
    simp [go_sem]
  simp [binOp, go_sem, h]
end Go.Proofs.YtoaejcppfmjhdaaGreatDoor.ev
/- Package eval: a call by its name. Conditions: as each theorem says. -/
namespace Go.Proofs.YtoaejcppfmjhdaaGreatDoor.ev
open Go.RowKit
set_option maxRecDepth 100000 in
set_option maxHeartbeats 1600000 in
theorem call_any (mb : Option Nat) (nm : ByteArray) (pk : Option Addr) (n c : Nat) (L : ByteArray) (K : Nat) (F : (Nat → Nat → Value) → Prop) (k m : Int) (z : ByteArray) (w : World) (hE : Hid (∀ v wx, Sem.run Tryz.prog (callFunc K #[v]) wx = .ok (.enter K #[v]) wx))
    (HF : Hid (∀ wx, Calls Tryz.prog 83 #[.string nm] wx fun e w' => ∃ p q, e = .returned (fnV n p q) ∧ Taking w' L K p q ∧ Below wx.heap.size wx w'))
    (HA : Hid (∀ wx, Below w.heap.size w wx → Calls Tryz.prog 246 #[.agg #[.map mb, .slice pk n c], .string L] wx fun e w' => ∃ A cs, e = .returned (.tuple #[.slice (some ⟨A, 0, none⟩) n n, VV 0 0 nul]) ∧ AB w' A n cs ∧ F cs ∧ Below wx.heap.size wx w'))
    (HK : Hid (∀ wx A cs, AB wx A n cs → F cs → Below w.heap.size w wx → Calls Tryz.prog K #[.slice (some ⟨A, 0, none⟩) n n] wx fun e w' => e = .returned (VV k m z) ∧ Below wx.heap.size wx w')) :
    Calls Tryz.prog 50 #[.map mb, fm.NV 9 0 nm .z .z (.slice pk n c)] w fun e w' => e = .returned (VV k m z) ∧ Below w.heap.size w w' := by
  obtain ⟨W, hW⟩ : ∃ W, W = (w.alloc (.cells (fm.N12 9 0 nm .z .z (.slice pk n c)) 28)).alloc (.cells #[.int .i64 0, .int .i64 0, .string nul] 31) := ⟨_, rfl⟩
  have hbW : Below w.heap.size w W := by rw [hW]; exact ((Below.refl _ _).alloc (Nat.le_refl _) _).alloc (by simp) _
  obtain ⟨hA, hR⟩ := two_new w (.cells (fm.N12 9 0 nm .z .z (.slice pk n c)) 28) (.cells #[.int .i64 0, .int .i64 0, .string nul] 31)
  rw [← hW] at hA hR
  have HN : Hid (W.heap[w.heap.size]? = some (.cells (fm.N12 9 0 nm .z .z (.slice pk n c)) 28 (0, 0))) := hA
  have HR : Hid (W.heap[w.heap.size + 1]? = some (.cells #[.int .i64 0, .int .i64 0, .string nul] 31 (0, 0))) := hR
  have HBW : Hid (Below w.heap.size w W) := hbW
  obtain ⟨⟨a0, a1, a2, a3, a4, a5, a6, a7, a8, a9, a10, a11⟩, -⟩ := fm.cells12 hA
  have HWW : Hid ((w.alloc (.cells (fm.N12 9 0 nm .z .z (.slice pk n c)) 28)).alloc (.cells #[.int .i64 0, .int .i64 0, .string nul] 31) = W) := hW.symm
  rw [hW] at a0 a1 a2 a3 a4 a5 a6 a7 a8 a9 a10 a11
  clear hA hR hW hbW
  go_enter Tryz.func50, Tryz.ntmps50
  go_wp2_with fail
  rw [HWW.out] at *
  refine (HF.out _).mono ?_
  clear a0 a1 a2 a3 a4 a5 a6 a7 a8 a9 a10 a11
  rintro e w1 ⟨p, q, rfl, ht, hb1⟩
  obtain ⟨V1, hV⟩ : ∃ V1, V1 = w1.alloc (.cells #[.int .i64 n, .int .i64 n, .func (.func 245) #[] #[.pointer (some ⟨p, 0, none⟩), .pointer (some ⟨q, 0, none⟩)]] 120) := ⟨_, rfl⟩
  have hbv : Below w1.heap.size w1 V1 := by rw [hV]; exact (Below.refl _ _).alloc (Nat.le_refl _) _
  have hbW1 : Below W.heap.size W V1 := bnext hb1 hbv hb1.size
  have HT1 : Hid (Taking V1 L K p q) := ht.below hbv
  have hN1 : V1.heap[w.heap.size]? = some (.cells (fm.N12 9 0 nm .z .z (.slice pk n c)) 28 (0, 0)) := (hbW1.block _ (fm.lt_blk HN.out)).trans HN.out
  have HR1 : Hid (V1.heap[w.heap.size + 1]? = some (.cells #[.int .i64 0, .int .i64 0, .string nul] 31 (0, 0))) := (hbW1.block _ (fm.lt_blk HR.out)).trans HR.out
  have HB1 : Hid (Below w.heap.size w V1) := bnext HBW.out hbW1 HBW.out.size
  have HX : Hid (∀ wx, wx = V1 → Calls Tryz.prog 245 #[.agg #[.map mb, .slice pk n c], .pointer (some ⟨p, 0, none⟩), .pointer (some ⟨q, 0, none⟩)] wx fun e w' => e = .returned (VV k m z) ∧ Below wx.heap.size wx w') := fun wx hx => by
    subst hx
    exact taking1_any (.map mb) pk n c L K p q F k m z _ HT1.out hE (fun wy hy => HA.out wy (bnext HB1.out hy HB1.out.size)) (fun wy A cs h1 h2 h3 => HK.out wy A cs h1 h2 (bnext HB1.out h3 HB1.out.size))
  have hV0 : V1.heap[w1.heap.size]? = some (.cells #[.int .i64 n, .int .i64 n, .func (.func 245) #[] #[.pointer (some ⟨p, 0, none⟩), .pointer (some ⟨q, 0, none⟩)]] 120 (0, 0)) := by rw [hV]; exact heap_alloc_new _ _
  obtain ⟨v0, v1, v2⟩ := cells3v hV0
  have ef := eq_fn p q V1
  obtain ⟨⟨a0, a1, a2, a3, a4, a5, a6, a7, a8, a9, a10, a11⟩, -⟩ := fm.cells12 hN1
  rw [hV] at v0 v1 v2 ef a0 a1 a2 a3 a4 a5 a6 a7 a8 a9 a10 a11
  have HVV : Hid (w1.alloc (.cells #[.int .i64 n, .int .i64 n, .func (.func 245) #[] #[.pointer (some ⟨p, 0, none⟩), .pointer (some ⟨q, 0, none⟩)]] 120) = V1) := hV.symm
  clear hV hV0 ht hb1 hbv hbW1 hN1 HWW HR HBW HN HT1 HA HK HF
  go_wp2_with fail
  rw [HVV.out] at *
  refine (HX.out _ rfl).mono ?_
  clear v0 v1 v2 ef a0 a1 a2 a3 a4 a5 a6 a7 a8 a9 a10 a11
  rintro e w4 ⟨rfl, hb4⟩
  have hq1 : w4.heap[w.heap.size + 1]? = some (.cells #[.int .i64 0, .int .i64 0, .string nul] 31 (0, 0)) := (hb4.block _ (fm.lt_blk HR1.out)).trans HR1.out
  have HB : Hid (Below w.heap.size w w4) := bnext HB1.out hb4 HB1.out.size
  have c0 : w4.cell? ⟨w.heap.size + 1, 0, none⟩ = some (.int .i64 0) := by simp [World.cell?, hq1]
  have c1 : w4.cell? ⟨w.heap.size + 1, 1, none⟩ = some (.int .i64 0) := by simp [World.cell?, hq1]
  have c2 : w4.cell? ⟨w.heap.size + 1, 2, none⟩ = some (.string nul) := by simp [World.cell?, hq1]
  have f0 : ∀ o, w4.frozen? ⟨w.heap.size + 1, o, none⟩ = false := fun o => by simp [World.frozen?, hq1]
  have HQ1 : Hid (w4.heap[w.heap.size + 1]? = some (.cells #[.int .i64 0, .int .i64 0, .string nul] 31 (0, 0))) := hq1
  clear hq1 hb4 HR1 HB1 HX HVV
  go_wp2_with fail
  refine fin3 HQ1.out (Q := bodyPost _ _ _ _ _) ?_
  clear c0 c1 c2 f0
  intro w2 hq2 hk2
  obtain ⟨d0, d1, d2⟩ := cells3v hq2
  exact bodyPost_ret (v := VV k m z) (by simp [results, Tryz.results50, go_sem, d0, d1, d2]) rfl ⟨rfl, HB.out.trans (hk2 _ (by omega))⟩
end Go.Proofs.YtoaejcppfmjhdaaGreatDoor.ev

/- The law EvalCuts: its small functions. Conditions: as each theorem says. -/
import Derived.Test.YtoaejcppfmjhdaaGreatDoorEr
import Derived.Test.YtoaejcppfmjhdaaGreatDoorQe
import Derived.Test.YtoaejcppfmjhdaaGreatDoorEt
import Derived.Laws.StructEq
namespace Go.Proofs.YtoaejcppfmjhdaaGreatDoor.ev
open Go.RowKit
theorem rnum (n : Int) (w : World) : Calls Tryz.prog 10 #[.int .i64 n] w fun e w' => e = .returned (VV 1 n nul) ∧ Below w.heap.size w w' := by
  go_enter Tryz.func10, Tryz.ntmps10
  go_wp2_with fail
  exact bodyPost_ret (v := VV 1 n nul) (by simp [results, Tryz.results10, go_sem]) rfl ⟨rfl, by (repeat (first | exact Below.refl _ _ | assumption | (refine Below.setCell ?_ (by first | omega | (simp <;> omega)) _) | (refine Below.alloc ?_ (by first | omega | (simp <;> omega)) _) | (refine Below.drew ?_)))⟩
theorem rtxt (t : ByteArray) (w : World) : Calls Tryz.prog 21 #[.string t] w fun e w' => e = .returned (VV 2 0 t) ∧ Below w.heap.size w w' := by
  go_enter Tryz.func21, Tryz.ntmps21
  go_wp2_with fail
  exact bodyPost_ret (v := VV 2 0 t) (by simp [results, Tryz.results21, go_sem]) rfl ⟨rfl, by (repeat (first | exact Below.refl _ _ | assumption | (refine Below.setCell ?_ (by first | omega | (simp <;> omega)) _) | (refine Below.alloc ?_ (by first | omega | (simp <;> omega)) _) | (refine Below.drew ?_)))⟩
theorem rtru  (w : World) : Calls Tryz.prog 22 #[.bool true] w fun e w' => e = .returned (VV 3 1 nul) ∧ Below w.heap.size w w' := by
  go_enter Tryz.func22, Tryz.ntmps22
  go_wp2_with fail
  exact bodyPost_ret (v := VV 3 1 nul) (by simp [results, Tryz.results22, go_sem]) rfl ⟨rfl, by (repeat (first | exact Below.refl _ _ | assumption | (refine Below.setCell ?_ (by first | omega | (simp <;> omega)) _) | (refine Below.alloc ?_ (by first | omega | (simp <;> omega)) _) | (refine Below.drew ?_)))⟩
theorem lat (c r : Int) (w : World) : Calls Tryz.prog 19 #[.int .i64 c, .int .i64 r] w fun e w' => e = .returned (.agg #[.int .i64 c, .int .i64 r]) ∧ Below w.heap.size w w' := by
  go_enter Tryz.func19, Tryz.ntmps19
  go_wp2_with fail
  exact bodyPost_ret (v := .agg #[.int .i64 c, .int .i64 r]) (by simp [results, Tryz.results19, go_sem]) rfl ⟨rfl, by (repeat (first | exact Below.refl _ _ | assumption | (refine Below.setCell ?_ (by first | omega | (simp <;> omega)) _) | (refine Below.alloc ?_ (by first | omega | (simp <;> omega)) _) | (refine Below.drew ?_)))⟩
theorem lcall (nm : ByteArray) (p : Option Addr) (q c : Nat) (w : World) : Calls Tryz.prog 15 #[.string nm, .slice p q c] w fun e w' => e = .returned (fm.NV 9 0 nm .z .z (.slice p q c)) ∧ Below w.heap.size w w' := by
  go_enter Tryz.func15, Tryz.ntmps15
  go_wp2_with fail
  exact bodyPost_ret (v := fm.NV 9 0 nm .z .z (.slice p q c)) (by simp [results, Tryz.results15, go_sem]) rfl ⟨rfl, by (repeat (first | exact Below.refl _ _ | assumption | (refine Below.setCell ?_ (by first | omega | (simp <;> omega)) _) | (refine Below.alloc ?_ (by first | omega | (simp <;> omega)) _) | (refine Below.drew ?_)))⟩
end Go.Proofs.YtoaejcppfmjhdaaGreatDoor.ev
/- The law EvalCuts, walked. Conditions: the package variables as the program's text lays them. -/
namespace Go.Proofs.YtoaejcppfmjhdaaGreatDoor.ev
open Go.RowKit
theorem eqIn31 (k n : Int) (s : ByteArray) (W : World) : (Op.equalIn 10000 31 (VV k n s) (VV k n s)).run Tryz.prog W = .ok true W := by
  have hS : Tryz.prog.underlying 31 = some (.struct (Tryz.prog.fieldsOf 31)) := by kernel_rfl
  have hp : Tryz.prog.stoodInHeld 31 = false := by kernel_rfl
  rw [run_equalIn_struct W 9999 31 _ _ hS hp]
  simp only [Program.fieldsOf, Tryz.underlying31]
  simp [Op.eqFields, go_sem]
theorem neq31 (k n : Int) (s : ByteArray) (W : World) : (binOp BinOp.neq 31 (VV k n s) (VV k n s)).run Tryz.prog W = .ok (.bool false) W := by
  rw [run_neq_struct, eqIn31]; rfl
theorem eql31 (k n : Int) (s : ByteArray) (W : World) : (binOp BinOp.eql 31 (VV k n s) (VV k n s)).run Tryz.prog W = .ok (.bool true) W := by
  rw [run_eql_struct, eqIn31]; rfl
/-- Blocks of a world. -/
def Blks (w : World) (L : List (Nat × Array Value × TypeId)) : Prop := ∀ x ∈ L, w.heap[x.1]? = some (.cells x.2.1 x.2.2 (0, 0))
theorem Blks.next {w w' : World} {L : List (Nat × Array Value × TypeId)} (h : Blks w L) (hb : Below w.heap.size w w') : Blks w' L := fun x hx => (hb.block _ (fm.lt_blk (h x hx))).trans (h x hx)
theorem Blks.alloc {w : World} {L : List (Nat × Array Value × TypeId)} (h : Blks w L) (cs : Array Value) (t : TypeId) : Blks (w.alloc (.cells cs t)) ((w.heap.size, cs, t) :: L) := fun x hx => by
  rcases List.mem_cons.1 hx with rfl | hx
  · exact heap_alloc_new w _
  · exact h.next ((Below.refl _ _).alloc (Nat.le_refl _) _) x hx
/-- The state of the law's walk. -/
structure LS (w : World) (L : List (Nat × Array Value × TypeId)) (wx : World) : Prop where
  blks : Blks wx L
  below : Below w.heap.size w wx
theorem LS.next {w wx wy : World} {L : List (Nat × Array Value × TypeId)} (h : LS w L wx) (hb : Below wx.heap.size wx wy) : LS w L wy := ⟨h.blks.next hb, bnext h.below hb h.below.size⟩
theorem LS.alloc {w wx : World} {L : List (Nat × Array Value × TypeId)} (h : LS w L wx) (cs : Array Value) (t : TypeId) : LS w ((wx.heap.size, cs, t) :: L) (wx.alloc (.cells cs t)) := ⟨h.blks.alloc cs t, h.below.alloc h.below.size _⟩
theorem LS.allocAt {w wx : World} {L : List (Nat × Array Value × TypeId)} (h : LS w L wx) (cs : Array Value) (t : TypeId) {g : Nat} (hg : g = wx.heap.size) : LS w ((g, cs, t) :: L) (wx.alloc (.cells cs t)) := by subst hg; exact h.alloc cs t
theorem LS.sub {w wx : World} {L L' : List (Nat × Array Value × TypeId)} (h : LS w L wx) (hs : ∀ x ∈ L', x ∈ L) : LS w L' wx := ⟨fun x hx => h.blks x (hs x hx), h.below⟩
theorem in_leaf {w : World} {k n : Int} {s : ByteArray} {r t : fm.Rf} : In w (fm.NV k n s r t (.slice none 0 0)) (.nd k n s r t []) := fm.Nd.leaf
theorem in_kids {w : World} {k n : Int} {s : ByteArray} {r t : fm.Rf} {g q : Nat} {us : List Value} {ts : List fm.T} {cs : Array Value} {ty : TypeId} (hb : w.heap[g]? = some (.cells cs ty (0, 0))) (hq : q = us.length) (hl : us.length = ts.length) (hc : (fm.cellsL us).toArray = cs) (h : ∀ (i : Nat) u t', us[i]? = some u → ts[i]? = some t' → In w u t') :
    In w (fm.NV k n s r t (.slice (some ⟨g, 0, none⟩) q q)) (.nd k n s r t ts) :=
  .mk (fm.Kids.made hb hq (fun i x hx => by rw [← hc]; simpa using hx) (fm.lt_blk hb) (Nat.le_refl _)) hl h
theorem in1 {w : World} {k n : Int} {s : ByteArray} {r t : fm.Rf} {g : Nat} {u : Value} {a : fm.T} {cs : Array Value} {ty : TypeId} (hb : w.heap[g]? = some (.cells cs ty (0, 0))) (hc : (fm.cellsL [u]).toArray = cs) (h0 : In w u a) : In w (fm.NV k n s r t (.slice (some ⟨g, 0, none⟩) 1 1)) (.nd k n s r t [a]) :=
  in_kids hb (us := [u]) rfl rfl hc (fun i u t' h1 h2 => by
    match i, h1, h2 with
    | 0, h1, h2 => simp at h1 h2; subst h1 h2; exact h0)
theorem in2 {w : World} {k n : Int} {s : ByteArray} {r t : fm.Rf} {g : Nat} {u v : Value} {a b : fm.T} {cs : Array Value} {ty : TypeId} (hb : w.heap[g]? = some (.cells cs ty (0, 0))) (hc : (fm.cellsL [u, v]).toArray = cs) (h0 : In w u a) (h1 : In w v b) : In w (fm.NV k n s r t (.slice (some ⟨g, 0, none⟩) 2 2)) (.nd k n s r t [a, b]) :=
  in_kids hb (us := [u, v]) rfl rfl hc (fun i u t' q1 q2 => by
    match i, q1, q2 with
    | 0, q1, q2 => simp at q1 q2; subst q1 q2; exact h0
    | 1, q1, q2 => simp at q1 q2; subst q1 q2; exact h1)
theorem in3 {w : World} {k n : Int} {s : ByteArray} {r t : fm.Rf} {g : Nat} {u v x : Value} {a b c : fm.T} {cs : Array Value} {ty : TypeId} (hb : w.heap[g]? = some (.cells cs ty (0, 0))) (hc : (fm.cellsL [u, v, x]).toArray = cs) (h0 : In w u a) (h1 : In w v b) (h2 : In w x c) : In w (fm.NV k n s r t (.slice (some ⟨g, 0, none⟩) 3 3)) (.nd k n s r t [a, b, c]) :=
  in_kids hb (us := [u, v, x]) rfl rfl hc (fun i u t' q1 q2 => by
    match i, q1, q2 with
    | 0, q1, q2 => simp at q1 q2; subst q1 q2; exact h0
    | 1, q1, q2 => simp at q1 q2; subst q1 q2; exact h1
    | 2, q1, q2 => simp at q1 q2; subst q1 q2; exact h2)
theorem ckd_of {t : fm.T} {x : List UInt8} {d : Nat} (h : fm.W fm.ink t x d) (h6 : t.kd ≠ 6) (hc : t.cnt ≤ 200) (hl : x.length + 1 ≤ 200) (hd : d ≤ 30) : fm.Ckd t := ⟨x, d, h, h6, hc, hl, hd⟩
theorem ckd_X : fm.Ckd tX := ckd_of w_X (by decide) (by simp [fm.cnt_eq, fm.cntL]) (by decide) (by decide)
theorem ckd_Y : fm.Ckd tY := ckd_of w_Y (by decide) (by simp [fm.cnt_eq, fm.cntL]) (by decide) (by decide)
theorem ckd_Z : fm.Ckd tZ := ckd_of w_Z (by decide) (by simp [fm.cnt_eq, fm.cntL]) (by decide) (by decide)
theorem ckd_F : fm.Ckd tF := ckd_of w_F (by decide) (by simp [fm.cnt_eq, fm.cntL]) (by decide) (by decide)
theorem ckd_Fact : fm.Ckd tFact := ckd_of w_Fact (by decide) (by simp [fm.cnt_eq, fm.cntL]) (by decide) (by decide)
theorem shl_of {w : World} {g : Nat} {t : ByteArray} {n : Nat} (hb : w.heap[g]? = some (.cells #[.int .i64 1, .int .i64 1, .int .i64 2, .int .i64 0, .string t, .int .i64 0, .int .i64 0, .int .i64 2, .int .i64 1, .int .i64 1, .int .i64 (n : Int), .string nul, .int .i64 0, .int .i64 0, .int .i64 3, .int .i64 1, .int .i64 1, .int .i64 ((t.size : Int) - (n : Int)), .string nul, .int .i64 0, .int .i64 0, .int .i64 4, .int .i64 1, .int .i64 1, .int .i64 ((n : Int) + 1), .string nul, .int .i64 0, .int .i64 0] 40 (0, 0))) : ShL w (some ⟨g, 0, none⟩) (shs t n) := by
  refine .inr ⟨g, 0, rfl, fm.lt_blk hb, fun i x hx j v hv => ?_⟩
  have hc : ∀ o, w.cell? ⟨g, o, none⟩ = #[.int .i64 1, .int .i64 1, .int .i64 2, .int .i64 0, .string t, .int .i64 0, .int .i64 0, .int .i64 2, .int .i64 1, .int .i64 1, .int .i64 (n : Int), .string nul, .int .i64 0, .int .i64 0, .int .i64 3, .int .i64 1, .int .i64 1, .int .i64 ((t.size : Int) - (n : Int)), .string nul, .int .i64 0, .int .i64 0, .int .i64 4, .int .i64 1, .int .i64 1, .int .i64 ((n : Int) + 1), .string nul, .int .i64 0, .int .i64 0][o]? := fun o => by simp [World.cell?, hb]
  rw [hc]
  match i, hx with
  | 0, hx => simp at hx; subst hx; match j, hv with | 0, hv => exact hv | 1, hv => exact hv | 2, hv => exact hv | 3, hv => exact hv | 4, hv => exact hv | 5, hv => exact hv | 6, hv => exact hv
  | 1, hx => simp at hx; subst hx; match j, hv with | 0, hv => exact hv | 1, hv => exact hv | 2, hv => exact hv | 3, hv => exact hv | 4, hv => exact hv | 5, hv => exact hv | 6, hv => exact hv
  | 2, hx => simp at hx; subst hx; match j, hv with | 0, hv => exact hv | 1, hv => exact hv | 2, hv => exact hv | 3, hv => exact hv | 4, hv => exact hv | 5, hv => exact hv | 6, hv => exact hv
  | 3, hx => simp at hx; subst hx; match j, hv with | 0, hv => exact hv | 1, hv => exact hv | 2, hv => exact hv | 3, hv => exact hv | 4, hv => exact hv | 5, hv => exact hv | 6, hv => exact hv
theorem shok_of {t : ByteArray} {n : Nat} (ht : t.size ≤ 100) : ShOk (shs t n) := fun i x hx => by
  match i, hx with
  | 0, hx => simp at hx; subst hx; exact ⟨show adr.isC 1 1 = true by decide, Option.isSome_iff_exists.1 (by kernel_rfl), fun wx => vcheckT t (by omega) wx⟩
  | 1, hx => simp at hx; subst hx; exact ⟨show adr.isC 2 1 = true by decide, Option.isSome_iff_exists.1 (by kernel_rfl), fun wx => vcheckN _ wx⟩
  | 2, hx => simp at hx; subst hx; exact ⟨show adr.isC 3 1 = true by decide, Option.isSome_iff_exists.1 (by kernel_rfl), fun wx => vcheckN _ wx⟩
  | 3, hx => simp at hx; subst hx; exact ⟨show adr.isC 4 1 = true by decide, Option.isSome_iff_exists.1 (by kernel_rfl), fun wx => vcheckN _ wx⟩
end Go.Proofs.YtoaejcppfmjhdaaGreatDoor.ev

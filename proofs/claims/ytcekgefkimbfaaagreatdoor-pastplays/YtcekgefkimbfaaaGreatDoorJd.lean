/- Package addr: Compare, with the world that it leaves, exactly; slices.SortFunc at a list of cells with their texts. Conditions: as each theorem says. -/
import Derived.Test.YtcekgefkimbfaaaGreatDoorJa
import Derived.Shelf.SlSortCmp.KitK
import Derived.Sort.Statements
import Derived.Deep.LoopGhost
import Derived.Deep.CutBlock
namespace Go.Proofs.YtcekgefkimbfaaaGreatDoor.ps
open Go.RowKit Go.Sort
open adr (C)
/-- Draws and new blocks, nothing else. -/
def Gr (w w' : World) : Prop := ∃ (q : Nat) (os : Array Obj), w' = grow (w.drewN q) os
theorem Gr.refl (w : World) : Gr w w := ⟨0, #[], by rw [grow_empty]; rfl⟩
theorem Gr.trans {a b c : World} (h : Gr a b) (h2 : Gr b c) : Gr a c := by
  obtain ⟨q, os, rfl⟩ := h
  obtain ⟨q', os', rfl⟩ := h2
  refine ⟨q + q', os ++ os', ?_⟩
  unfold grow World.drewN
  simp [Array.append_assoc, Nat.add_assoc]
theorem Gr.alloc {a b : World} (h : Gr a b) (o : Obj) : Gr a (b.alloc o) := h.trans ⟨0, #[o], by rw [alloc_eq_grow]; rfl⟩
theorem Gr.drew {a b : World} (h : Gr a b) : Gr a b.drew := h.trans ⟨1, #[], by rw [grow_empty]; rfl⟩
theorem Gr.below {a b : World} (h : Gr a b) : Below a.heap.size a b := by
  obtain ⟨q, os, rfl⟩ := h
  refine ⟨rfl, rfl, rfl, by simp [grow, World.drewN], fun k hk => ?_⟩
  simp only [grow, World.drewN]
  rw [Array.getElem?_append_left hk]
structure PG (w : World) (a b c d : Int) (wx : World) : Prop where
  x : wx.heap[w.heap.size]? = some (.cells #[.int .i64 a, .int .i64 b] 34 (0, 0))
  y : wx.heap[w.heap.size + 1]? = some (.cells #[.int .i64 c, .int .i64 d] 34 (0, 0))
  gr : Gr w wx
theorem PG.start (w : World) (a b c d : Int) : PG w a b c d ((w.alloc (.cells #[.int .i64 a, .int .i64 b] 34)).alloc (.cells #[.int .i64 c, .int .i64 d] 34)) :=
  ⟨(PC.start w a b c d).x, (PC.start w a b c d).y, ((Gr.refl _).alloc _).alloc _⟩
theorem PG.next {w : World} {a b c d : Int} {wx wy : World} (h : PG w a b c d wx) (hb : Gr wx wy) : PG w a b c d wy := ⟨(hb.below.block _ (fm.lt_blk h.x)).trans h.x, (hb.below.block _ (fm.lt_blk h.y)).trans h.y, h.gr.trans hb⟩
abbrev PQ (w : World) (a b c d : Int) (wx : World) : Prop := wx.cell? ⟨w.heap.size, 0, none⟩ = some (.int .i64 a) ∧ wx.cell? ⟨w.heap.size, 1, none⟩ = some (.int .i64 b) ∧ wx.cell? ⟨w.heap.size + 1, 0, none⟩ = some (.int .i64 c) ∧ wx.cell? ⟨w.heap.size + 1, 1, none⟩ = some (.int .i64 d) ∧ PG w a b c d wx
theorem PG.opened {w : World} {a b c d : Int} {wx : World} (h : PG w a b c d wx) : PQ w a b c d wx :=
  ⟨by simp [World.cell?, h.x], by simp [World.cell?, h.x], by simp [World.cell?, h.y], by simp [World.cell?, h.y], h⟩
theorem pq {w : World} {a b c d : Int} {wx : World} (h : PQ w a b c d wx) : PG w a b c d wx := h.2.2.2.2
set_option maxRecDepth 100000 in
set_option maxHeartbeats 4000000 in
theorem compare_gr (a b c d : Int) (w : World) :
    Calls Tryz.prog 40 #[C a b, C c d] w fun e w' => e = .returned (.int .i64 (cmpC a b c d)) ∧ Gr w w' := by
  have hS := PG.start w a b c d
  rw [← cmpC_or]
  have HP : Hid (∀ x y wx, Calls Tryz.prog 57 #[.int .i64 x, .int .i64 y] wx fun e w' => e = .returned (.int .i64 (cmpI x y)) ∧ Gr wx w') := fun x y wx => (cmpInt_any x y wx).mono (fun e w' h => by obtain ⟨rfl, rfl⟩ := h; exact ⟨rfl, Gr.refl _⟩)
  have HO : Hid (∀ (p q : Int) (wx : World), Calls Tryz.prog 56 #[.slice (some ⟨wx.heap.size, 0, none⟩) 2 2] (wx.alloc (.cells #[.int .i64 p, .int .i64 q] 3)) fun e w' => e = .returned (.int .i64 (orI p q)) ∧ Gr (wx.alloc (.cells #[.int .i64 p, .int .i64 q] 3)) w') := fun p q wx => (or_any p q wx.heap.size _ (heap_alloc_new _ _)).mono (fun e w' h => by obtain ⟨rfl, rfl⟩ := h; exact ⟨rfl, Gr.refl _⟩)
  go_enter Tryz.func40, Tryz.ntmps40
  go_wp2_with fail
  generalize (w.alloc (.cells #[.int .i64 a, .int .i64 b] 34)).alloc (.cells #[.int .i64 c, .int .i64 d] 34) = W at *
  have h0d := (hS.next (Gr.refl _).drew).opened
  obtain ⟨y0, y1, y2, y3, -⟩ := hS.opened
  go_region_held3 (fun wx => PQ w a b c d wx) (first | exact h0d | exact ((pq (by assumption)).next (by assumption)).opened | exact ((pq (by assumption)).next ((Gr.refl _).alloc _)).opened) (first | (go_at_call 57; refine (HP.out _ _ _).mono ?_; rintro e w1 ⟨rfl, hb1⟩) | (go_at_call 56; refine (HO.out _ _ _).mono ?_; rintro e w3 ⟨rfl, hb3⟩; have hk3 := (pq (by assumption)).next hb3))
  all_goals
    go_wp2_with fail
    go_ret
    exact ⟨rfl, hk3.gr⟩
set_option maxRecDepth 100000 in
set_option maxHeartbeats 1600000 in
theorem cmp39_any (x y : Fl) (w : World) : Calls Tryz.prog 39 #[FV x, FV y] w fun e w' => e = .returned (.int .i64 (cmpC x.c x.r y.c y.r)) ∧ Gr w w' := by
  obtain ⟨xc, xr, xs⟩ := x
  obtain ⟨c, r, ys⟩ := y
  dsimp only [FV]
  have HC : Hid (∀ wx, Calls Tryz.prog 40 #[C xc xr, C c r] wx fun e w' => e = .returned (.int .i64 (cmpC xc xr c r)) ∧ Gr wx w') := compare_gr xc xr c r
  obtain ⟨h1, h2⟩ := two_new' w (.cells #[.int .i64 xc, .int .i64 xr, .string xs] 36) (.cells #[.int .i64 c, .int .i64 r, .string ys] 36)
  obtain ⟨y0, y1, y4⟩ := cells3 h1
  obtain ⟨y2, y3, y5⟩ := cells3 h2
  have HB : Hid (Gr w ((w.alloc (.cells #[.int .i64 xc, .int .i64 xr, .string xs] 36)).alloc (.cells #[.int .i64 c, .int .i64 r, .string ys] 36))) := ((Gr.refl _).alloc _).alloc _
  generalize cmpC xc xr c r = q at *
  clear h1 h2
  go_enter Tryz.func39, Tryz.ntmps39
  go_wp2_with fail
  refine (HC.out _).mono ?_
  rintro e w1 ⟨rfl, hb1⟩
  have HK : Hid (Gr w w1) := HB.out.trans hb1
  clear y0 y1 y2 y3 y4 y5 hb1
  go_wp2_with fail
  go_ret
  exact ⟨rfl, HK.out⟩
def cf39 (x y : Fl) : Int := cmpC x.c x.r y.c y.r
theorem lt39 (x y : Fl) : ltOf cf39 x y = lt x y.c y.r := rfl
theorem swo39 : SWO (ltOf cf39) where
  irrefl x := by rw [lt39, lt_no]; omega
  trans x y z h1 h2 := by rw [lt39, lt_iff] at *; omega
  ntrans x y z h1 h2 := by rw [lt39, lt_no] at *; omega
theorem lays39 [Inhabited Fl] (blk off size : Nat) (w : World) : CmpLays Tryz.prog 39 #[] fl3 3 cf39 blk off size w :=
  fun _ _ _ _ x y => cmp39_any x y _
theorem below_sorted {α : Type} [Inhabited α] (enc : α → List Value) (k : Nat) (w : World) (blk off m : Nat) (d : Array α) (os : Array Obj) {base : Nat} (h : base ≤ blk) (hw : base ≤ w.heap.size) : Below base w (sortWorldK enc k w blk off m d os) := by
  refine ⟨rfl, rfl, rfl, size_sortWorldK_c enc k w blk off m d os, fun i hi => ?_⟩
  unfold sortWorldK putRowK putRow mapBlock Go.Sort.ahead grow
  have hs : i < w.heap.size := Nat.lt_of_lt_of_le hi hw
  simp only
  rw [Array.getElem?_append_left (by simpa using hs), Array.getElem?_modify, if_neg (by omega)]
theorem PermIn_list {α : Type} [Inhabited α] {d d' : Array α} (h : PermIn 0 d.size d d') : d.toList.Perm d'.toList := by
  have h2 := h.2.2
  rw [Array.extract_size, show d.size = d'.size from h.1.symm, Array.extract_size] at h2
  exact h2.symm
theorem get_bang {α : Type} [Inhabited α] {l : List α} {i : Nat} (h : i < l.length) : l[i]? = some l[i]! := by
  rw [List.getElem?_eq_getElem h, getElem!_pos l i h]
end Go.Proofs.YtcekgefkimbfaaaGreatDoor.ps
/- Go's own stable sort at a list of cells with their texts: two pieces change places. Conditions: as each theorem says. -/
namespace Go.Proofs.YtcekgefkimbfaaaGreatDoor.ps
open Go.RowKit Go.Sort
/-- A cell with its text, and the place where it stood. -/
abbrev Ft : Type := Fl × Nat
def e3 (x : Ft) : List Value := fl3 x.1
theorem e3_len (x : Ft) : (e3 x).length = 3 := rfl
theorem swp_list {α : Type} [Inhabited α] (P Q S : List α) (x y : α) : swp (P ++ x :: (Q ++ y :: S)).toArray P.length (P.length + 1 + Q.length) = (P ++ y :: (Q ++ x :: S)).toArray := by
  have hx : (P ++ x :: (Q ++ y :: S)).toArray[P.length]! = x := by simp
  have hy : (P ++ x :: (Q ++ y :: S)).toArray[P.length + 1 + Q.length]! = y := by
    rw [show P.length + 1 + Q.length = (P ++ x :: Q).length by simp; omega, show P ++ x :: (Q ++ y :: S) = (P ++ x :: Q) ++ y :: S by simp]
    simp
  unfold swp
  rw [hx, hy]
  apply Array.ext'
  rw [Array.toList_setIfInBounds, Array.toList_setIfInBounds]
  rw [List.set_append_right _ _ (Nat.le_refl _), Nat.sub_self, List.set_cons_zero]
  rw [List.set_append_right _ _ (by omega), show P.length + 1 + Q.length - P.length = Q.length + 1 by omega, List.set_cons_succ, List.set_append_right _ _ (Nat.le_refl _), Nat.sub_self, List.set_cons_zero]
/-- The pieces after so many exchanges. -/
def sr {α : Type} (P A M B S : List α) (t : Nat) : List α := P ++ B.take t ++ A.drop t ++ M ++ A.take t ++ B.drop t ++ S
theorem sr_zero {α : Type} (P A M B S : List α) : sr P A M B S 0 = P ++ A ++ M ++ B ++ S := by simp [sr]
theorem sr_end {α : Type} (P A M B S : List α) (h : A.length = B.length) : sr P A M B S A.length = P ++ B ++ M ++ A ++ S := by
  unfold sr
  rw [List.take_of_length_le (l := B) (by omega), List.drop_of_length_le (l := B) (by omega), List.take_length, List.drop_length]
  simp
theorem sr_len {α : Type} (P A M B S : List α) (t : Nat) : (sr P A M B S t).length = (P ++ A ++ M ++ B ++ S).length := by
  unfold sr
  simp only [List.length_append, List.length_take, List.length_drop]
  omega
theorem sr_step {α : Type} [Inhabited α] (P A M B S : List α) (h : A.length = B.length) (t : Nat) (ht : t < A.length) : swp (sr P A M B S t).toArray (P.length + t) (P.length + A.length + M.length + t) = (sr P A M B S (t + 1)).toArray := by
  have hA : A.drop t = A[t] :: A.drop (t + 1) := List.drop_eq_getElem_cons ht
  have hB : B.drop t = B[t] :: B.drop (t + 1) := List.drop_eq_getElem_cons (by omega)
  have e1 : sr P A M B S t = (P ++ B.take t) ++ A[t] :: ((A.drop (t + 1) ++ M ++ A.take t) ++ B[t] :: (B.drop (t + 1) ++ S)) := by
    unfold sr; rw [hA, hB]; simp only [List.append_assoc, List.cons_append]
  have e2 : sr P A M B S (t + 1) = (P ++ B.take t) ++ B[t] :: ((A.drop (t + 1) ++ M ++ A.take t) ++ A[t] :: (B.drop (t + 1) ++ S)) := by
    unfold sr
    rw [List.take_add_one (l := A), List.take_add_one (l := B), List.getElem?_eq_getElem ht, List.getElem?_eq_getElem (show t < B.length by omega)]
    simp only [Option.toList_some, List.append_assoc, List.cons_append, List.nil_append]
  rw [e1, e2]
  have := swp_list (P ++ B.take t) (A.drop (t + 1) ++ M ++ A.take t) (B.drop (t + 1) ++ S) A[t] B[t]
  have l1 : (P ++ B.take t).length = P.length + t := by simp; omega
  have l2 : (A.drop (t + 1) ++ M ++ A.take t).length = A.length - (t + 1) + M.length + t := by simp; omega
  rw [l1, l2] at this
  rw [show P.length + A.length + M.length + t = P.length + t + 1 + (A.length - (t + 1) + M.length + t) by omega]
  exact this
/-- What is asked of a program: the sort's functions, and the types that they name; an element has k cells. -/
structure KT (P : Program) (k : Nat) : Prop where
  mixed : P.follows Departure.mixedOrders = true
  t0 : P.underlying 0 = some (.tuple #[])
  a0 : ∀ w, (isAgg 0).run P w = .ok false w
  z0 : ∀ w, (Go.sizeOf 0).run P w = .ok 1 w
  v0 : ∀ w, (zeroValue 0).run P w = .ok (.tuple #[]) w
  t3 : P.underlying 3 = some (.int .i64)
  a3 : ∀ w, (isAgg 3).run P w = .ok false w
  z3 : ∀ w, (Go.sizeOf 3).run P w = .ok 1 w
  v3 : ∀ w, (zeroValue 3).run P w = .ok (.int .i64 0) w
  t4 : P.underlying 4 = some .bool
  a4 : ∀ w, (isAgg 4).run P w = .ok false w
  z4 : ∀ w, (Go.sizeOf 4).run P w = .ok 1 w
  v4 : ∀ w, (zeroValue 4).run P w = .ok (.bool false) w
  t22 : P.underlying 22 = some (.slice 36)
  a22 : ∀ w, (isAgg 22).run P w = .ok false w
  z22 : ∀ w, (Go.sizeOf 22).run P w = .ok 1 w
  v22 : ∀ w, (zeroValue 22).run P w = .ok (.slice none 0 0) w
  t79 : P.underlying 79 = some (.func #[36, 36] #[3] false)
  a79 : ∀ w, (isAgg 79).run P w = .ok false w
  z79 : ∀ w, (Go.sizeOf 79).run P w = .ok 1 w
  v79 : ∀ w, (zeroValue 79).run P w = .ok .nilFunc w
  t99 : P.underlying 99 = some (.int .u64)
  a99 : ∀ w, (isAgg 99).run P w = .ok false w
  z99 : ∀ w, (Go.sizeOf 99).run P w = .ok 1 w
  v99 : ∀ w, (zeroValue 99).run P w = .ok (.int .u64 0) w
  a36 : ∀ w, (isAgg 36).run P w = .ok true w
  z36 : ∀ w, (Go.sizeOf 36).run P w = .ok k w
  f125 : P.funcs[125]? = some Tryz.f125
  f112 : P.funcs[112]? = some Tryz.f112
  f95 : P.funcs[95]? = some Tryz.f95
  f71 : P.funcs[71]? = some Tryz.f71
theorem kt : KT Tryz.prog 3 := ⟨by kernel_rfl, Tryz.underlying0, Tryz.isAgg0, Tryz.sizeOf0, Tryz.zeroValue0, Tryz.underlying3, Tryz.isAgg3, Tryz.sizeOf3, Tryz.zeroValue3, Tryz.underlying4, Tryz.isAgg4, Tryz.sizeOf4, Tryz.zeroValue4, Tryz.underlying22, Tryz.isAgg22, Tryz.sizeOf22, Tryz.zeroValue22, Tryz.underlying79, Tryz.isAgg79, Tryz.sizeOf79, Tryz.zeroValue79, Tryz.underlying99, Tryz.isAgg99, Tryz.sizeOf99, Tryz.zeroValue99, Tryz.isAgg36, Tryz.sizeOf36, Tryz.func125, Tryz.func112, Tryz.func95, Tryz.func71⟩
variable {α : Type} [Inhabited α] {P : Program} {k : Nat}
set_option maxRecDepth 1000000 in
set_option maxHeartbeats 2000000 in
theorem swapRange_any (K : KT P k) (enc : α → List Value) (E A M B S : List α) (hAB : A.length = B.length) (fv : Value) (blk off cap : Nat) (d0 : Array α) (w0 w : World) (R : RowK enc k w0 blk off d0) (hs : d0.size = (E ++ A ++ M ++ B ++ S).length) (hsz : d0.size ≤ 4398046511104) (hW : SWK enc k w0 blk off (E ++ A ++ M ++ B ++ S).toArray w) :
    Calls P 125 #[.slice (some ⟨blk, off, none⟩) d0.size cap, .int .i64 (E.length : Nat), .int .i64 ((E.length + A.length + M.length : Nat) : Int), .int .i64 (A.length : Nat), fv] w fun e w' => e = .returned (.tuple #[]) ∧ SWK enc k w0 blk off (E ++ B ++ M ++ A ++ S).toArray w' := by
  obtain ⟨a, ha⟩ : ∃ a, E.length = a := ⟨_, rfl⟩
  obtain ⟨n, hn⟩ : ∃ n, A.length = n := ⟨_, rfl⟩
  obtain ⟨b, hb⟩ : ∃ b, E.length + A.length + M.length = b := ⟨_, rfl⟩
  obtain ⟨z, hz⟩ : ∃ z, d0.size = z := ⟨_, rfl⟩
  have hlen : z = a + n + M.length + n + S.length := by rw [← hz, hs, ← ha, ← hn]; simp; omega
  have hbz : b = a + n + M.length := by omega
  have S0 : Aside (SWK enc k w0 blk off (sr E A M B S 0).toArray w) := by show SWK _ _ _ _ _ _ _; rw [sr_zero]; exact hW
  rw [hb, ha, hn, hz]
  have HZ : Hid (z = d0.size) := hz.symm
  have HST : Hid (∀ t, t < n → swp (sr E A M B S t).toArray (a + t) (b + t) = (sr E A M B S (t + 1)).toArray) := fun t ht => by rw [← ha, ← hb]; exact sr_step E A M B S hAB t (by omega)
  have HLN : Hid (∀ t, (sr E A M B S t).toArray.size = d0.size) := fun t => by simp only [List.size_toArray, sr_len]; exact hs.symm
  have HEN : Hid (sr E A M B S n = E ++ B ++ M ++ A ++ S) := by show _ = _; rw [← hn]; exact sr_end E A M B S hAB
  have hz1 : z ≤ 4398046511104 := by omega
  have hbn : b + n ≤ z := by omega
  have han : a + n ≤ z := by omega
  clear hW hs hsz hz hbz hlen ha hn hb
  have mixed := K.mixed; have t0 := K.t0; have a0 := K.a0; have z0 := K.z0; have v0 := K.v0; have t3 := K.t3; have a3 := K.a3; have z3 := K.z3; have v3 := K.v3; have t4 := K.t4; have a4 := K.a4; have z4 := K.z4; have v4 := K.v4; have t22 := K.t22; have a22 := K.a22; have z22 := K.z22; have v22 := K.v22; have t79 := K.t79; have a79 := K.a79; have z79 := K.z79; have v79 := K.v79; have a36 := K.a36; have z36 := K.z36
  have u22 := run_underlying K.t22
  have FG := K.f125
  generalize E ++ B ++ M ++ A ++ S = F at *
  go_enter FG, Tryz.ntmps125
  go_wp2
  go_loopg [10] n (fun kx s10 wr => ∃ (i : Nat), s10 = .int .i64 i ∧ i ≤ n ∧ n - i ≤ kx ∧ Aside (SWK enc k w0 blk off (sr E A M B S i).toArray wr))
  case atStart => exact ⟨0, rfl, Nat.zero_le _, by omega, S0⟩
  case round =>
    clear S0
    obtain ⟨i, rfl, hi, hkx, S1⟩ := hrel
    by_cases hlt : i < n
    · have hltI : (i : Int) < (n : Int) := by omega
      have hsk : (sr E A M B S i).toArray.size = d0.size := HLN.out i
      generalize hdk : (sr E A M B S i).toArray = dk at *
      have HDK : Hid ((sr E A M B S i).toArray = dk) := hdk
      clear hdk
      go_wp2_with fail
      have ea : ((a : Int) + (i : Int)).toNat = a + i := by omega
      have pa : (0 : Int) ≤ (a : Int) + (i : Int) := by omega
      have ba : (a : Int) + (i : Int) < (z : Int) := by omega
      have ra : IntKind.i64.wrap ((a : Int) + (i : Int)) = (a : Int) + (i : Int) := by rw [IntKind.wrap_i64]; omega
      have ec : ((b : Int) + (i : Int)).toNat = b + i := by omega
      have pc : (0 : Int) ≤ (b : Int) + (i : Int) := by omega
      have bc : (b : Int) + (i : Int) < (z : Int) := by omega
      have rc : IntKind.i64.wrap ((b : Int) + (i : Int)) = (b : Int) + (i : Int) := by rw [IntKind.wrap_i64]; omega
      have hzz := HZ.out
      have S2 : Aside (SWK enc k w0 blk off (swp dk (a + i) (b + i)) ((wr.drew.setCells blk (off + (a + i) * k) (enc dk[b + i]!)).setCells blk (off + (b + i) * k) (enc dk[a + i]!))) := S1.out.swapped R (a + i) (b + i) (by omega) (by omega)
      have l1 := S1.out.ld1 R (by omega) P (a + i) (by omega)
      have l2 := S1.out.ld1 R (by omega) P (b + i) (by omega)
      have s1 := S1.out.st1 R (by omega) P (a + i) (by omega) dk[b + i]!
      have s2 := S1.out.st2 R (by omega) P (a + i) (b + i) (by omega) (by omega) dk[b + i]! dk[a + i]!
      have n1 : (enc dk[a + i]!).length = k := R.hk _
      have n2 : (enc dk[b + i]!).length = k := R.hk _
      generalize enc dk[a + i]! = cI at S2 l1 s2 n1
      generalize enc dk[b + i]! = cJ at S2 l2 s1 s2 n2
      clear S1
      go_big_region_o
      clear l1 l2 s1 s2
      generalize (wr.drew.setCells blk (off + (a + i) * k) cJ).setCells blk (off + (b + i) * k) cI = w2 at S2 ⊢
      go_wp2
      go_roundg (n - (i + 1))
      case measure => omega
      case rel =>
        refine ⟨i + 1, by go_num, by omega, by omega, ?_⟩
        have := S2.out
        rw [← HDK.out, HST.out i hlt] at this
        exact this
    · have hltI : ¬ (i : Int) < (n : Int) := by omega
      go_wp2
      go_end0
      have e : i = n := by omega
      subst e
      exact ⟨rfl, by rw [← HEN.out]; exact S1.out⟩
end Go.Proofs.YtcekgefkimbfaaaGreatDoor.ps
/- Go's own stable sort: a piece is moved behind the next one. Conditions: as each theorem says. -/
namespace Go.Proofs.YtcekgefkimbfaaaGreatDoor.ps
open Go.RowKit Go.Sort
variable {α : Type} [Inhabited α] {P : Program} {k : Nat}
set_option maxRecDepth 1000000 in
set_option maxHeartbeats 2000000 in
theorem rotate_any (K : KT P k) (enc : α → List Value) (E X Y S : List α) (hX : 0 < X.length) (hY : 0 < Y.length) (fv : Value) (blk off cap : Nat) (d0 : Array α) (w0 w : World) (R : RowK enc k w0 blk off d0) (hs : d0.size = (E ++ X ++ Y ++ S).length) (hsz : d0.size ≤ 4398046511104) (hW : SWK enc k w0 blk off (E ++ X ++ Y ++ S).toArray w) :
    Calls P 112 #[.slice (some ⟨blk, off, none⟩) d0.size cap, .int .i64 (E.length : Nat), .int .i64 ((E.length + X.length : Nat) : Int), .int .i64 ((E.length + X.length + Y.length : Nat) : Int), fv] w fun e w' => e = .returned (.tuple #[]) ∧ SWK enc k w0 blk off (E ++ Y ++ X ++ S).toArray w' := by
  obtain ⟨z, hz⟩ : ∃ z, d0.size = z := ⟨_, rfl⟩
  obtain ⟨a, ha⟩ : ∃ a, E.length = a := ⟨_, rfl⟩
  obtain ⟨i0, hi0⟩ : ∃ i, X.length = i := ⟨_, rfl⟩
  obtain ⟨j0, hj0⟩ : ∃ j, Y.length = j := ⟨_, rfl⟩
  obtain ⟨m, hm⟩ : ∃ m, a + i0 = m := ⟨_, rfl⟩
  obtain ⟨b, hb⟩ : ∃ b, m + j0 = b := ⟨_, rfl⟩
  rw [ha, hi0, hj0, hm, hb, hz]
  have S0 : Aside (SWK enc k w0 blk off (E ++ X ++ Y ++ S).toArray w) := hW
  have HE : Hid (E.length = a ∧ X.length = i0 ∧ Y.length = j0 ∧ d0.size = (E ++ X ++ Y ++ S).length) := ⟨ha, hi0, hj0, hs⟩
  have HZ : Hid (d0.size = z) := hz
  have hz1 : z ≤ 4398046511104 := by omega
  have hbz : b ≤ z := by rw [← hz, hs, ← hb, ← hm, ← ha, ← hi0, ← hj0]; simp; omega
  have hmb : m ≤ b := by omega
  have e1 : (m : Int) - (a : Int) = (i0 : Int) := by omega
  have e2 : (b : Int) - (m : Int) = (j0 : Int) := by omega
  have hi1 : 0 < i0 := by omega
  have hj1 : 0 < j0 := by omega
  have hi2 : i0 ≤ m := by omega
  have HMB : Hid (m + j0 = b ∧ a + i0 = m) := ⟨hb, hm⟩
  have HS : Hid (∀ (E A M B S : List α) (wx : World) (ia ib ic : Int), A.length = B.length → ia = (E.length : Nat) → ib = ((E.length + A.length + M.length : Nat) : Int) → ic = (A.length : Nat) → (E ++ A ++ M ++ B ++ S).length = z → SWK enc k w0 blk off (E ++ A ++ M ++ B ++ S).toArray wx → Calls P 125 #[.slice (some ⟨blk, off, none⟩) z cap, .int .i64 ia, .int .i64 ib, .int .i64 ic, fv] wx fun e w' => e = .returned (.tuple #[]) ∧ SWK enc k w0 blk off (E ++ B ++ M ++ A ++ S).toArray w') := by
    intro E A M B S wx ia ib ic hAB h1 h2 h3 hl hW
    subst h1 h2 h3
    have := swapRange_any K enc E A M B S hAB fv blk off cap d0 w0 wx R (by rw [hz, hl]) (by omega) hW
    rwa [hz] at this
  have mixed := K.mixed; have t0 := K.t0; have a0 := K.a0; have z0 := K.z0; have v0 := K.v0; have t3 := K.t3; have a3 := K.a3; have z3 := K.z3; have v3 := K.v3; have t4 := K.t4; have a4 := K.a4; have z4 := K.z4; have v4 := K.v4; have t22 := K.t22; have a22 := K.a22; have z22 := K.z22; have v22 := K.v22; have t79 := K.t79; have a79 := K.a79; have z79 := K.z79; have v79 := K.v79
  have FG := K.f112
  have e125 : ∀ args w, (callFunc 125 args).run P w = .ok (.enter 125 args) w := enters_of K.f125 (by kernel_rfl) rfl
  generalize hF : E ++ Y ++ X ++ S = F
  have HF : Hid (E ++ Y ++ X ++ S = F) := hF
  clear hW hs hsz hz hF ha hi0 hj0 hm hb hX hY
  go_enter FG, Tryz.ntmps112
  go_wp2
  go_loopg [10, 11] (i0 + j0) (fun kx s10 s11 wr => ∃ (i j : Nat) (E X Y S : List α), s10 = .int .i64 i ∧ s11 = .int .i64 j ∧ 0 < i ∧ 0 < j ∧ i ≤ m ∧ m + j ≤ b ∧ i + j ≤ kx ∧ Hid (X.length = i ∧ Y.length = j ∧ E.length + i = m ∧ (E ++ X ++ Y ++ S).length = z ∧ E ++ Y ++ X ++ S = F) ∧ Aside (SWK enc k w0 blk off (E ++ X ++ Y ++ S).toArray wr))
  case atStart => exact ⟨i0, j0, E, X, Y, S, rfl, rfl, hi1, hj1, hi2, by have := HMB.out; omega, Nat.le_refl _, ⟨HE.out.2.1, HE.out.2.2.1, by have := HE.out.1; have := HMB.out; omega, by rw [← HZ.out, HE.out.2.2.2], HF.out⟩, S0⟩
  case round =>
    clear S0
    obtain ⟨i, j, E', X', Y', S', rfl, rfl, hi, hj, him, hjb, hkx, HL, S1⟩ := hrel
    obtain ⟨hX1, hY1, hEm, hlen, hFin⟩ := HL.out
    by_cases hij : i = j
    · subst hij
      have HCC : Hid (Calls P 125 #[.slice (some ⟨blk, off, none⟩) z cap, .int .i64 ((m : Int) - (i : Int)), .int .i64 (m : Int), .int .i64 (i : Int), fv] wr fun e w' => e = .returned (.tuple #[]) ∧ SWK enc k w0 blk off (E' ++ Y' ++ [] ++ X' ++ S').toArray w') := HS.out E' X' [] Y' S' wr ((m : Int) - (i : Int)) (m : Int) (i : Int) (by omega) (by omega) (by simp; omega) (by omega) (by simpa using hlen) (by simpa using S1.out)
      have HFi : Hid (E' ++ Y' ++ X' ++ S' = F) := hFin
      have hwm : IntKind.i64.wrap ((m : Int) - (i : Int)) = (m : Int) - (i : Int) := by rw [IntKind.wrap_i64]; omega
      clear hX1 hY1 hEm hlen hFin HL S1
      go_wp2_with (go_at_fn 125; refine HCC.out.mono ?_; rintro e w' ⟨rfl, hS2⟩)
      go_end0
      exact ⟨rfl, by rw [← HFi.out]; simpa using hS2⟩
    · by_cases hgt : j < i
      · have hgtI : (j : Int) < (i : Int) := by omega
        have hne : ¬ (i : Int) = (j : Int) := by omega
        have HCC : Hid (Calls P 125 #[.slice (some ⟨blk, off, none⟩) z cap, .int .i64 ((m : Int) - (i : Int)), .int .i64 (m : Int), .int .i64 (j : Int), fv] wr fun e w' => e = .returned (.tuple #[]) ∧ SWK enc k w0 blk off (E' ++ Y' ++ (X'.drop j) ++ (X'.take j) ++ S').toArray w') := HS.out E' (X'.take j) (X'.drop j) Y' S' wr ((m : Int) - (i : Int)) (m : Int) (j : Int) (by rw [List.length_take]; omega) (by omega) (by simp; omega) (by rw [List.length_take]; omega) (by rw [List.append_assoc E', List.take_append_drop]; exact hlen) (by rw [List.append_assoc E', List.take_append_drop]; exact S1.out)
        have HFi : Hid (X'.length = i ∧ Y'.length = j ∧ E'.length + i = m ∧ (E' ++ X' ++ Y' ++ S').length = z ∧ E' ++ Y' ++ X' ++ S' = F) := HL
        have hwm : IntKind.i64.wrap ((m : Int) - (i : Int)) = (m : Int) - (i : Int) := by rw [IntKind.wrap_i64]; omega
        have hwj : IntKind.i64.wrap ((i : Int) - (j : Int)) = (i : Int) - (j : Int) := by rw [IntKind.wrap_i64]; omega
        clear hX1 hY1 hEm hlen hFin HL S1
        go_wp2_with (go_at_fn 125; refine HCC.out.mono ?_; rintro e w' ⟨rfl, hS2⟩)
        have HS2 : Aside _ := hS2
        clear hS2
        go_roundg (i - j + j)
        case measure => omega
        case rel =>
          obtain ⟨q1, q2, q3, q4, q5⟩ := HFi.out
          refine ⟨i - j, j, E' ++ Y', X'.drop j, X'.take j, S', by congr 1; omega, rfl, by omega, hj, by omega, hjb, Nat.le_refl _, ⟨by rw [List.length_drop]; omega, by rw [List.length_take]; omega, by rw [List.length_append]; omega, ?_, ?_⟩, HS2⟩
          · rw [← q4]; simp; omega
          · rw [← q5]; rw [List.append_assoc (E' ++ Y'), List.take_append_drop]
      · have hgtI : ¬ (j : Int) < (i : Int) := by omega
        have hne : ¬ (i : Int) = (j : Int) := by omega
        have HCC : Hid (Calls P 125 #[.slice (some ⟨blk, off, none⟩) z cap, .int .i64 ((m : Int) - (i : Int)), .int .i64 ((m : Int) + (j : Int) - (i : Int)), .int .i64 (i : Int), fv] wr fun e w' => e = .returned (.tuple #[]) ∧ SWK enc k w0 blk off (E' ++ (Y'.drop (j - i)) ++ (Y'.take (j - i)) ++ X' ++ S').toArray w') := HS.out E' X' (Y'.take (j - i)) (Y'.drop (j - i)) S' wr ((m : Int) - (i : Int)) ((m : Int) + (j : Int) - (i : Int)) (i : Int) (by rw [List.length_drop]; omega) (by omega) (by simp; omega) (by omega) (by rw [List.append_assoc (E' ++ X'), List.take_append_drop]; exact hlen) (by rw [List.append_assoc (E' ++ X'), List.take_append_drop]; exact S1.out)
        have HFi : Hid (X'.length = i ∧ Y'.length = j ∧ E'.length + i = m ∧ (E' ++ X' ++ Y' ++ S').length = z ∧ E' ++ Y' ++ X' ++ S' = F) := HL
        have hwm : IntKind.i64.wrap ((m : Int) - (i : Int)) = (m : Int) - (i : Int) := by rw [IntKind.wrap_i64]; omega
        have hwj : IntKind.i64.wrap ((j : Int) - (i : Int)) = (j : Int) - (i : Int) := by rw [IntKind.wrap_i64]; omega
        have hwk : IntKind.i64.wrap ((m : Int) + (j : Int)) = (m : Int) + (j : Int) := by rw [IntKind.wrap_i64]; omega
        have hwl : IntKind.i64.wrap ((m : Int) + (j : Int) - (i : Int)) = (m : Int) + (j : Int) - (i : Int) := by rw [IntKind.wrap_i64]; omega
        clear hX1 hY1 hEm hlen hFin HL S1
        go_wp2_with (go_at_fn 125; refine HCC.out.mono ?_; rintro e w' ⟨rfl, hS2⟩)
        have HS2 : Aside _ := hS2
        clear hS2
        go_roundg (i + (j - i))
        case measure => omega
        case rel =>
          obtain ⟨q1, q2, q3, q4, q5⟩ := HFi.out
          refine ⟨i, j - i, E', Y'.drop (j - i), Y'.take (j - i), X' ++ S', rfl, by congr 1; omega, hi, by omega, him, by omega, Nat.le_refl _, ⟨by rw [List.length_drop]; omega, by rw [List.length_take]; omega, q3, ?_, ?_⟩, ?_⟩
          · rw [← q4]; simp; omega
          · rw [← q5]; rw [List.append_assoc E', List.take_append_drop]; simp
          · have := HS2.out
            rw [List.append_assoc] at this
            exact this
end Go.Proofs.YtcekgefkimbfaaaGreatDoor.ps
/- Go's own stable sort: one that is put into a row in its place. Conditions: as each theorem says. -/
namespace Go.Proofs.YtcekgefkimbfaaaGreatDoor.ps
open Go.RowKit Go.Sort
variable {α : Type} [Inhabited α] {P : Program} {k : Nat}
theorem at_list (E F : List α) (x : α) : (E ++ x :: F).toArray[E.length]! = x := by simp
theorem at_get {l : List α} {i : Nat} {x : α} (h : l[i]? = some x) : l.toArray[i]! = x := by
  obtain ⟨h1, h2⟩ := List.getElem?_eq_some_iff.1 h
  rw [getElem!_pos l.toArray i (by simpa using h1)]
  simpa using h2
theorem at_piece {E Y S : List α} {i : Nat} {y : α} (h : Y[i]? = some y) : (E ++ Y ++ S).toArray[E.length + i]! = y := by
  have hi := (List.getElem?_eq_some_iff.1 h).1
  refine at_get ?_
  rw [List.append_assoc, List.getElem?_append_right (by omega), Nat.add_sub_cancel_left, List.getElem?_append_left hi]
  exact h
/-- Pieces that stand in order, each. -/
structure Mg (lt : α → α → Bool) (T : α → α → Prop) (X Y : List α) : Prop where
  x : X.Pairwise T
  y : Y.Pairwise T
  no : ∀ a ∈ X, ∀ b ∈ Y, lt b a = false → T a b
  yes : ∀ a ∈ X, ∀ b ∈ Y, lt b a = true → T b a
/-- What a merge leaves. -/
def MgO (T : α → α → Prop) (X Y Z : List α) : Prop := Z.Perm (X ++ Y) ∧ Z.Pairwise T
omit [Inhabited α] in
theorem pw_join {T : α → α → Prop} (tr : ∀ a b c, T a b → T b c → T a c) {A B : List α} (hA : A.Pairwise T) (hB : B.Pairwise T) (h : ∀ a b, A.getLast? = some a → B.head? = some b → T a b) : (A ++ B).Pairwise T := by
  refine List.pairwise_append.2 ⟨hA, hB, fun a ha b hb => ?_⟩
  have hAn : A ≠ [] := fun e => by rw [e] at ha; cases ha
  have hBn : B ≠ [] := fun e => by rw [e] at hb; cases hb
  obtain ⟨A', l, rfl⟩ : ∃ A' l, A = A' ++ [l] := ⟨A.dropLast, A.getLast hAn, (List.dropLast_concat_getLast hAn).symm⟩
  obtain ⟨f, B', rfl⟩ : ∃ f B', B = f :: B' := List.exists_cons_of_ne_nil hBn
  have h1 : T l f := h l f (by simp) rfl
  have h2 : a = l ∨ T a l := by
    rcases List.mem_append.1 ha with ha | ha
    · exact .inr ((List.pairwise_append.1 hA).2.2 a ha l (by simp))
    · exact .inl (by simpa using ha)
  have h3 : b = f ∨ T f b := by
    rcases List.mem_cons.1 hb with rfl | hb
    · exact .inl rfl
    · exact .inr ((List.pairwise_cons.1 hB).1 b hb)
  rcases h2 with rfl | h2
  · rcases h3 with rfl | h3
    · exact h1
    · exact tr _ _ _ h1 h3
  · rcases h3 with rfl | h3
    · exact tr _ _ _ h2 h1
    · exact tr _ _ _ h2 (tr _ _ _ h1 h3)
omit [Inhabited α] in
theorem mg_one {lt : α → α → Bool} {T : α → α → Prop} (tr : ∀ a b c, T a b → T b c → T a c) {x : α} {Y : List α} (M : Mg lt T [x] Y) {t : Nat} (ht : t ≤ Y.length) (h1 : t = 0 ∨ ∃ y, Y[t - 1]? = some y ∧ lt y x = true) (h2 : t = Y.length ∨ ∃ y, Y[t]? = some y ∧ lt y x = false) : MgO T [x] Y (Y.take t ++ [x] ++ Y.drop t) := by
  constructor
  · have : (Y.take t ++ [x] ++ Y.drop t).Perm ([x] ++ (Y.take t ++ Y.drop t)) := by
      rw [← List.append_assoc]
      exact List.Perm.append_right _ List.perm_append_comm
    rwa [List.take_append_drop] at this
  · have hY : (Y.take t ++ Y.drop t).Pairwise T := by rw [List.take_append_drop]; exact M.y
    have hY' := List.pairwise_append.1 hY
    refine pw_join tr (pw_join tr hY'.1 (by simp) (fun a b ha hb => ?_)) hY'.2.1 (fun a b ha hb => ?_)
    · have eb : b = x := by simpa using hb.symm
      subst eb
      rcases h1 with h1 | ⟨y, hy, hyx⟩
      · subst h1; simp at ha
      · have e : a = y := by
          rw [List.getLast?_eq_getElem?, List.length_take, Nat.min_eq_left ht, List.getElem?_take] at ha
          by_cases h0 : t = 0
          · subst h0; simp at ha
          · rw [if_pos (by omega), hy] at ha
            injection ha with ha
            exact ha.symm
        subst e
        exact M.yes b (by simp) a (List.mem_of_getElem? hy) hyx
    · have ea : a = x := by simpa using ha.symm
      subst ea
      rcases h2 with h2 | ⟨y, hy, hyx⟩
      · subst h2; simp at hb
      · have e : b = y := by
          rw [List.head?_drop, hy] at hb
          injection hb with hb
          exact hb.symm
        subst e
        exact M.no a (by simp) b (List.mem_of_getElem? hy) hyx
omit [Inhabited α] in
theorem mg_last {lt : α → α → Bool} {T : α → α → Prop} (tr : ∀ a b c, T a b → T b c → T a c) {y : α} {X : List α} (M : Mg lt T X [y]) {t : Nat} (ht : t ≤ X.length) (h1 : t = 0 ∨ ∃ x, X[t - 1]? = some x ∧ lt y x = false) (h2 : t = X.length ∨ ∃ x, X[t]? = some x ∧ lt y x = true) : MgO T X [y] (X.take t ++ [y] ++ X.drop t) := by
  constructor
  · have : (X.take t ++ [y] ++ X.drop t).Perm (X.take t ++ X.drop t ++ [y]) := by
      rw [List.append_assoc, List.append_assoc]
      exact List.Perm.append_left _ List.perm_append_comm
    rwa [List.take_append_drop] at this
  · have hY : (X.take t ++ X.drop t).Pairwise T := by rw [List.take_append_drop]; exact M.x
    have hY' := List.pairwise_append.1 hY
    refine pw_join tr (pw_join tr hY'.1 (by simp) (fun a b ha hb => ?_)) hY'.2.1 (fun a b ha hb => ?_)
    · have eb : b = y := by simpa using hb.symm
      subst eb
      rcases h1 with h1 | ⟨x, hx, hyx⟩
      · subst h1; simp at ha
      · have e : a = x := by
          rw [List.getLast?_eq_getElem?, List.length_take, Nat.min_eq_left ht, List.getElem?_take] at ha
          by_cases h0 : t = 0
          · subst h0; simp at ha
          · rw [if_pos (by omega), hx] at ha
            injection ha with ha
            exact ha.symm
        subst e
        exact M.no a (List.mem_of_getElem? hx) b (by simp) hyx
    · have ea : a = y := by simpa using ha.symm
      subst ea
      rcases h2 with h2 | ⟨x, hx, hyx⟩
      · subst h2; simp at hb
      · have e : b = x := by
          rw [List.head?_drop, hx] at hb
          injection hb with hb
          exact hb.symm
        subst e
        exact M.yes b (List.mem_of_getElem? hx) a (by simp) hyx
/-- One that was ahead of a row goes so far into it. -/
def sA (E : List α) (x : α) (Y S : List α) (t : Nat) : List α := E ++ Y.take t ++ [x] ++ Y.drop t ++ S
omit [Inhabited α] in
theorem sA_zero (E : List α) (x : α) (Y S : List α) : sA E x Y S 0 = E ++ [x] ++ Y ++ S := by simp [sA]
omit [Inhabited α] in
theorem sA_len (E : List α) (x : α) (Y S : List α) (t : Nat) : (sA E x Y S t).length = (E ++ [x] ++ Y ++ S).length := by
  unfold sA; simp only [List.length_append, List.length_take, List.length_drop, List.length_cons, List.length_nil]; omega
theorem sA_step (E : List α) (x : α) (Y S : List α) {t : Nat} (ht : t < Y.length) : swp (sA E x Y S t).toArray (E.length + t) (E.length + t + 1) = (sA E x Y S (t + 1)).toArray := by
  have hY : Y.drop t = Y[t] :: Y.drop (t + 1) := List.drop_eq_getElem_cons ht
  have e1 : sA E x Y S t = (E ++ Y.take t) ++ x :: ([] ++ Y[t] :: (Y.drop (t + 1) ++ S)) := by unfold sA; rw [hY]; simp only [List.append_assoc, List.cons_append, List.nil_append]
  have e2 : sA E x Y S (t + 1) = (E ++ Y.take t) ++ Y[t] :: ([] ++ x :: (Y.drop (t + 1) ++ S)) := by
    unfold sA
    rw [List.take_add_one, List.getElem?_eq_getElem ht]
    simp only [Option.toList_some, List.append_assoc, List.cons_append, List.nil_append]
  have := swp_list (E ++ Y.take t) [] (Y.drop (t + 1) ++ S) x Y[t]
  have l1 : (E ++ Y.take t).length = E.length + t := by simp; omega
  rw [l1] at this
  rw [e1, e2]
  exact this
theorem swp_two (P S : List α) (x y : α) : swp (P ++ x :: y :: S).toArray (P.length + 1) P.length = (P ++ y :: x :: S).toArray := by
  have hx : (P ++ x :: y :: S).toArray[P.length]! = x := by simp
  have hy : (P ++ x :: y :: S).toArray[P.length + 1]! = y := at_get (by simp)
  unfold swp
  rw [hx, hy]
  apply Array.ext'
  rw [Array.toList_setIfInBounds, Array.toList_setIfInBounds]
  rw [List.set_append_right _ _ (by omega), show P.length + 1 - P.length = 1 by omega, List.set_cons_succ, List.set_cons_zero, List.set_append_right _ _ (Nat.le_refl _), Nat.sub_self, List.set_cons_zero]
theorem sA_back (E : List α) (x : α) (Y S : List α) {t : Nat} (ht : t < Y.length) : swp (sA E x Y S (t + 1)).toArray (E.length + t + 1) (E.length + t) = (sA E x Y S t).toArray := by
  have hY : Y.drop t = Y[t] :: Y.drop (t + 1) := List.drop_eq_getElem_cons ht
  have e1 : sA E x Y S t = (E ++ Y.take t) ++ x :: Y[t] :: (Y.drop (t + 1) ++ S) := by unfold sA; rw [hY]; simp only [List.append_assoc, List.cons_append, List.nil_append]
  have e2 : sA E x Y S (t + 1) = (E ++ Y.take t) ++ Y[t] :: x :: (Y.drop (t + 1) ++ S) := by
    unfold sA
    rw [List.take_add_one, List.getElem?_eq_getElem ht]
    simp only [Option.toList_some, List.append_assoc, List.cons_append, List.nil_append]
  have := swp_two (E ++ Y.take t) (Y.drop (t + 1) ++ S) Y[t] x
  have l1 : (E ++ Y.take t).length = E.length + t := by simp; omega
  rw [l1] at this
  rw [e1, e2]
  exact this
omit [Inhabited α] in
theorem sA_end (E : List α) (x : α) (Y S : List α) : sA E x Y S Y.length = E ++ Y ++ [x] ++ S := by simp [sA]
set_option maxRecDepth 1000000 in
set_option maxHeartbeats 2000000 in
theorem symA (K : KT P k) (enc : α → List Value) (cf : α → α → Int) (T : α → α → Prop) (tr : ∀ a b c, T a b → T b c → T a c) (g : Nat) (cb : Array Value) (blk off cap : Nat) (d0 : Array α) (w0 : World)
    (eg : ∀ args w, (callFunc g args).run P w = .ok (.enter g args) w) (hcmp : CmpLays P g cb enc k cf blk off d0.size w0) (R : RowK enc k w0 blk off d0) (hsz : d0.size ≤ 4398046511104)
    (E : List α) (x : α) (Y S : List α) (hY : 0 < Y.length) (M : Mg (ltOf cf) T [x] Y) (w : World) (hs : d0.size = (E ++ [x] ++ Y ++ S).length) (hW : SWK enc k w0 blk off (E ++ [x] ++ Y ++ S).toArray w) :
    Calls P 95 #[.slice (some ⟨blk, off, none⟩) d0.size cap, .int .i64 (E.length : Nat), .int .i64 ((E.length + 1 : Nat) : Int), .int .i64 ((E.length + 1 + Y.length : Nat) : Int), .func (.func g) #[] cb] w fun e w' => e = .returned (.tuple #[]) ∧ ∃ Z, MgO T [x] Y Z ∧ SWK enc k w0 blk off (E ++ Z ++ S).toArray w' := by
  obtain ⟨z, hz⟩ : ∃ z, d0.size = z := ⟨_, rfl⟩
  obtain ⟨a, ha⟩ : ∃ a, E.length = a := ⟨_, rfl⟩
  obtain ⟨m, hm⟩ : ∃ m, a + 1 = m := ⟨_, rfl⟩
  obtain ⟨b, hb⟩ : ∃ b, m + Y.length = b := ⟨_, rfl⟩
  rw [ha, hm, hb, hz]
  have hbz : b ≤ z := by rw [← hz, hs, ← hb, ← hm, ← ha]; simp; omega
  have hz1 : z ≤ 4398046511104 := by omega
  have ham : a < m := by omega
  have hab : m < b := by omega
  have HB : Hid (m + Y.length = b ∧ E.length = a ∧ d0.size = z ∧ (E ++ [x] ++ Y ++ S).length = z) := ⟨hb, ha, hz, by rw [← hs, hz]⟩
  have HM : Hid (Mg (ltOf cf) T [x] Y) := M
  have HC : Aside (CmpLays P g cb enc k cf blk off d0.size w0) := hcmp
  have S0 : Aside (SWK enc k w0 blk off (E ++ [x] ++ Y ++ S).toArray w) := hW
  have hsD : (E ++ [x] ++ Y ++ S).toArray.size = d0.size := by rw [List.size_toArray, hs]
  have hxa : (E ++ [x] ++ Y ++ S).toArray[a]! = x := at_get (by rw [← ha]; simp)
  have HYa : Hid (∀ i y, Y[i]? = some y → (E ++ [x] ++ Y ++ S).toArray[m + i]! = y) := fun i y h => by
    have := at_piece (E := E ++ [x]) (S := S) h
    rwa [List.length_append, ha, show a + [x].length = m from hm] at this
  have mixed := K.mixed; have t0 := K.t0; have a0 := K.a0; have z0 := K.z0; have v0 := K.v0; have t3 := K.t3; have a3 := K.a3; have z3 := K.z3; have v3 := K.v3; have t4 := K.t4; have a4 := K.a4; have z4 := K.z4; have v4 := K.v4; have t22 := K.t22; have a22 := K.a22; have z22 := K.z22; have v22 := K.v22; have t79 := K.t79; have a79 := K.a79; have z79 := K.z79; have v79 := K.v79; have t99 := K.t99; have a99 := K.a99; have z99 := K.z99; have v99 := K.v99; have a36 := K.a36; have z36 := K.z36
  have u22 := run_underlying K.t22
  have FG := K.f95
  have hw1 : IntKind.i64.wrap ((m : Int) - (a : Int)) = 1 := by rw [IntKind.wrap_i64]; omega
  have he1 : (m : Int) - (a : Int) = 1 := by omega
  have HM1 : Hid (a + 1 = m) := hm
  clear hW hs hsz hz ha hb hm hcmp M hY
  generalize hD : (E ++ [x] ++ Y ++ S).toArray = D at *
  have HD : Hid ((E ++ [x] ++ Y ++ S).toArray = D) := hD
  clear hD
  go_enter FG, Tryz.ntmps95
  go_upto_block 0 with fail
  go_cut [10] (fun s10 wx => ∃ i : Nat, s10 = .int .i64 i ∧ m ≤ i ∧ i ≤ b ∧ (i = m ∨ ∃ y, Y[i - m - 1]? = some y ∧ ltOf cf y x = true) ∧ (i = b ∨ ∃ y, Y[i - m]? = some y ∧ ltOf cf y x = false) ∧ Aside (SWK enc k w0 blk off D wx))
  case first =>
    go_wp2_with fail
    go_loopw [10, 11] (fun s10 s11 wr => ∃ i j : Nat, s10 = .int .i64 i ∧ s11 = .int .i64 j ∧ m ≤ i ∧ i ≤ j ∧ j ≤ b ∧ Hid ((i = m ∨ ∃ y, Y[i - m - 1]? = some y ∧ ltOf cf y x = true) ∧ (j = b ∨ ∃ y, Y[j - m]? = some y ∧ ltOf cf y x = false)) ∧ Aside (SWK enc k w0 blk off D wr)) (fun s10 s11 _ => (intOf s11).toNat - (intOf s10).toNat)
    case atStart => exact ⟨m, b, rfl, rfl, Nat.le_refl _, by omega, Nat.le_refl _, ⟨.inl rfl, .inl rfl⟩, S0⟩
    case round =>
      obtain ⟨i, j, rfl, rfl, hai, hij, hjb, HK, S1⟩ := hrel
      by_cases hlt : i < j
      · have hlt' : (i : Int) < (j : Int) := by omega
        have hi0 : (0 : Int) ≤ (i : Int) := by omega
        have hj3 : (j : Int) ≤ 4398046511104 := by omega
        obtain ⟨h, hh⟩ : ∃ h : Nat, (i + j) / 2 = h := ⟨_, rfl⟩
        have hh' : ((i : Int) + (j : Int)) / 2 = (h : Int) := by omega
        have hhz : (h : Int) < (z : Int) := by omega
        have haz : (a : Int) < (z : Int) := by omega
        have hh0 : (0 : Int) ≤ (h : Int) := by omega
        have ha0 : (0 : Int) ≤ (a : Int) := by omega
        have hhij : i ≤ h ∧ h < j := by omega
        obtain ⟨y, hy⟩ : ∃ y, Y[h - m]? = some y := ⟨_, List.getElem?_eq_getElem (by have := HB.out.1; omega)⟩
        have HY : Hid (Y[h - m]? = some y) := hy
        have hyD : D[h]! = y := by have := HYa.out _ _ hy; rwa [show m + (h - m) = h by omega] at this
        have l1 := S1.out.ld R (by omega) P h (by have := HB.out.2.2.1; omega)
        have l2 := S1.out.ld R (by omega) P a (by have := HB.out.2.2.1; omega)
        have hcg := S1.out.cmp HC.out (by omega) y x
        rw [hyD] at l1
        rw [hxa] at l2
        clear hy hyD hh
        by_cases hlv : cf y x < 0
        · go_wp2_with fail
          try simp only [hh']
          go_quiet_grown (first | (go_at_fn g; refine Calls.grown_of (hcg _ _)))
          go_wp2_with fail
          refine ⟨⟨h + 1, j, rfl, rfl, by omega, by omega, hjb, ⟨.inr ⟨y, by rw [show h + 1 - m - 1 = h - m by omega]; exact HY.out, decide_eq_true hlv⟩, HK.out.2⟩, S1.out.grown nq osq⟩, by simp [intOf]; omega⟩
        · go_wp2_with fail
          try simp only [hh']
          go_quiet_grown (first | (go_at_fn g; refine Calls.grown_of (hcg _ _)))
          go_wp2_with fail
          refine ⟨⟨i, h, rfl, rfl, hai, by omega, by omega, ⟨HK.out.1, .inr ⟨y, HY.out, decide_eq_false (by omega)⟩⟩, S1.out.grown nq osq⟩, by simp [intOf]; omega⟩
      · have hlt' : ¬ (i : Int) < (j : Int) := by omega
        have e : i = j := by omega
        subst e
        go_wp2_with fail
        go_meet
        case rel => exact ⟨i, rfl, hai, hjb, HK.out.1, HK.out.2, S1⟩
  case rest =>
  obtain ⟨i, rfl, hai, hib, hF1, hF2, S1⟩ := hcut
  have HK : Hid ((i = m ∨ ∃ y, Y[i - m - 1]? = some y ∧ ltOf cf y x = true) ∧ (i = b ∨ ∃ y, Y[i - m]? = some y ∧ ltOf cf y x = false)) := ⟨hF1, hF2⟩
  have S2 : Aside (SWK enc k w0 blk off (sA E x Y S 0).toArray wc) := by show SWK _ _ _ _ _ _ _; rw [sA_zero, HD.out]; exact S1.out
  have HST : Hid (∀ t, t < Y.length → swp (sA E x Y S t).toArray (a + t) (a + t + 1) = (sA E x Y S (t + 1)).toArray) := fun t ht => by rw [← HB.out.2.1]; exact sA_step E x Y S ht
  have HLN : Hid (∀ t, (sA E x Y S t).toArray.size = d0.size) := fun t => by simp only [List.size_toArray, sA_len]; rw [HB.out.2.2.2, HB.out.2.2.1]
  have HEND : Hid (MgO T [x] Y (Y.take (i - m) ++ [x] ++ Y.drop (i - m))) := mg_one tr HM.out (by have := HB.out.1; omega) (HK.out.1.imp (fun h => by omega) (fun h => h)) (HK.out.2.imp (fun h => by have := HB.out.1; omega) (fun h => h))
  clear hF1 hF2 S0 S1 HYa hxa hsD HC HK HM HD
  go_wp2_with fail
  go_loopw [13] (fun s13 wr => ∃ u : Nat, s13 = .int .i64 u ∧ a ≤ u ∧ u + 1 ≤ i ∧ Aside (SWK enc k w0 blk off (sA E x Y S (u - a)).toArray wr)) (fun s13 _ => i - (intOf s13).toNat)
  case atStart => exact ⟨a, rfl, Nat.le_refl _, by omega, by rw [Nat.sub_self]; exact S2⟩
  case round =>
    clear S2
    obtain ⟨u, rfl, hau, hui, S3⟩ := hrel
    have hwi : IntKind.i64.wrap ((i : Int) - 1) = (i : Int) - 1 := by rw [IntKind.wrap_i64]; omega
    by_cases hlt : u + 1 < i
    · have hlt' : (u : Int) < (i : Int) - 1 := by omega
      have hsk : (sA E x Y S (u - a)).toArray.size = d0.size := HLN.out _
      have HSP : Hid (swp (sA E x Y S (u - a)).toArray u (u + 1) = (sA E x Y S (u + 1 - a)).toArray) := by
        have := HST.out (u - a) (by have := HB.out.1; have := HM1.out; omega)
        rw [show a + (u - a) = u by omega, show u - a + 1 = u + 1 - a by omega] at this
        exact this
      generalize (sA E x Y S (u - a)).toArray = dk at *
      have hz2 := HB.out.2.2.1
      have pa : (0 : Int) ≤ (u : Int) := by omega
      have ba : (u : Int) < (z : Int) := by omega
      have pc : (0 : Int) ≤ (u : Int) + 1 := by omega
      have bc : (u : Int) + 1 < (z : Int) := by omega
      have ec : ((u : Int) + 1).toNat = u + 1 := by omega
      have rc : IntKind.i64.wrap ((u : Int) + 1) = (u : Int) + 1 := by rw [IntKind.wrap_i64]; omega
      have S4 : Aside (SWK enc k w0 blk off (swp dk u (u + 1)) ((wr.drew.setCells blk (off + u * k) (enc dk[u + 1]!)).setCells blk (off + (u + 1) * k) (enc dk[u]!))) := S3.out.swapped R u (u + 1) (by omega) (by omega)
      have l1 := S3.out.ld1 R (by omega) P u (by omega)
      have l2 := S3.out.ld1 R (by omega) P (u + 1) (by omega)
      have s1 := S3.out.st1 R (by omega) P u (by omega) dk[u + 1]!
      have s2 := S3.out.st2 R (by omega) P u (u + 1) (by omega) (by omega) dk[u + 1]! dk[u]!
      have n1 : (enc dk[u]!).length = k := R.hk _
      have n2 : (enc dk[u + 1]!).length = k := R.hk _
      generalize enc dk[u]! = cI at S4 l1 s2 n1
      generalize enc dk[u + 1]! = cJ at S4 l2 s1 s2 n2
      clear S3 hz2
      go_wp2_with fail
      go_big_region_o
      clear l1 l2 s1 s2
      generalize (wr.drew.setCells blk (off + u * k) cJ).setCells blk (off + (u + 1) * k) cI = w2 at S4 ⊢
      go_wp2_with fail
      refine ⟨⟨u + 1, rfl, by omega, by omega, ?_⟩, by simp [intOf]; omega⟩
      have := S4.out
      rw [HSP.out] at this
      exact this
    · have hlt' : ¬ (u : Int) < (i : Int) - 1 := by omega
      have HFin : Hid (SWK enc k w0 blk off (E ++ (Y.take (i - m) ++ [x] ++ Y.drop (i - m)) ++ S).toArray wr) := by
        have := S3.out
        rw [show u - a = i - m by have := HM1.out; omega] at this
        unfold sA at this
        show SWK _ _ _ _ _ _ _
        rw [show E ++ (Y.take (i - m) ++ [x] ++ Y.drop (i - m)) ++ S = E ++ Y.take (i - m) ++ [x] ++ Y.drop (i - m) ++ S by simp]
        exact this
      generalize Y.take (i - m) ++ [x] ++ Y.drop (i - m) = Z at *
      go_wp2_with fail
      exact bodyPost_ret (v := .tuple #[]) (by simp [results, Tryz.results95, go_sem]) rfl ⟨rfl, Z, HEND.out, by have := HFin.out; rwa [List.append_assoc] at this⟩
set_option maxRecDepth 1000000 in
set_option maxHeartbeats 2000000 in
theorem symB (K : KT P k) (enc : α → List Value) (cf : α → α → Int) (T : α → α → Prop) (tr : ∀ a b c, T a b → T b c → T a c) (g : Nat) (cb : Array Value) (blk off cap : Nat) (d0 : Array α) (w0 : World)
    (eg : ∀ args w, (callFunc g args).run P w = .ok (.enter g args) w) (hcmp : CmpLays P g cb enc k cf blk off d0.size w0) (R : RowK enc k w0 blk off d0) (hsz : d0.size ≤ 4398046511104)
    (E X : List α) (y : α) (S : List α) (hX : 1 < X.length) (M : Mg (ltOf cf) T X [y]) (w : World) (hs : d0.size = (E ++ X ++ [y] ++ S).length) (hW : SWK enc k w0 blk off (E ++ X ++ [y] ++ S).toArray w) :
    Calls P 95 #[.slice (some ⟨blk, off, none⟩) d0.size cap, .int .i64 (E.length : Nat), .int .i64 ((E.length + X.length : Nat) : Int), .int .i64 ((E.length + X.length + 1 : Nat) : Int), .func (.func g) #[] cb] w fun e w' => e = .returned (.tuple #[]) ∧ ∃ Z, MgO T X [y] Z ∧ SWK enc k w0 blk off (E ++ Z ++ S).toArray w' := by
  obtain ⟨z, hz⟩ : ∃ z, d0.size = z := ⟨_, rfl⟩
  obtain ⟨a, ha⟩ : ∃ a, E.length = a := ⟨_, rfl⟩
  obtain ⟨m, hm⟩ : ∃ m, a + X.length = m := ⟨_, rfl⟩
  obtain ⟨b, hb⟩ : ∃ b, m + 1 = b := ⟨_, rfl⟩
  rw [ha, hm, hb, hz]
  have hbz : b ≤ z := by rw [← hz, hs, ← hb, ← hm, ← ha]; simp; omega
  have hz1 : z ≤ 4398046511104 := by omega
  have ham : a < m := by omega
  have hab : m < b := by omega
  have HB : Hid (a + X.length = m ∧ E.length = a ∧ d0.size = z ∧ (E ++ X ++ [y] ++ S).length = z) := ⟨hm, ha, hz, by rw [← hs, hz]⟩
  have HM : Hid (Mg (ltOf cf) T X [y]) := M
  have HC : Aside (CmpLays P g cb enc k cf blk off d0.size w0) := hcmp
  have S0 : Aside (SWK enc k w0 blk off (E ++ X ++ [y] ++ S).toArray w) := hW
  have hsD : (E ++ X ++ [y] ++ S).toArray.size = d0.size := by rw [List.size_toArray, hs]
  have hxa : (E ++ X ++ [y] ++ S).toArray[m]! = y := at_get (by rw [← hm, ← ha]; simp)
  have HYa : Hid (∀ i x, X[i]? = some x → (E ++ X ++ [y] ++ S).toArray[a + i]! = x) := fun i x h => by
    have := at_piece (E := E) (S := [y] ++ S) h
    rw [ha, ← List.append_assoc] at this
    exact this
  have mixed := K.mixed; have t0 := K.t0; have a0 := K.a0; have z0 := K.z0; have v0 := K.v0; have t3 := K.t3; have a3 := K.a3; have z3 := K.z3; have v3 := K.v3; have t4 := K.t4; have a4 := K.a4; have z4 := K.z4; have v4 := K.v4; have t22 := K.t22; have a22 := K.a22; have z22 := K.z22; have v22 := K.v22; have t79 := K.t79; have a79 := K.a79; have z79 := K.z79; have v79 := K.v79; have t99 := K.t99; have a99 := K.a99; have z99 := K.z99; have v99 := K.v99; have a36 := K.a36; have z36 := K.z36
  have u22 := run_underlying K.t22
  have FG := K.f95
  have hw1 : IntKind.i64.wrap ((m : Int) - (a : Int)) = (m : Int) - (a : Int) := by rw [IntKind.wrap_i64]; omega
  have hw2 : IntKind.i64.wrap ((b : Int) - (m : Int)) = 1 := by rw [IntKind.wrap_i64]; omega
  have he1 : ((m : Int) - (a : Int) == 1) = false := by simp; omega
  have he3 : ¬ (m : Int) - (a : Int) = 1 := by omega
  have he2 : (b : Int) - (m : Int) = 1 := by omega
  have HM1 : Hid (m + 1 = b) := hb
  clear hW hs hsz hz ha hb hm hcmp M hX
  generalize hD : (E ++ X ++ [y] ++ S).toArray = D at *
  have HD : Hid ((E ++ X ++ [y] ++ S).toArray = D) := hD
  clear hD
  go_enter FG, Tryz.ntmps95
  go_upto_block 4 with fail
  go_cut [14] (fun s10 wx => ∃ i : Nat, s10 = .int .i64 i ∧ a ≤ i ∧ i ≤ m ∧ (i = a ∨ ∃ x, X[i - a - 1]? = some x ∧ ltOf cf y x = false) ∧ (i = m ∨ ∃ x, X[i - a]? = some x ∧ ltOf cf y x = true) ∧ Aside (SWK enc k w0 blk off D wx))
  case first =>
    go_wp2_with fail
    go_loopw [14, 15] (fun s10 s11 wr => ∃ i j : Nat, s10 = .int .i64 i ∧ s11 = .int .i64 j ∧ a ≤ i ∧ i ≤ j ∧ j ≤ m ∧ Hid ((i = a ∨ ∃ x, X[i - a - 1]? = some x ∧ ltOf cf y x = false) ∧ (j = m ∨ ∃ x, X[j - a]? = some x ∧ ltOf cf y x = true)) ∧ Aside (SWK enc k w0 blk off D wr)) (fun s10 s11 _ => (intOf s11).toNat - (intOf s10).toNat)
    case atStart => exact ⟨a, m, rfl, rfl, Nat.le_refl _, by omega, Nat.le_refl _, ⟨.inl rfl, .inl rfl⟩, S0⟩
    case round =>
      obtain ⟨i, j, rfl, rfl, hai, hij, hjb, HK, S1⟩ := hrel
      by_cases hlt : i < j
      · have hlt' : (i : Int) < (j : Int) := by omega
        have hi0 : (0 : Int) ≤ (i : Int) := by omega
        have hj3 : (j : Int) ≤ 4398046511104 := by omega
        obtain ⟨h, hh⟩ : ∃ h : Nat, (i + j) / 2 = h := ⟨_, rfl⟩
        have hh' : ((i : Int) + (j : Int)) / 2 = (h : Int) := by omega
        have hhz : (h : Int) < (z : Int) := by omega
        have haz : (m : Int) < (z : Int) := by omega
        have hh0 : (0 : Int) ≤ (h : Int) := by omega
        have ha0 : (0 : Int) ≤ (m : Int) := by omega
        have hhij : i ≤ h ∧ h < j := by omega
        obtain ⟨x, hy⟩ : ∃ x, X[h - a]? = some x := ⟨_, List.getElem?_eq_getElem (by have := HB.out.1; omega)⟩
        have HY : Hid (X[h - a]? = some x) := hy
        have hyD : D[h]! = x := by have := HYa.out _ _ hy; rwa [show a + (h - a) = h by omega] at this
        have l1 := S1.out.ld R (by omega) P h (by have := HB.out.2.2.1; omega)
        have l2 := S1.out.ld R (by omega) P m (by have := HB.out.2.2.1; omega)
        have hcg := S1.out.cmp HC.out (by omega) y x
        rw [hyD] at l1
        rw [hxa] at l2
        clear hy hyD hh
        by_cases hlv : cf y x < 0
        · have hlv2 : ¬ (0 ≤ cf y x) := by omega
          go_wp2_with fail
          try simp only [hh']
          go_quiet_grown (first | (go_at_fn g; refine Calls.grown_of (hcg _ _)))
          go_wp2_with fail
          refine ⟨⟨i, h, rfl, rfl, hai, by omega, by omega, ⟨HK.out.1, .inr ⟨x, HY.out, decide_eq_true hlv⟩⟩, S1.out.grown nq osq⟩, by simp [intOf]; omega⟩
        · have hlc : (!decide (cf y x < 0)) = true := by simp; omega
          go_wp2_with fail
          try simp only [hh']
          go_quiet_grown (first | (go_at_fn g; refine Calls.grown_of (hcg _ _)))
          go_wp2_with fail
          exact ⟨⟨h + 1, j, rfl, rfl, by omega, by omega, hjb, ⟨.inr ⟨x, by rw [show h + 1 - a - 1 = h - a by omega]; exact HY.out, decide_eq_false (by omega)⟩, HK.out.2⟩, S1.out.grown nq osq⟩, by simp [intOf]; omega⟩
      · have hlt' : ¬ (i : Int) < (j : Int) := by omega
        have e : i = j := by omega
        subst e
        go_wp2_with fail
        go_meet
        case rel => exact ⟨i, rfl, hai, hjb, HK.out.1, HK.out.2, S1⟩
  case rest =>
  obtain ⟨i, rfl, hai, hib, hF1, hF2, S1⟩ := hcut
  have HK : Hid ((i = a ∨ ∃ x, X[i - a - 1]? = some x ∧ ltOf cf y x = false) ∧ (i = m ∨ ∃ x, X[i - a]? = some x ∧ ltOf cf y x = true)) := ⟨hF1, hF2⟩
  have S2 : Aside (SWK enc k w0 blk off (sA E y X S X.length).toArray wc) := by show SWK _ _ _ _ _ _ _; rw [sA_end, HD.out]; exact S1.out
  have HST : Hid (∀ t, t < X.length → swp (sA E y X S (t + 1)).toArray (a + t + 1) (a + t) = (sA E y X S t).toArray) := fun t ht => by rw [← HB.out.2.1]; exact sA_back E y X S ht
  have HLN : Hid (∀ t, (sA E y X S t).toArray.size = d0.size) := fun t => by simp only [List.size_toArray, sA_len]; rw [HB.out.2.2.1, ← HB.out.2.2.2]; simp; omega
  have HEND : Hid (MgO T X [y] (X.take (i - a) ++ [y] ++ X.drop (i - a))) := mg_last tr HM.out (by have := HB.out.1; omega) (HK.out.1.imp (fun h => by omega) (fun h => h)) (HK.out.2.imp (fun h => by have := HB.out.1; omega) (fun h => h))
  clear hF1 hF2 S0 S1 HYa hxa hsD HC HK HM HD
  go_wp2_with fail
  go_loopw [17] (fun s13 wr => ∃ u : Nat, s13 = .int .i64 u ∧ i ≤ u ∧ u ≤ m ∧ Aside (SWK enc k w0 blk off (sA E y X S (u - a)).toArray wr)) (fun s13 _ => (intOf s13).toNat)
  case atStart => exact ⟨m, rfl, by omega, Nat.le_refl _, by rw [show m - a = X.length by have := HB.out.1; omega]; exact S2⟩
  case round =>
    clear S2
    obtain ⟨u, rfl, hau, hui, S3⟩ := hrel
    by_cases hlt : i < u
    · have hlt' : (i : Int) < (u : Int) := by omega
      obtain ⟨v, rfl⟩ : ∃ v, u = v + 1 := ⟨u - 1, by omega⟩
      have hsk : (sA E y X S (v + 1 - a)).toArray.size = d0.size := HLN.out _
      have HSP : Hid (swp (sA E y X S (v + 1 - a)).toArray (v + 1) v = (sA E y X S (v - a)).toArray) := by
        have := HST.out (v - a) (by have := HB.out.1; omega)
        rw [show a + (v - a) = v by omega, show v - a + 1 = v + 1 - a by omega] at this
        exact this
      generalize (sA E y X S (v + 1 - a)).toArray = dk at *
      have hz2 := HB.out.2.2.1
      have ev : ((v + 1 : Nat) : Int) = (v : Int) + 1 := rfl
      have pa : (0 : Int) ≤ (v : Int) := by omega
      have ba : (v : Int) < (z : Int) := by omega
      have pc : (0 : Int) ≤ (v : Int) + 1 := by omega
      have bc : (v : Int) + 1 < (z : Int) := by omega
      have ec : ((v : Int) + 1).toNat = v + 1 := by omega
      have rc : IntKind.i64.wrap ((v : Int) + 1 - 1) = (v : Int) := by rw [Int.add_sub_cancel, IntKind.wrap_i64]; omega
      have rd : IntKind.i64.wrap (v : Int) = (v : Int) := by rw [IntKind.wrap_i64]; omega
      have re : (v : Int) + 1 - 1 = (v : Int) := by omega
      have hlt2 : (i : Int) < (v : Int) + 1 := by omega
      have S4 : Aside (SWK enc k w0 blk off (swp dk (v + 1) v) ((wr.drew.setCells blk (off + (v + 1) * k) (enc dk[v]!)).setCells blk (off + v * k) (enc dk[v + 1]!))) := S3.out.swapped R (v + 1) v (by omega) (by omega)
      have l1 := S3.out.ld1 R (by omega) P (v + 1) (by omega)
      have l2 := S3.out.ld1 R (by omega) P v (by omega)
      have s1 := S3.out.st1 R (by omega) P (v + 1) (by omega) dk[v]!
      have s2 := S3.out.st2 R (by omega) P (v + 1) v (by omega) (by omega) dk[v]! dk[v + 1]!
      have n1 : (enc dk[v + 1]!).length = k := R.hk _
      have n2 : (enc dk[v]!).length = k := R.hk _
      generalize enc dk[v + 1]! = cI at S4 l1 s2 n1
      generalize enc dk[v]! = cJ at S4 l2 s1 s2 n2
      clear S3 hz2
      rw [ev]
      go_wp2_with fail
      go_big_region_o
      clear l1 l2 s1 s2
      generalize (wr.drew.setCells blk (off + (v + 1) * k) cJ).setCells blk (off + v * k) cI = w2 at S4 ⊢
      go_wp2_with fail
      refine ⟨⟨v, rfl, by omega, by omega, ?_⟩, by simp [intOf]⟩
      have := S4.out
      rw [HSP.out] at this
      exact this
    · have hlt' : ¬ (i : Int) < (u : Int) := by omega
      have e : u = i := by omega
      subst e
      have HFin : Hid (SWK enc k w0 blk off (E ++ (X.take (u - a) ++ [y] ++ X.drop (u - a)) ++ S).toArray wr) := by
        have := S3.out
        unfold sA at this
        show SWK _ _ _ _ _ _ _
        rw [show E ++ (X.take (u - a) ++ [y] ++ X.drop (u - a)) ++ S = E ++ X.take (u - a) ++ [y] ++ X.drop (u - a) ++ S by simp]
        exact this
      generalize X.take (u - a) ++ [y] ++ X.drop (u - a) = Z at *
      go_wp2_with fail
      exact bodyPost_ret (v := .tuple #[]) (by simp [results, Tryz.results95, go_sem]) rfl ⟨rfl, Z, HEND.out, by have := HFin.out; rwa [List.append_assoc] at this⟩
end Go.Proofs.YtcekgefkimbfaaaGreatDoor.ps


/- Go's own stable sort at a list of cells with their texts: two pieces change places. Conditions: as each theorem says. -/
import Derived.Test.YtehamdkjdbaceaaDoorSe
import Derived.Shelf.SlSortCmp.Kit1
import Derived.Deep.LoopGhost
namespace Go.Proofs.YtehamdkjdbaceaaDoor.so
open Go.RowKit Go.Sort
theorem swp_list {α : Type} [Inhabited α] (P Q S : List α) (x y : α) : swp (P ++ x :: (Q ++ y :: S)).toArray P.length (P.length + 1 + Q.length) = (P ++ y :: (Q ++ x :: S)).toArray := by
  have hx : (P ++ x :: (Q ++ y :: S)).toArray[P.length]! = x := by simp
  have hy : (P ++ x :: (Q ++ y :: S)).toArray[P.length + 1 + Q.length]! = y := by
    rw [show P.length + 1 + Q.length = (P ++ x :: Q).length by simp; omega, show P ++ x :: (Q ++ y :: S) = (P ++ x :: Q) ++ y :: S by simp]
    simp
  unfold swp
  rw [hx, hy]
  apply Array.ext'
  rw [Array.toList_setIfInBounds, Array.toList_setIfInBounds]
  rw [List.set_append_right _ _ (Nat.le_refl _), Nat.sub_self, List.set_cons_zero]
  rw [List.set_append_right _ _ (by omega), show P.length + 1 + Q.length - P.length = Q.length + 1 by omega, List.set_cons_succ, List.set_append_right _ _ (Nat.le_refl _), Nat.sub_self, List.set_cons_zero]
/-- The pieces after so many exchanges. -/
def sr {α : Type} (P A M B S : List α) (t : Nat) : List α := P ++ B.take t ++ A.drop t ++ M ++ A.take t ++ B.drop t ++ S
theorem sr_zero {α : Type} (P A M B S : List α) : sr P A M B S 0 = P ++ A ++ M ++ B ++ S := by simp [sr]
theorem sr_end {α : Type} (P A M B S : List α) (h : A.length = B.length) : sr P A M B S A.length = P ++ B ++ M ++ A ++ S := by
  unfold sr
  rw [List.take_of_length_le (l := B) (by omega), List.drop_of_length_le (l := B) (by omega), List.take_length, List.drop_length]
  simp
theorem sr_len {α : Type} (P A M B S : List α) (t : Nat) : (sr P A M B S t).length = (P ++ A ++ M ++ B ++ S).length := by
  unfold sr
  simp only [List.length_append, List.length_take, List.length_drop]
  omega
theorem sr_step {α : Type} [Inhabited α] (P A M B S : List α) (h : A.length = B.length) (t : Nat) (ht : t < A.length) : swp (sr P A M B S t).toArray (P.length + t) (P.length + A.length + M.length + t) = (sr P A M B S (t + 1)).toArray := by
  have hA : A.drop t = A[t] :: A.drop (t + 1) := List.drop_eq_getElem_cons ht
  have hB : B.drop t = B[t] :: B.drop (t + 1) := List.drop_eq_getElem_cons (by omega)
  have e1 : sr P A M B S t = (P ++ B.take t) ++ A[t] :: ((A.drop (t + 1) ++ M ++ A.take t) ++ B[t] :: (B.drop (t + 1) ++ S)) := by
    unfold sr; rw [hA, hB]; simp only [List.append_assoc, List.cons_append]
  have e2 : sr P A M B S (t + 1) = (P ++ B.take t) ++ B[t] :: ((A.drop (t + 1) ++ M ++ A.take t) ++ A[t] :: (B.drop (t + 1) ++ S)) := by
    unfold sr
    rw [List.take_add_one (l := A), List.take_add_one (l := B), List.getElem?_eq_getElem ht, List.getElem?_eq_getElem (show t < B.length by omega)]
    simp only [Option.toList_some, List.append_assoc, List.cons_append, List.nil_append]
  rw [e1, e2]
  have := swp_list (P ++ B.take t) (A.drop (t + 1) ++ M ++ A.take t) (B.drop (t + 1) ++ S) A[t] B[t]
  have l1 : (P ++ B.take t).length = P.length + t := by simp; omega
  have l2 : (A.drop (t + 1) ++ M ++ A.take t).length = A.length - (t + 1) + M.length + t := by simp; omega
  rw [l1, l2] at this
  rw [show P.length + A.length + M.length + t = P.length + t + 1 + (A.length - (t + 1) + M.length + t) by omega]
  exact this
/-- What is asked of a program: the sort's functions at numbers, and the types that they name. -/
structure KT (P : Program) : Prop where
  mixed : P.follows Departure.mixedOrders = true
  t0 : P.underlying 0 = some (.tuple #[])
  a0 : ∀ w, (isAgg 0).run P w = .ok false w
  z0 : ∀ w, (Go.sizeOf 0).run P w = .ok 1 w
  v0 : ∀ w, (zeroValue 0).run P w = .ok (.tuple #[]) w
  t3 : P.underlying 3 = some (.int .i64)
  a3 : ∀ w, (isAgg 3).run P w = .ok false w
  z3 : ∀ w, (Go.sizeOf 3).run P w = .ok 1 w
  v3 : ∀ w, (zeroValue 3).run P w = .ok (.int .i64 0) w
  t4 : P.underlying 4 = some (.bool)
  a4 : ∀ w, (isAgg 4).run P w = .ok false w
  z4 : ∀ w, (Go.sizeOf 4).run P w = .ok 1 w
  v4 : ∀ w, (zeroValue 4).run P w = .ok (.bool false) w
  t22 : P.underlying 24 = some (.slice 3)
  a22 : ∀ w, (isAgg 24).run P w = .ok false w
  z22 : ∀ w, (Go.sizeOf 24).run P w = .ok 1 w
  v22 : ∀ w, (zeroValue 24).run P w = .ok (.slice none 0 0) w
  t79 : P.underlying 55 = some (.func #[3, 3] #[3] false)
  a79 : ∀ w, (isAgg 55).run P w = .ok false w
  z79 : ∀ w, (Go.sizeOf 55).run P w = .ok 1 w
  v79 : ∀ w, (zeroValue 55).run P w = .ok (.nilFunc) w
  t99 : P.underlying 98 = some (.int .u64)
  a99 : ∀ w, (isAgg 98).run P w = .ok false w
  z99 : ∀ w, (Go.sizeOf 98).run P w = .ok 1 w
  v99 : ∀ w, (zeroValue 98).run P w = .ok (.int .u64 0) w
  fSw : P.funcs[55]? = some Tryd.f55
  fRo : P.funcs[52]? = some Tryd.f52
  fSy : P.funcs[45]? = some Tryd.f45
  fSt : P.funcs[35]? = some Tryd.f35
theorem kt : KT Tryd.prog := ⟨by kernel_rfl, Tryd.underlying0, Tryd.isAgg0, Tryd.sizeOf0, Tryd.zeroValue0, Tryd.underlying3, Tryd.isAgg3, Tryd.sizeOf3, Tryd.zeroValue3, Tryd.underlying4, Tryd.isAgg4, Tryd.sizeOf4, Tryd.zeroValue4, Tryd.underlying24, Tryd.isAgg24, Tryd.sizeOf24, Tryd.zeroValue24, Tryd.underlying55, Tryd.isAgg55, Tryd.sizeOf55, Tryd.zeroValue55, Tryd.underlying98, Tryd.isAgg98, Tryd.sizeOf98, Tryd.zeroValue98, Tryd.func55, Tryd.func52, Tryd.func45, Tryd.func35⟩
variable {α : Type} [Inhabited α] {P : Program}
set_option maxRecDepth 1000000 in
set_option maxHeartbeats 2000000 in
theorem swapRange_any (K : KT P) (enc : α → Value) (E A M B S : List α) (hAB : A.length = B.length) (fv : Value) (blk off cap : Nat) (d0 : Array α) (w0 w : World) (R : Row1 enc w0 blk off d0) (hs : d0.size = (E ++ A ++ M ++ B ++ S).length) (hsz : d0.size ≤ 4398046511104) (hW : SW enc w0 blk off (E ++ A ++ M ++ B ++ S).toArray w) :
    Calls P 55 #[.slice (some ⟨blk, off, none⟩) d0.size cap, .int .i64 (E.length : Nat), .int .i64 ((E.length + A.length + M.length : Nat) : Int), .int .i64 (A.length : Nat), fv] w fun e w' => e = .returned (.tuple #[]) ∧ SW enc w0 blk off (E ++ B ++ M ++ A ++ S).toArray w' := by
  obtain ⟨a, ha⟩ : ∃ a, E.length = a := ⟨_, rfl⟩
  obtain ⟨n, hn⟩ : ∃ n, A.length = n := ⟨_, rfl⟩
  obtain ⟨b, hb⟩ : ∃ b, E.length + A.length + M.length = b := ⟨_, rfl⟩
  obtain ⟨z, hz⟩ : ∃ z, d0.size = z := ⟨_, rfl⟩
  have hlen : z = a + n + M.length + n + S.length := by rw [← hz, hs, ← ha, ← hn]; simp; omega
  have hbz : b = a + n + M.length := by omega
  have S0 : Aside (SW enc w0 blk off (sr E A M B S 0).toArray w) := by show SW _ _ _ _ _ _; rw [sr_zero]; exact hW
  rw [hb, ha, hn, hz]
  have HZ : Hid (z = d0.size) := hz.symm
  have HST : Hid (∀ t, t < n → swp (sr E A M B S t).toArray (a + t) (b + t) = (sr E A M B S (t + 1)).toArray) := fun t ht => by rw [← ha, ← hb]; exact sr_step E A M B S hAB t (by omega)
  have HLN : Hid (∀ t, (sr E A M B S t).toArray.size = d0.size) := fun t => by simp only [List.size_toArray, sr_len]; exact hs.symm
  have HEN : Hid (sr E A M B S n = E ++ B ++ M ++ A ++ S) := by show _ = _; rw [← hn]; exact sr_end E A M B S hAB
  have hz1 : z ≤ 4398046511104 := by omega
  have hbn : b + n ≤ z := by omega
  have han : a + n ≤ z := by omega
  clear hW hs hsz hz hbz hlen ha hn hb
  have mixed := K.mixed; have t0 := K.t0; have a0 := K.a0; have z0 := K.z0; have v0 := K.v0; have t3 := K.t3; have a3 := K.a3; have z3 := K.z3; have v3 := K.v3; have t4 := K.t4; have a4 := K.a4; have z4 := K.z4; have v4 := K.v4; have t22 := K.t22; have a22 := K.a22; have z22 := K.z22; have v22 := K.v22; have t79 := K.t79; have a79 := K.a79; have z79 := K.z79; have v79 := K.v79
  have u22 := run_underlying K.t22
  have hcl0 := R.hO.cells
  simp only [Value.cells] at hcl0
  have hst := R.hO.store P
  have FG := K.fSw
  generalize E ++ B ++ M ++ A ++ S = F at *
  go_enter FG, Tryd.ntmps55
  go_wp2
  go_loopg [10] n (fun kx s10 wr => ∃ (i : Nat), s10 = .int .i64 i ∧ i ≤ n ∧ n - i ≤ kx ∧ Aside (SW enc w0 blk off (sr E A M B S i).toArray wr))
  case atStart => exact ⟨0, rfl, Nat.zero_le _, by omega, S0⟩
  case round =>
    clear S0
    obtain ⟨i, rfl, hi, hkx, S1⟩ := hrel
    by_cases hlt : i < n
    · have hltI : (i : Int) < (n : Int) := by omega
      have hsk : (sr E A M B S i).toArray.size = d0.size := HLN.out i
      generalize hdk : (sr E A M B S i).toArray = dk at *
      have HDK : Hid ((sr E A M B S i).toArray = dk) := hdk
      clear hdk
      go_wp2_with fail
      have ea : ((a : Int) + (i : Int)).toNat = a + i := by omega
      have pa : (0 : Int) ≤ (a : Int) + (i : Int) := by omega
      have ba : (a : Int) + (i : Int) < (z : Int) := by omega
      have ra : IntKind.i64.wrap ((a : Int) + (i : Int)) = (a : Int) + (i : Int) := by rw [IntKind.wrap_i64]; omega
      have ec : ((b : Int) + (i : Int)).toNat = b + i := by omega
      have pc : (0 : Int) ≤ (b : Int) + (i : Int) := by omega
      have bc : (b : Int) + (i : Int) < (z : Int) := by omega
      have rc : IntKind.i64.wrap ((b : Int) + (i : Int)) = (b : Int) + (i : Int) := by rw [IntKind.wrap_i64]; omega
      have hzz := HZ.out
      have S2 : Aside (SW enc w0 blk off (swp dk (a + i) (b + i)) ((wr.setCell ⟨blk, off + (a + i), none⟩ (enc dk[b + i]!)).setCell ⟨blk, off + (b + i), none⟩ (enc dk[a + i]!)).drew) := S1.out.swapped R (a + i) (b + i) (by omega) (by omega)
      have l1 := S1.out.c1 R (by omega) (a + i) (by omega)
      have l2 := S1.out.c1 R (by omega) (b + i) (by omega)
      have s1 := S1.out.f1 R (by omega) (a + i) (by omega)
      have s2 := S1.out.f1 R (by omega) (b + i) (by omega)
      obtain ⟨cU, n1⟩ := S1.out.c2 R (by omega) (a + i) (b + i) (by omega) (by omega) (enc dk[b + i]!)
      generalize dk[a + i]! = cI at S2 l1
      generalize dk[b + i]! = cJ at S2 l2 n1
      clear S1
      go_big_region_o
      clear l1 l2 s1 s2
      clear n1
      generalize ((wr.setCell ⟨blk, off + (a + i), none⟩ (enc cJ)).setCell ⟨blk, off + (b + i), none⟩ (enc cI)).drew = w2 at S2 ⊢
      go_wp2
      go_roundg (n - (i + 1))
      case measure => omega
      case rel =>
        refine ⟨i + 1, by go_num, by omega, by omega, ?_⟩
        have := S2.out
        rw [← HDK.out, HST.out i hlt] at this
        exact this
    · have hltI : ¬ (i : Int) < (n : Int) := by omega
      go_wp2
      go_end0
      have e : i = n := by omega
      subst e
      exact ⟨rfl, by rw [← HEN.out]; exact S1.out⟩
end Go.Proofs.YtehamdkjdbaceaaDoor.so


/- A sheet that is written entry by entry and read, plain: it is that sheet; of a beginning a beginning; what is read is a sheet, and written anew it has no more bytes. Nothing is walked here. Conditions: as each theorem says. -/
import Derived.Test.YtokfijkhflfioaaGreatDoorBke
import Derived.Test.YtokfijkhflfioaaGreatDoorZa
namespace Go.Proofs.YtokfijkhflfioaaGreatDoor.fw
open Go.RowKit Go.Sort
def fE (x : ps.Fl) : En := (x.c, x.r, x.s)
def gE (x : En) : ps.Fl := ⟨x.1, x.2.1, x.2.2⟩
/-- A sheet's bytes. -/
def bkS (xs : List ps.Fl) : List UInt8 := enS (xs.map fE)
/-- A cell and a text that may stand in a sheet. -/
def Gd (ok : ByteArray → Bool) (x : ps.Fl) : Prop := (1 ≤ x.c ∧ x.c ≤ 26) ∧ (1 ≤ x.r ∧ x.r ≤ 99) ∧ ok x.s = true
/-- An entry, done. -/
def setF (ok : ByteArray → Bool) (xs : List ps.Fl) (c r : UInt8) (t : List UInt8) : Option (List ps.Fl) :=
  if (1 ≤ c.toNat ∧ c.toNat ≤ 26) ∧ (1 ≤ r.toNat ∧ r.toNat ≤ 99) ∧ ok (txt t) = true ∧ (ps.wt xs ⟨(c.toNat : Int), (r.toNat : Int), txt t⟩).length ≤ 200 then some (ps.wt xs ⟨(c.toNat : Int), (r.toNat : Int), txt t⟩) else none
theorem txt_back (b : ByteArray) : txt b.toList = b := by
  apply ByteArray.ext
  rw [ByteArray.toList_eq]
  rfl
theorem txt_size (t : List UInt8) : (txt t).size = t.length := rfl
theorem bkS_length (xs : List ps.Fl) : (bkS xs).length = (xs.map fun x => x.s.size + 5).sum := by
  unfold bkS
  induction xs with
  | nil => rfl
  | cons x xs ih => rw [List.map_cons, enS_cons, List.length_append, ih, enO_length]; rfl
theorem wt_more (xs : List ps.Fl) (f : ps.Fl) : (bkS (ps.wt xs f)).length ≤ (bkS xs).length + (f.s.size + 5) := by
  have hp : (bkS (ps.put f)).length ≤ f.s.size + 5 := by
    unfold ps.put
    split
    · exact Nat.zero_le _
    · rw [bkS_length]; simp
  have ha : ∀ a b : List ps.Fl, (bkS (a ++ b)).length = (bkS a).length + (bkS b).length := fun a b => by rw [bkS_length, bkS_length, bkS_length, List.map_append, List.sum_append]
  have hc : ∀ (a : ps.Fl) (b : List ps.Fl), (bkS (a :: b)).length = (a.s.size + 5) + (bkS b).length := fun a b => by rw [bkS_length, bkS_length, List.map_cons, List.sum_cons]
  induction xs with
  | nil =>
    show (bkS (ps.put f)).length ≤ _
    omega
  | cons x xs ih =>
    unfold ps.wt
    split
    · rw [hc, hc]; omega
    · split
      · rw [ha, hc]; omega
      · rw [ha]; omega
theorem srt_take {xs : List ps.Fl} (h : ps.Srt xs) {i j : Nat} {x y : ps.Fl} (hij : i < j) (hx : xs[i]? = some x) (hy : xs[j]? = some y) : ps.lt x y.c y.r = true := by
  have h2 := List.pairwise_iff_getElem.1 h
  obtain ⟨hi, rfl⟩ := List.getElem?_eq_some_iff.1 hx
  obtain ⟨hj, rfl⟩ := List.getElem?_eq_some_iff.1 hy
  exact h2 i j hi hj hij
/-- A cell's text put behind all that stands. -/
theorem wt_last {xs : List ps.Fl} {f : ps.Fl} (h : ∀ x ∈ xs, ps.lt x f.c f.r = true) (hf : f.s.size ≠ 0) : ps.wt xs f = xs ++ [f] := by
  induction xs with
  | nil => exact ps.put_one hf
  | cons x xs ih =>
    unfold ps.wt
    rw [if_pos (h x List.mem_cons_self), ih fun y hy => h y (List.mem_cons_of_mem _ hy)]
    rfl
theorem lo8_nat {c : Int} (h0 : 0 ≤ c) (h1 : c < 256) : ((lo8 c).toNat : Int) = c := by rw [lo8_is]; exact Int.emod_eq_of_lt h0 h1
theorem map_gf (xs : List ps.Fl) : (xs.map fE).map gE = xs := by
  rw [List.map_map]
  have e : gE ∘ fE = id := rfl
  rw [e, List.map_id]
/-- What was written is that sheet. -/
theorem book_runs {ok : ByteArray → Bool} {xs : List ps.Fl} (hs : ps.Srt xs) (hf : ps.Ful xs) (hg : ∀ x ∈ xs, Gd ok x) (hl : xs.length ≤ 200) : runs (setF ok) [] (xs.map fE) = some xs := by
  have h := runs_back (setF ok) (fun l => l.map gE) (xs.map fE) (fun i x hx => by
    rw [List.getElem?_map] at hx
    cases e : xs[i]? with
    | none => rw [e] at hx; cases hx
    | some y =>
      rw [e] at hx
      obtain rfl : fE y = x := by simpa using hx
      have hm := List.mem_of_getElem? e
      obtain ⟨⟨c0, c1⟩, ⟨r0, r1⟩, ho⟩ := hg y hm
      have ec := lo8_nat (c := y.c) (by omega) (by omega)
      have er := lo8_nat (c := y.r) (by omega) (by omega)
      have e1 : ((xs.map fE).take i).map gE = xs.take i := by rw [← List.map_take, map_gf]
      have e2 : ((xs.map fE).take (i + 1)).map gE = xs.take (i + 1) := by rw [← List.map_take, map_gf]
      have ht : xs.take (i + 1) = xs.take i ++ [y] := by rw [List.take_add_one, e]; rfl
      have hw : ps.wt (xs.take i) y = xs.take (i + 1) := by
        rw [ht]
        refine wt_last (fun z hz => ?_) (hf y hm)
        obtain ⟨j, hj⟩ := List.getElem?_of_mem hz
        rw [List.getElem?_take] at hj
        split at hj
        · exact srt_take hs (by assumption) hj e
        · cases hj
      have hy : (⟨((lo8 y.c).toNat : Int), ((lo8 y.r).toNat : Int), txt y.s.toList⟩ : ps.Fl) = y := by rw [ec, er, txt_back]
      show setF ok (((xs.map fE).take i).map gE) (lo8 y.c) (lo8 y.r) y.s.toList = some (((xs.map fE).take (i + 1)).map gE)
      rw [e1, e2]
      unfold setF
      rw [hy, hw, if_pos]
      refine ⟨by omega, by omega, by rw [txt_back]; exact ho, ?_⟩
      rw [List.length_take]
      omega)
  rw [map_gf] at h
  exact h
/-- What is read of any bytes is a sheet, and written anew it has no more bytes. -/
theorem book_any (ok : ByteArray → Bool) (k : Nat) (b : List UInt8) : let o := opn (setF ok) k [] b
    ps.Srt o.1 ∧ ps.Ful o.1 ∧ (∀ x ∈ o.1, Gd ok x) ∧ o.1.length ≤ 200 ∧ (bkS o.1).length ≤ o.2 := by
  have h := opn_inv (setF ok) (fun s m => ps.Srt s ∧ ps.Ful s ∧ (∀ x ∈ s, Gd ok x) ∧ s.length ≤ 200 ∧ (bkS s).length ≤ m) (fun s m c r t s' hI ht he => by
    obtain ⟨i1, i2, i3, i4, i5⟩ := hI
    unfold setF at he
    split at he
    · rename_i hc
      obtain rfl := Option.some.inj he
      refine ⟨ps.wt_srt i1 _, ps.wt_ful i2 _, fun x hx => ?_, hc.2.2.2, ?_⟩
      · rcases ps.wt_in hx with hx | ⟨rfl, -⟩
        · exact i3 x hx
        · exact ⟨⟨by show (1 : Int) ≤ (c.toNat : Int); omega, by show (c.toNat : Int) ≤ 26; omega⟩, ⟨by show (1 : Int) ≤ (r.toNat : Int); omega, by show (r.toNat : Int) ≤ 99; omega⟩, hc.2.2.1⟩
      · have h1 := wt_more s ⟨(c.toNat : Int), (r.toNat : Int), txt t⟩
        simp only [txt_size] at h1
        omega
    · cases he) k [] b 0 ⟨List.Pairwise.nil, fun x hx => absurd hx List.not_mem_nil, fun x hx => absurd hx List.not_mem_nil, Nat.zero_le _, Nat.le_refl _⟩
  rw [Nat.zero_add] at h
  exact h
end Go.Proofs.YtokfijkhflfioaaGreatDoor.fw

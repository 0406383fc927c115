/- How chapter 3 writes a node, in plain Lean, and that what is written is read as it was. Conditions: what words mean, as the variables say. -/
import Derived.Test.YtmpfknokjianbaaGreatDoorFm3
namespace Go.Proofs.YtmpfknokjianbaaGreatDoor.fm
def T.kd : T → Int | .nd k _ _ _ _ _ => k
def T.nm : T → Int | .nd _ n _ _ _ _ => n
def opT : Nat → List UInt8
  | 1 => [61]
  | 2 => [60, 62]
  | 3 => [60]
  | 4 => [60, 61]
  | 5 => [62]
  | 6 => [62, 61]
  | 7 => [38]
  | 8 => [43]
  | 9 => [45]
  | 10 => [42]
  | 11 => [47]
  | _ => []
def dbl : List UInt8 → List UInt8
  | [] => []
  | c :: l => if c = 34 then 34 :: 34 :: dbl l else c :: dbl l
def badT : Nat → List UInt8
  | 1 => [35, 68, 73, 86, 33]
  | 2 => [35, 86, 65, 76, 85, 69, 33]
  | 3 => [35, 82, 69, 70, 33]
  | 4 => [35, 78, 65, 77, 69, 33]
  | 5 => [35, 78, 85, 77, 33]
  | 6 => [35, 78, 79, 78, 69, 33]
  | _ => []
def truT (n : Int) : List UInt8 := if n = 0 then [70, 65, 76, 83, 69] else [84, 82, 85, 69]
/-- An operand that is looser than asked for stands in brackets. -/
def loose (l : Nat) (t : T) : Bool := decide (t.kd = 8) && decide (lev t.nm.toNat < l)
def brk (l : Nat) (t : T) (x : List UInt8) : List UInt8 := if loose l t = true then 40 :: (x ++ [41]) else x
def brd (l : Nat) (t : T) (d : Nat) : Nat := if loose l t = true then d + 1 else d
def commas : List (List UInt8) → List UInt8
  | [] => []
  | [x] => x
  | x :: y :: xs => x ++ 44 :: commas (y :: xs)
/-- How numbers and refs are written; which refs are cells. -/
structure Ink where
  num : Int → List UInt8
  ref : Rf → List UInt8
  okR : Rf → Prop
section
variable (K : Ink)
/-- A node that can be written, its text, its levels. -/
inductive W : T → List UInt8 → Nat → Prop
  | num {n : Int} (h0 : 0 ≤ n) (h1 : n ≤ 9223372036854775807) : W (.nd 1 n nul .z .z []) (K.num n) 0
  | text {s : ByteArray} (h : s.size ≤ 200) : W (.nd 2 0 s .z .z []) (34 :: (dbl s.data.toList ++ [34])) 0
  | truth {n : Int} (h : n = 0 ∨ n = 1) : W (.nd 3 n nul .z .z []) (truT n) 0
  | bad {n : Nat} (h : 1 ≤ n) (h6 : n ≤ 6) : W (.nd 4 n nul .z .z []) (badT n) 0
  | ref {r : Rf} (h : K.okR r) : W (.nd 5 0 nul r .z []) (K.ref r) 0
  | box {r t : Rf} (h : K.okR r) (h2 : K.okR t) : W (.nd 6 0 nul r t []) (K.ref r ++ 58 :: K.ref t) 0
  | neg {a : T} {x : List UInt8} {d : Nat} (ha : a.kd ≠ 6) (h : W a x d) : W (.nd 7 0 nul .z .z [a]) (45 :: brk 5 a x) (brd 5 a d + 1)
  | two {op : Nat} {a b : T} {x y : List UInt8} {d e : Nat} (h1 : 1 ≤ op) (h11 : op ≤ 11) (ha : a.kd ≠ 6) (hb : b.kd ≠ 6) (hx : W a x d) (hy : W b y e) :
      W (.nd 8 op nul .z .z [a, b]) (brk (lev op) a x ++ opT op ++ brk (lev op + 1) b y) (max (brd (lev op) a d) (brd (lev op + 1) b e))
  | call {name : ByteArray} {ts : List T} {xs : List (List UInt8)} {ds : List Nat} (hn : isNm name = true) (hx : xs.length = ts.length) (hd : ds.length = ts.length)
      (h : ∀ (i : Nat) t x d, ts[i]? = some t → xs[i]? = some x → ds[i]? = some d → W t x d) :
      W (.nd 9 0 name .z .z ts) (name.data.toList ++ 40 :: (commas xs ++ [41])) (ds.foldr max 0 + 1)
end
/-- A list of bytes stands at a place. -/
def At (s : ByteArray) (k : Nat) (x : List UInt8) : Prop := ∃ a b, s.data.toList = a ++ (x ++ b) ∧ a.length = k
theorem At.le {s : ByteArray} {k : Nat} {x : List UInt8} (h : At s k x) : k + x.length ≤ s.size := by
  obtain ⟨a, b, h, rfl⟩ := h
  have := congrArg List.length h
  simp at this
  have e : s.size = s.data.size := rfl
  omega
theorem At.app {s : ByteArray} {k : Nat} {x y : List UInt8} (h : At s k (x ++ y)) : At s k x ∧ At s (k + x.length) y := by
  obtain ⟨a, b, h, rfl⟩ := h
  exact ⟨⟨a, y ++ b, by rw [h]; simp, rfl⟩, ⟨a ++ x, b, by rw [h]; simp, by simp⟩⟩
theorem At.cons {s : ByteArray} {k : Nat} {c : UInt8} {y : List UInt8} (h : At s k (c :: y)) : nx s k = c.toNat ∧ At s (k + 1) y := by
  have h2 := (At.app (x := [c]) h).2
  obtain ⟨a, b, h, rfl⟩ := h
  have hl : a.length < s.size := by
    have := congrArg List.length h
    simp at this
    have e : s.size = s.data.size := rfl
    omega
  refine ⟨?_, h2⟩
  rw [nx_in hl]
  have e : s.data.toList[a.length]? = some c := by rw [h]; simp
  have : s[a.length]'hl = c := by
    rw [Array.getElem?_toList] at e
    have e2 : s.data[a.length]? = some (s.data[a.length]'hl) := Array.getElem?_eq_getElem hl
    rw [e2] at e
    exact Option.some.inj e
  rw [this]
theorem At.nil {s : ByteArray} {k : Nat} {x : List UInt8} (h : At s k x) : At s k [] := (At.app (x := []) h).1
theorem At.drop {s : ByteArray} {k : Nat} {x : List UInt8} (h : At s k x) : ∃ b, s.data.toList.drop k = x ++ b := by
  obtain ⟨a, b, h, rfl⟩ := h
  exact ⟨b, by rw [h]; simp⟩
/-- What may follow a node's text. -/
structure St (s : ByteArray) (k : Nat) : Prop where
  w : isW (nx s k) = false
  c : nx s k ≠ 58
  b : nx s k ≠ 32
  q : nx s k ≠ 34
  p : nx s k ≠ 40
def Hd (x : List UInt8) : Prop := ∃ c r, x = c :: r ∧ (isW c.toNat = true ∨ c = 34 ∨ c = 35 ∨ c = 45 ∨ c = 40)
theorem Hd.ne {s : ByteArray} {k : Nat} {x : List UInt8} (h : Hd x) (ha : At s k x) : nx s k ≠ 32 ∧ nx s k ≠ 61 ∧ nx s k ≠ 62 ∧ nx s k ≠ 41 ∧ nx s k ≠ 58 := by
  obtain ⟨c, r, rfl, hc⟩ := h
  have := ha.cons.1
  rw [this]
  rcases hc with hc | rfl | rfl | rfl | rfl
  · refine ⟨?_, ?_, ?_, ?_, ?_⟩ <;> intro e <;> rw [e] at hc <;> simp [isW] at hc
  all_goals decide
theorem tok_at {s : ByteArray} {k : Nat} {x : List UInt8} (h : At s k x) (hw : ∀ c ∈ x, isW c.toNat = true) (he : isW (nx s (k + x.length)) = false) : tokEnd s k = k + x.length := by
  induction x generalizing k with
  | nil => exact tok_out he
  | cons c x ih =>
    have h1 := h.cons
    rw [tok_in (by rw [h1.1]; exact hw c (by simp)), ih h1.2 (fun c h => hw c (by simp [h])) (by rw [show k + 1 + x.length = k + (c :: x).length from by simp; omega]; exact he)]
    simp; omega
theorem extract_at {s : ByteArray} {k : Nat} {x : List UInt8} (h : At s k x) : s.extract k (k + x.length) = ⟨x.toArray⟩ := by
  obtain ⟨a, b, h, rfl⟩ := h
  apply ByteArray.ext
  rw [ByteArray.data_extract]
  apply Array.ext'
  rw [Array.toList_extract]
  simp [List.extract, h]
theorem skip_at {s : ByteArray} {k : Nat} (h : nx s k ≠ 32) : skip s k = k := skip_else h
theorem op_at {s : ByteArray} {k op : Nat} {y : List UInt8} (h1 : 1 ≤ op) (h11 : op ≤ 11) (h : At s k (opT op ++ y)) (hy : Hd y) : opAt s k = (op, (opT op).length) := by
  have hy2 := (hy.ne h.app.2)
  unfold opAt
  have hc : op = 1 ∨ op = 2 ∨ op = 3 ∨ op = 4 ∨ op = 5 ∨ op = 6 ∨ op = 7 ∨ op = 8 ∨ op = 9 ∨ op = 10 ∨ op = 11 := by omega
  rcases hc with rfl | rfl | rfl | rfl | rfl | rfl | rfl | rfl | rfl | rfl | rfl
  all_goals (simp only [opT, List.cons_append, List.nil_append, List.length_cons, List.length_nil] at h hy2 ⊢)
  all_goals (have q1 := h.cons.1)
  all_goals (try have q2 := h.cons.2.cons.1)
  all_goals (rw [q1])
  all_goals (simp only [Nat.zero_add] at hy2)
  all_goals (first | (simp; done) | (rw [q2]; simp; done) | (simp [hy2]; done) | (rw [q2] at hy2 ⊢; simp at hy2 ⊢; simp [hy2]; done) | skip)
end Go.Proofs.YtmpfknokjianbaaGreatDoor.fm

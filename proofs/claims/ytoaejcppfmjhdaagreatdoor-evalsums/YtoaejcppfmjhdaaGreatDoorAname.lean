/- The contract of the library's strings.ReplaceAll, and of Itoa of small numbers, at this program, laid out of the shelf in plain words. Nothing is walked here. -/
import Derived.Shelf.Strings.Replace
import Derived.Shelf.Strconv.Itoa3
import Derived.Test.YtoaejcppfmjhdaaGreatDoorProg
import Derived.Test.YtoaejcppfmjhdaaGreatDoorArow
import Derived.Deep.QuietTactic
import Derived.BigQuiet
import Derived.Laws.Runes
namespace Go.Proofs
open Go.Shelf
def Tryz.lays155_ren : Go.Shelf.Ren := ⟨fun | 155 => 228 | 154 => 261 | 138 => 280 | 165 => 270 | 143 => 248 | 166 => 102 | 197 => 281 | 169 => 104 | 195 => 295 | 218 => 296 | 240 => 140 | 241 => 290 | 219 => 256 | 260 => 297 | 276 => 226 | 277 => 303 | 217 => 273 | 225 => 274 | 224 => 275 | 267 => 276 | 266 => 291 | 314 => 292 | n => n, fun | 9 => 9 | 3 => 3 | 4 => 4 | 72 => 141 | 0 => 0 | 76 => 144 | 105 => 241 | 21 => 21 | 5 => 5 | 70 => 138 | 20 => 20 | 37 => 139 | 75 => 33 | 127 => 171 | 164 => 209 | 46 => 154 | 119 => 268 | 139 => 271 | 138 => 270 | 146 => 251 | 51 => 153 | 80 => 133 | n => n, fun | 1 => 2 | 3 => 4 | 4 => 5 | n => n⟩
theorem Tryz.lays155 : Go.Proofs.Lays.n155 Tryz.prog Tryz.lays155_ren := {
  mixed := by kernel_rfl
  f138 := Tryz.func280.trans (congrArg some (by kernel_rfl))
  f143 := Tryz.func248.trans (congrArg some (by kernel_rfl))
  f154 := Tryz.func261.trans (congrArg some (by kernel_rfl))
  f155 := Tryz.func228.trans (congrArg some (by kernel_rfl))
  f165 := Tryz.func270.trans (congrArg some (by kernel_rfl))
  f166 := Tryz.func102.trans (congrArg some (by kernel_rfl))
  f169 := Tryz.func104.trans (congrArg some (by kernel_rfl))
  f195 := Tryz.func295.trans (congrArg some (by kernel_rfl))
  f197 := Tryz.func281.trans (congrArg some (by kernel_rfl))
  f217 := Tryz.func273.trans (congrArg some (by kernel_rfl))
  f218 := Tryz.func296.trans (congrArg some (by kernel_rfl))
  f219 := Tryz.func256.trans (congrArg some (by kernel_rfl))
  f224 := Tryz.func275.trans (congrArg some (by kernel_rfl))
  f225 := Tryz.func274.trans (congrArg some (by kernel_rfl))
  f240 := Tryz.func140.trans (congrArg some (by kernel_rfl))
  f241 := Tryz.func290.trans (congrArg some (by kernel_rfl))
  f260 := Tryz.func297.trans (congrArg some (by kernel_rfl))
  f266 := Tryz.func291.trans (congrArg some (by kernel_rfl))
  f267 := Tryz.func276.trans (congrArg some (by kernel_rfl))
  f276 := Tryz.func226.trans (congrArg some (by kernel_rfl))
  f277 := Tryz.func303.trans (congrArg some (by kernel_rfl))
  f314 := Tryz.func292.trans (congrArg some (by kernel_rfl))
  t0 := Tryz.underlying0
  a0 := Tryz.isAgg0
  z0 := Tryz.sizeOf0
  v0 := Tryz.zeroValue0
  t3 := Tryz.underlying3
  a3 := Tryz.isAgg3
  z3 := Tryz.sizeOf3
  v3 := Tryz.zeroValue3
  t4 := Tryz.underlying4
  a4 := Tryz.isAgg4
  z4 := Tryz.sizeOf4
  v4 := Tryz.zeroValue4
  t5 := Tryz.underlying5
  a5 := Tryz.isAgg5
  z5 := Tryz.sizeOf5
  v5 := Tryz.zeroValue5
  t9 := Tryz.underlying9
  a9 := Tryz.isAgg9
  z9 := Tryz.sizeOf9
  v9 := Tryz.zeroValue9
  t20 := Tryz.underlying20
  a20 := Tryz.isAgg20
  z20 := Tryz.sizeOf20
  v20 := Tryz.zeroValue20
  t21 := Tryz.underlying21
  a21 := Tryz.isAgg21
  z21 := Tryz.sizeOf21
  v21 := Tryz.zeroValue21
  t37 := Tryz.underlying139
  a37 := Tryz.isAgg139
  z37 := Tryz.sizeOf139
  v37 := Tryz.zeroValue139
  t46 := Tryz.underlying154
  a46 := Tryz.isAgg154
  z46 := Tryz.sizeOf154
  v46 := Tryz.zeroValue154
  t51 := Tryz.underlying153
  a51 := Tryz.isAgg153
  z51 := Tryz.sizeOf153
  v51 := Tryz.zeroValue153
  t70 := Tryz.underlying138
  a70 := Tryz.isAgg138
  z70 := Tryz.sizeOf138
  v70 := Tryz.zeroValue138
  t72 := Tryz.underlying141
  a72 := Tryz.isAgg141
  z72 := Tryz.sizeOf141
  v72 := Tryz.zeroValue141
  t75 := Tryz.underlying33
  a75 := Tryz.isAgg33
  z75 := Tryz.sizeOf33
  v75 := Tryz.zeroValue33
  t76 := Tryz.underlying144
  a76 := Tryz.isAgg144
  z76 := Tryz.sizeOf144
  v76 := Tryz.zeroValue144
  t105 := Tryz.underlying241
  a105 := Tryz.isAgg241
  z105 := Tryz.sizeOf241
  v105 := Tryz.zeroValue241
  t119 := Tryz.underlying268
  a119 := Tryz.isAgg268
  z119 := Tryz.sizeOf268
  t127 := Tryz.underlying171
  a127 := Tryz.isAgg171
  z127 := Tryz.sizeOf171
  v127 := Tryz.zeroValue171
  t138 := Tryz.underlying270
  a138 := Tryz.isAgg270
  z138 := Tryz.sizeOf270
  v138 := Tryz.zeroValue270
  t139 := Tryz.underlying271
  a139 := Tryz.isAgg271
  z139 := Tryz.sizeOf271
  v139 := Tryz.zeroValue271
  t146 := Tryz.underlying251
  a146 := Tryz.isAgg251
  z146 := Tryz.sizeOf251
  v146 := Tryz.zeroValue251
  t164 := Tryz.underlying209
  a164 := Tryz.isAgg209
  z164 := Tryz.sizeOf209
  v164 := Tryz.zeroValue209
  g1 := by kernel_rfl
  g3 := by kernel_rfl
  g4 := by kernel_rfl }
theorem Tryz.Builder_Extra_155 : Builder.Extra Tryz.prog Tryz.lays155_ren := {
  sizeBuilder := by kernel_rfl
  liesBuilder := by kernel_rfl
  t5 := Tryz.underlying5
  a5 := Tryz.isAgg5
  z5 := Tryz.sizeOf5
  v5 := Tryz.zeroValue5
  infoByte := by kernel_rfl
  cellsByte := by kernel_rfl
  sizeByte := by kernel_rfl
  neB5 := by decide }
open Go.RowKit Go.Lib in
/-- strings.ReplaceAll: "ReplaceAll returns a copy of the string s with all non-overlapping instances of old replaced by new.": AT AN old THAT IS NOT EMPTY: 'Lib.replaceAll s old new'. (LAID: no walk: one application.) -/
theorem Tryz.strings_ReplaceAll (s old new : ByteArray) (m : Int) (w : World) (hs : s.size < 4294967281) (hm : w.cell? ⟨2, 0, none⟩ = some (.int .i64 m)) (h1 : 1 ≤ old.size) (hlen : s.size + Lib.countB s old * new.size ≤ 140737488355328) :
    Calls Tryz.prog 228 #[.string s, .string old, .string new] w fun e w' =>
      e = .returned (.string ⟨(Lib.replaceAll s.data.toList old.data.toList new.data.toList).toArray⟩) ∧ Below w.heap.size w w' := Any.strings_ReplaceAll Tryz.lays155 Tryz.Builder_Extra_155 s old new m w hs hm h1 hlen
def Tryz.lays171_ren : Go.Shelf.Ren := ⟨fun | 171 => 148 | 243 => 230 | 246 => 263 | 283 => 283 | 284 => 284 | 285 => 285 | 286 => 286 | 129 => 299 | 317 => 298 | 318 => 300 | 319 => 301 | 320 => 302 | 337 => 309 | 338 => 310 | n => n, fun | 3 => 3 | 9 => 9 | 2 => 2 | 4 => 4 | 171 => 244 | 0 => 0 | 53 => 131 | 37 => 139 | 5 => 5 | 173 => 247 | 212 => 258 | 51 => 153 | 20 => 20 | 213 => 259 | 46 => 154 | 232 => 279 | 233 => 280 | n => n, fun | 17 => 3 | 18 => 8 | 19 => 9 | n => n⟩
theorem Tryz.lays171 : Go.Proofs.Lays.n171 Tryz.prog Tryz.lays171_ren := {
  mixed := by kernel_rfl
  f129 := Tryz.func299.trans (congrArg some (by kernel_rfl))
  f171 := Tryz.func148.trans (congrArg some (by kernel_rfl))
  f243 := Tryz.func230.trans (congrArg some (by kernel_rfl))
  f246 := Tryz.func263.trans (congrArg some (by kernel_rfl))
  f283 := Tryz.func283.trans (congrArg some (by kernel_rfl))
  f284 := Tryz.func284.trans (congrArg some (by kernel_rfl))
  f285 := Tryz.func285.trans (congrArg some (by kernel_rfl))
  f286 := Tryz.func286.trans (congrArg some (by kernel_rfl))
  f317 := Tryz.func298.trans (congrArg some (by kernel_rfl))
  f318 := Tryz.func300.trans (congrArg some (by kernel_rfl))
  f319 := Tryz.func301.trans (congrArg some (by kernel_rfl))
  f320 := Tryz.func302.trans (congrArg some (by kernel_rfl))
  f337 := Tryz.func309.trans (congrArg some (by kernel_rfl))
  f338 := Tryz.func310.trans (congrArg some (by kernel_rfl))
  t0 := Tryz.underlying0
  a0 := Tryz.isAgg0
  z0 := Tryz.sizeOf0
  v0 := Tryz.zeroValue0
  t2 := Tryz.underlying2
  a2 := Tryz.isAgg2
  z2 := Tryz.sizeOf2
  v2 := Tryz.zeroValue2
  t3 := Tryz.underlying3
  a3 := Tryz.isAgg3
  z3 := Tryz.sizeOf3
  v3 := Tryz.zeroValue3
  t4 := Tryz.underlying4
  a4 := Tryz.isAgg4
  z4 := Tryz.sizeOf4
  v4 := Tryz.zeroValue4
  t5 := Tryz.underlying5
  a5 := Tryz.isAgg5
  z5 := Tryz.sizeOf5
  v5 := Tryz.zeroValue5
  t9 := Tryz.underlying9
  a9 := Tryz.isAgg9
  z9 := Tryz.sizeOf9
  v9 := Tryz.zeroValue9
  t20 := Tryz.underlying20
  a20 := Tryz.isAgg20
  z20 := Tryz.sizeOf20
  v20 := Tryz.zeroValue20
  t37 := Tryz.underlying139
  a37 := Tryz.isAgg139
  z37 := Tryz.sizeOf139
  v37 := Tryz.zeroValue139
  t46 := Tryz.underlying154
  a46 := Tryz.isAgg154
  z46 := Tryz.sizeOf154
  v46 := Tryz.zeroValue154
  t51 := Tryz.underlying153
  a51 := Tryz.isAgg153
  z51 := Tryz.sizeOf153
  v51 := Tryz.zeroValue153
  t53 := Tryz.underlying131
  a53 := Tryz.isAgg131
  z53 := Tryz.sizeOf131
  v53 := Tryz.zeroValue131
  t171 := Tryz.underlying244
  a171 := Tryz.isAgg244
  z171 := Tryz.sizeOf244
  v171 := Tryz.zeroValue244
  t173 := Tryz.underlying247
  a173 := Tryz.isAgg247
  z173 := Tryz.sizeOf247
  v173 := Tryz.zeroValue247
  t212 := Tryz.underlying258
  a212 := Tryz.isAgg258
  z212 := Tryz.sizeOf258
  v212 := Tryz.zeroValue258
  t213 := Tryz.underlying259
  a213 := Tryz.isAgg259
  z213 := Tryz.sizeOf259
  t232 := Tryz.underlying279
  a232 := Tryz.isAgg279
  z232 := Tryz.sizeOf279
  v232 := Tryz.zeroValue279
  t233 := Tryz.underlying280
  a233 := Tryz.isAgg280
  z233 := Tryz.sizeOf280
  v233 := Tryz.zeroValue280
  g17 := by kernel_rfl
  g18 := by kernel_rfl
  g19 := by kernel_rfl }
open Go.RowKit Go.Sort Go.Lib in
/-- THE ROAD WITHOUT THE TABLE: 0 <= i < 100: NO PREMISE ON THE WORLD, AND THE WORLD IS AS IT WAS: a row that keeps its argument in that range need list no table ('laid = []'). (LAID: no walk: one application.) -/
theorem Tryz.strconv_Itoa_small (i : Nat) (hi : i < 100) (w : World) :
    Calls Tryz.prog 148 #[.int .i64 i] w fun e w' => e = .returned (.string ⟨(Lib.decDigits i).toArray⟩) ∧ w' = w := Any.strconv_Itoa_small Tryz.lays171 i hi w
end Go.Proofs
/- The text of a ref that is one. Conditions: none. -/
namespace Go.Proofs.YtoaejcppfmjhdaaGreatDoor.adr
open Go.RowKit
theorem enc_letter {c : Int} (h1 : 1 ≤ c) (h2 : c ≤ 26) : Utf8.encode (65 + c - 1) = ⟨#[UInt8.ofNat (64 + c.toNat)]⟩ := by
  have hv : Utf8.valid (65 + c - 1) = true := by unfold Utf8.valid; simp; omega
  unfold Utf8.encode
  simp only [hv, if_true]
  rw [if_pos (by omega), show (65 + c - 1).toNat = 64 + c.toNat from by omega]
def itB (r : Int) : ByteArray := ⟨(Lib.decDigits r.toNat).toArray⟩
/-- The text of a ref. -/
def nm (c r : Int) (fc fr : Bool) : ByteArray := if isC c r = true then sg fc ++ Utf8.encode (65 + c - 1) ++ sg fr ++ itB r else nul
theorem below_drewN {B : Nat} {a w : World} (h : Below B a w) (n : Nat) : Below B a (w.drewN n) := ⟨h.os, h.tape, h.output, h.size, h.block⟩
theorem sg_size (t : Bool) : (sg t).size ≤ 1 := by cases t <;> decide
theorem enc_size {c : Int} (h1 : 1 ≤ c) (h2 : c ≤ 26) : (Utf8.encode (65 + c - 1)).size = 1 := by rw [enc_letter h1 h2]; rfl
theorem it_len {r : Nat} (h : r < 100) : (Lib.decDigits r).length ≤ 2 := by
  rw [Lib.decDigits]
  split
  · simp
  · rw [Lib.decDigits, dif_pos (by omega)]
    simp
theorem it_size {r : Int} (h1 : 1 ≤ r) (h2 : r ≤ 99) : (itB r).size ≤ 2 := by
  have := it_len (r := r.toNat) (by omega)
  unfold itB
  simpa [ByteArray.size] using this
theorem itoa_at (r : Int) (h1 : 1 ≤ r) (h2 : r ≤ 99) (w : World) :
    Calls Tryz.prog 148 #[.int .i64 r] w fun e w' => e = .returned (.string (itB r)) ∧ w' = w := by
  have := Tryz.strconv_Itoa_small r.toNat (by omega) w
  rw [show ((r.toNat : Nat) : Int) = r from by omega] at this
  exact this
set_option maxRecDepth 100000 in
set_option maxHeartbeats 4000000 in
theorem refName_yes (c r : Int) (fc fr : Bool) (h : isC c r = true) (w : World) :
    Calls Tryz.prog 262 #[R c r fc fr] w fun e w' => e = .returned (.tuple #[.string (nm c r fc fr), .nilIface]) ∧ Below w.heap.size w w' := by
  have HN : Hid (nm c r fc fr = sg fc ++ Utf8.encode (65 + c - 1) ++ sg fr ++ itB r) := by unfold Hid nm; rw [if_pos h]
  obtain ⟨⟨h1, h2⟩, h3, h4⟩ := isC_iff.1 h
  have HC : Hid (isC c r = true) := h
  have q1 : ¬ 9223372036854775807 < (sg fc).size + (Utf8.encode (65 + c - 1)).size := by
    have := sg_size fc; have := enc_size h1 h2; omega
  have q2 : ¬ 9223372036854775807 < (sg fc).size + (Utf8.encode (65 + c - 1)).size + (sg fr).size := by
    have := sg_size fc; have := enc_size h1 h2; have := sg_size fr; omega
  have q3 : ¬ 9223372036854775807 < (sg fc).size + (Utf8.encode (65 + c - 1)).size + (sg fr).size + (itB r).size := by
    have := sg_size fc; have := enc_size h1 h2; have := sg_size fr; have := it_size h3 h4; omega
  clear h
  go_enter Tryz.func262, Tryz.ntmps262
  go_wp2_with fail
  refine (check_any _ _ _).mono ?_
  rintro e w1 ⟨rfl, b1⟩
  rw [HC.out, show ckc true = .nilIface from rfl]
  have hx : (w1.cell? ⟨w.heap.size, 0, none⟩ = some (.int .i64 c) ∧ w1.cell? ⟨w.heap.size, 1, none⟩ = some (.int .i64 r)) ∧ w1.cell? ⟨w.heap.size, 2, none⟩ = some (.bool fc) ∧ w1.cell? ⟨w.heap.size, 3, none⟩ = some (.bool fr) := by
    refine ⟨⟨?_, ?_⟩, ?_, ?_⟩ <;> (rw [b1.cell (by simp)]; simp)
  obtain ⟨⟨c0, c1⟩, c2, c3⟩ := hx
  have hB := bnext ((Below.refl w.heap.size w).alloc (Nat.le_refl _) _) b1 (by simp)
  clear b1
  go_wp2_with fail
  go_quiet ((first | (go_at_call 282; exact Calls.quiet_of_same (sign_any _ _)) | (go_at_call 148; exact Calls.quiet_of_same (itoa_at _ h3 h4 _))))
  go_wp2_with fail
  go_ret2
  exact ⟨by rw [HN.out]; rfl, below_drewN hB nq⟩
def sgL (t : Bool) : List UInt8 := if t = true then [36] else []
theorem sg_list (t : Bool) : (sg t).data.toList = sgL t := by cases t <;> rfl
/-- The bytes of a ref's text. -/
theorem nm_list {c r : Int} (fc fr : Bool) (h : isC c r = true) : (nm c r fc fr).data.toList = sgL fc ++ UInt8.ofNat (64 + c.toNat) :: (sgL fr ++ Lib.decDigits r.toNat) := by
  obtain ⟨⟨h1, h2⟩, h3, h4⟩ := isC_iff.1 h
  unfold nm itB
  rw [if_pos h, enc_letter h1 h2]
  simp only [ByteArray.data_append, Array.toList_append, sg_list]
  simp
end Go.Proofs.YtoaejcppfmjhdaaGreatDoor.adr

import Derived.Test.YtgifkepklnhddaaGreatDoorQ7Pa
import Derived.Test.YtgifkepklnhddaaGreatDoorQ7Fe4
import Derived.Test.YtgifkepklnhddaaGreatDoorQ7Arow
namespace Go.Proofs.YtgifkepklnhddaaGreatDoor.fm
open Go.RowKit
theorem isName_all (s:ByteArray) (w:World) :
  Calls Tryz.prog 204 #[.string s] w fun e w'=>e=.returned (.bool (isNm s))∧Below w.heap.size w w':=by
 by_cases hs:s.size≤200
 ·exact isName_any s w hs
 have h2:¬ (s.size:Int)<2:=by omega
 have h10:(10:Int)<(s.size:Int):=by omega
 have hf:isNm s=false:=by unfold isNm;rw [decide_eq_false (by omega:¬ s.size≤10)];simp
 rw [hf]
 clear hf
 go_enter Tryz.func204,Tryz.ntmps204
 go_wp2_with fail
 go_ret
 exact⟨rfl,Below.refl _ _⟩
theorem isRef_any (r:Rf) (w:World) :
  Calls Tryz.prog 203 #[RV r] w fun e w'=>e=.returned (.bool (adr.isC r.c r.r))∧Below w.heap.size w w':=by
 have hb0:Below w.heap.size w (w.alloc (.cells #[.int .i64 r.c,.int .i64 r.r,.bool r.fc,.bool r.fr] 54)):=(Below.refl _ _).alloc (Nat.le_refl _) _
 obtain⟨a0,a1,a2,a3⟩:=cells4 (blk_new w (.cells #[.int .i64 r.c,.int .i64 r.r,.bool r.fc,.bool r.fr] 54))
 have HC:=adr.check_any r.c r.r
 go_enter Tryz.func203,Tryz.ntmps203
 go_wp2_with fail
 refine (HC _).mono ?_
 rintro e w1 ⟨rfl,hb1⟩
 cases h:adr.isC r.c r.r
 ·unfold adr.ckc
  rw [if_neg (by decide)]
  go_wp2_with fail
  go_ret
  exact⟨by rw [h];rfl,bnext hb0 hb1 hb0.size⟩
 ·unfold adr.ckc
  rw [if_pos rfl]
  go_wp2_with fail
  go_ret
  exact⟨by rw [h];rfl,bnext hb0 hb1 hb0.size⟩
def ftB (k n:Int) (s:ByteArray) (r t:Rf) (m:Nat):Bool :=
 if k=1 then decide (0≤n)
 else if k=2 then decide (s.size≤200)
 else if k=3 then decide (n=0∨n=1)
 else if k=4 then decide (1≤n∧n≤6)
 else if k=5 then adr.isC r.c r.r
 else if k=6 then adr.isC r.c r.r && adr.isC t.c t.r
 else if k=7 then decide (m=1)
 else if k=8 then decide ((1≤n∧n≤11)∧m=2)
 else if k=9 then isNm s
 else false
theorem fits1 (n:Int) (s:ByteArray) (r t:Rf) (p:Option Addr) (m c:Nat) (w:World) :
  Calls Tryz.prog 178 #[NV 1 n s r t (.slice p m c)] w fun e w'=>e=.returned (.bool (decide (0≤n)))∧Below w.heap.size w w':=by
 have hb0:Below w.heap.size w (w.alloc (.cells (N12 1 n s r t (.slice p m c)) 57)):=(Below.refl _ _).alloc (Nat.le_refl _) _
 obtain⟨⟨a0,a1,a2,a3,a4,a5,a6,a7,a8,a9,a10,a11⟩,af⟩:=cells12 (blk_new w (.cells (N12 1 n s r t (.slice p m c)) 57))
 go_enter Tryz.func178,Tryz.ntmps178
 go_wp2_with fail
 all_goals (go_ret;refine⟨congrArg Ending.returned (congrArg Value.bool ?_),(Below.refl _ _).alloc (Nat.le_refl _) _⟩;clear a0 a1 a2 a3 a4 a5 a6 a7 a8 a9 a10 a11 af;first | rfl | (simp;done) | (simp_all;done) | (rw [decide_eq_decide];omega) | (simp;omega) | (simp_all;omega) | (rw [Bool.eq_iff_iff];simp;done) | (rw [Bool.eq_iff_iff];simp;omega))
theorem fits2 (n:Int) (s:ByteArray) (r t:Rf) (p:Option Addr) (m c:Nat) (w:World) :
  Calls Tryz.prog 178 #[NV 2 n s r t (.slice p m c)] w fun e w'=>e=.returned (.bool (decide (s.size≤200)))∧Below w.heap.size w w':=by
 have hb0:Below w.heap.size w (w.alloc (.cells (N12 2 n s r t (.slice p m c)) 57)):=(Below.refl _ _).alloc (Nat.le_refl _) _
 obtain⟨⟨a0,a1,a2,a3,a4,a5,a6,a7,a8,a9,a10,a11⟩,af⟩:=cells12 (blk_new w (.cells (N12 2 n s r t (.slice p m c)) 57))
 go_enter Tryz.func178,Tryz.ntmps178
 go_wp2_with fail
 all_goals (go_ret;refine⟨congrArg Ending.returned (congrArg Value.bool ?_),(Below.refl _ _).alloc (Nat.le_refl _) _⟩;clear a0 a1 a2 a3 a4 a5 a6 a7 a8 a9 a10 a11 af;first | rfl | (simp;done) | (simp_all;done) | (rw [decide_eq_decide];omega) | (simp;omega) | (simp_all;omega) | (rw [Bool.eq_iff_iff];simp;done) | (rw [Bool.eq_iff_iff];simp;omega))
theorem fits3 (n:Int) (s:ByteArray) (r t:Rf) (p:Option Addr) (m c:Nat) (w:World) :
  Calls Tryz.prog 178 #[NV 3 n s r t (.slice p m c)] w fun e w'=>e=.returned (.bool (decide (n=0∨n=1)))∧Below w.heap.size w w':=by
 have hb0:Below w.heap.size w (w.alloc (.cells (N12 3 n s r t (.slice p m c)) 57)):=(Below.refl _ _).alloc (Nat.le_refl _) _
 obtain⟨⟨a0,a1,a2,a3,a4,a5,a6,a7,a8,a9,a10,a11⟩,af⟩:=cells12 (blk_new w (.cells (N12 3 n s r t (.slice p m c)) 57))
 go_enter Tryz.func178,Tryz.ntmps178
 go_wp2_with fail
 all_goals (go_ret;refine⟨congrArg Ending.returned (congrArg Value.bool ?_),(Below.refl _ _).alloc (Nat.le_refl _) _⟩;clear a0 a1 a2 a3 a4 a5 a6 a7 a8 a9 a10 a11 af;first | rfl | (simp;done) | (simp_all;done) | (rw [decide_eq_decide];omega) | (simp;omega) | (simp_all;omega) | (rw [Bool.eq_iff_iff];simp;done) | (rw [Bool.eq_iff_iff];simp;omega))
theorem fits4 (n:Int) (s:ByteArray) (r t:Rf) (p:Option Addr) (m c:Nat) (w:World) :
  Calls Tryz.prog 178 #[NV 4 n s r t (.slice p m c)] w fun e w'=>e=.returned (.bool (decide (1≤n∧n≤6)))∧Below w.heap.size w w':=by
 have hb0:Below w.heap.size w (w.alloc (.cells (N12 4 n s r t (.slice p m c)) 57)):=(Below.refl _ _).alloc (Nat.le_refl _) _
 obtain⟨⟨a0,a1,a2,a3,a4,a5,a6,a7,a8,a9,a10,a11⟩,af⟩:=cells12 (blk_new w (.cells (N12 4 n s r t (.slice p m c)) 57))
 go_enter Tryz.func178,Tryz.ntmps178
 go_wp2_with fail
 all_goals (go_ret;refine⟨congrArg Ending.returned (congrArg Value.bool ?_),(Below.refl _ _).alloc (Nat.le_refl _) _⟩;clear a0 a1 a2 a3 a4 a5 a6 a7 a8 a9 a10 a11 af;first | rfl | (simp;done) | (simp_all;done) | (rw [decide_eq_decide];omega) | (simp;omega) | (simp_all;omega) | (rw [Bool.eq_iff_iff];simp;done) | (rw [Bool.eq_iff_iff];simp;omega))
theorem fits5 (n:Int) (s:ByteArray) (r t:Rf) (p:Option Addr) (m c:Nat) (w:World) :
  Calls Tryz.prog 178 #[NV 5 n s r t (.slice p m c)] w fun e w'=>e=.returned (.bool (adr.isC r.c r.r))∧Below w.heap.size w w':=by
 have hb0:Below w.heap.size w (w.alloc (.cells (N12 5 n s r t (.slice p m c)) 57)):=(Below.refl _ _).alloc (Nat.le_refl _) _
 obtain⟨⟨a0,a1,a2,a3,a4,a5,a6,a7,a8,a9,a10,a11⟩,af⟩:=cells12 (blk_new w (.cells (N12 5 n s r t (.slice p m c)) 57))
 go_enter Tryz.func178,Tryz.ntmps178
 go_wp2_with fail
 refine (isRef_any r _).mono ?_
 rintro e w1 ⟨rfl,hb1⟩
 go_wp2_with fail
 go_ret
 exact⟨rfl,bnext hb0 hb1 hb0.size⟩
theorem fits6 (n:Int) (s:ByteArray) (r t:Rf) (p:Option Addr) (m c:Nat) (w:World) :
  Calls Tryz.prog 178 #[NV 6 n s r t (.slice p m c)] w fun e w'=>e=.returned (.bool (adr.isC r.c r.r && adr.isC t.c t.r))∧Below w.heap.size w w':=by
 have hb0:Below w.heap.size w (w.alloc (.cells (N12 6 n s r t (.slice p m c)) 57)):=(Below.refl _ _).alloc (Nat.le_refl _) _
 obtain⟨⟨a0,a1,a2,a3,a4,a5,a6,a7,a8,a9,a10,a11⟩,af⟩:=cells12 (blk_new w (.cells (N12 6 n s r t (.slice p m c)) 57))
 go_enter Tryz.func178,Tryz.ntmps178
 go_wp2_with fail
 refine (isRef_any r _).mono ?_
 rintro e w1 ⟨rfl,hb1⟩
 have hB1:=bnext hb0 hb1 hb0.size
 have q:=hb1.block w.heap.size (by simp)
 rw [blk_new] at q
 obtain⟨⟨a0,a1,a2,a3,a4,a5,a6,a7,a8,a9,a10,a11⟩,af⟩:=cells12 q
 cases h:adr.isC r.c r.r
 ·go_wp2_with fail
  go_ret
  exact⟨by rw [h];rfl,hB1⟩
 ·go_wp2_with fail
  refine (isRef_any t _).mono ?_
  rintro e w2 ⟨rfl,hb2⟩
  go_wp2_with fail
  go_ret
  exact⟨by rw [h];rfl,bnext hB1 hb2 hB1.size⟩
theorem fits7 (n:Int) (s:ByteArray) (r t:Rf) (p:Option Addr) (m c:Nat) (w:World) :
  Calls Tryz.prog 178 #[NV 7 n s r t (.slice p m c)] w fun e w'=>e=.returned (.bool (decide (m=1)))∧Below w.heap.size w w':=by
 have hb0:Below w.heap.size w (w.alloc (.cells (N12 7 n s r t (.slice p m c)) 57)):=(Below.refl _ _).alloc (Nat.le_refl _) _
 obtain⟨⟨a0,a1,a2,a3,a4,a5,a6,a7,a8,a9,a10,a11⟩,af⟩:=cells12 (blk_new w (.cells (N12 7 n s r t (.slice p m c)) 57))
 go_enter Tryz.func178,Tryz.ntmps178
 go_wp2_with fail
 all_goals (go_ret;refine⟨congrArg Ending.returned (congrArg Value.bool ?_),(Below.refl _ _).alloc (Nat.le_refl _) _⟩;clear a0 a1 a2 a3 a4 a5 a6 a7 a8 a9 a10 a11 af;first | rfl | (simp;done) | (simp_all;done) | (rw [decide_eq_decide];omega) | (simp;omega) | (simp_all;omega) | (rw [Bool.eq_iff_iff];simp;done) | (rw [Bool.eq_iff_iff];simp;omega))
theorem fits8 (n:Int) (s:ByteArray) (r t:Rf) (p:Option Addr) (m c:Nat) (w:World) :
  Calls Tryz.prog 178 #[NV 8 n s r t (.slice p m c)] w fun e w'=>e=.returned (.bool (decide ((1≤n∧n≤11)∧m=2)))∧Below w.heap.size w w':=by
 have hb0:Below w.heap.size w (w.alloc (.cells (N12 8 n s r t (.slice p m c)) 57)):=(Below.refl _ _).alloc (Nat.le_refl _) _
 obtain⟨⟨a0,a1,a2,a3,a4,a5,a6,a7,a8,a9,a10,a11⟩,af⟩:=cells12 (blk_new w (.cells (N12 8 n s r t (.slice p m c)) 57))
 go_enter Tryz.func178,Tryz.ntmps178
 go_wp2_with fail
 all_goals (go_ret;refine⟨congrArg Ending.returned (congrArg Value.bool ?_),(Below.refl _ _).alloc (Nat.le_refl _) _⟩;clear a0 a1 a2 a3 a4 a5 a6 a7 a8 a9 a10 a11 af;first | rfl | (simp;done) | (simp_all;done) | (rw [decide_eq_decide];omega) | (simp;omega) | (simp_all;omega) | (rw [Bool.eq_iff_iff];simp;done) | (rw [Bool.eq_iff_iff];simp;omega))
theorem fits9 (n:Int) (s:ByteArray) (r t:Rf) (p:Option Addr) (m c:Nat) (w:World) :
  Calls Tryz.prog 178 #[NV 9 n s r t (.slice p m c)] w fun e w'=>e=.returned (.bool (isNm s))∧Below w.heap.size w w':=by
 have hb0:Below w.heap.size w (w.alloc (.cells (N12 9 n s r t (.slice p m c)) 57)):=(Below.refl _ _).alloc (Nat.le_refl _) _
 obtain⟨⟨a0,a1,a2,a3,a4,a5,a6,a7,a8,a9,a10,a11⟩,af⟩:=cells12 (blk_new w (.cells (N12 9 n s r t (.slice p m c)) 57))
 go_enter Tryz.func178,Tryz.ntmps178
 go_wp2_with fail
 refine (isName_all s _).mono ?_
 rintro e w1 ⟨rfl,hb1⟩
 go_wp2_with fail
 go_ret
 exact⟨rfl,bnext hb0 hb1 hb0.size⟩
theorem fitsx (k n:Int) (h1:¬ k=1) (h2:¬ k=2) (h3:¬ k=3) (h4:¬ k=4) (h5:¬ k=5) (h6:¬ k=6) (h7:¬ k=7) (h8:¬ k=8) (h9:¬ k=9) (s:ByteArray) (r t:Rf) (p:Option Addr) (m c:Nat) (w:World) :
  Calls Tryz.prog 178 #[NV k n s r t (.slice p m c)] w fun e w'=>e=.returned (.bool false)∧Below w.heap.size w w':=by
 have hb0:Below w.heap.size w (w.alloc (.cells (N12 k n s r t (.slice p m c)) 57)):=(Below.refl _ _).alloc (Nat.le_refl _) _
 obtain⟨⟨a0,a1,a2,a3,a4,a5,a6,a7,a8,a9,a10,a11⟩,af⟩:=cells12 (blk_new w (.cells (N12 k n s r t (.slice p m c)) 57))
 go_enter Tryz.func178,Tryz.ntmps178
 go_wp2_with fail
 go_ret
 exact⟨rfl,hb0⟩
theorem fits_any (k n:Int) (s:ByteArray) (r t:Rf) (p:Option Addr) (m c:Nat) (w:World) :
  Calls Tryz.prog 178 #[NV k n s r t (.slice p m c)] w fun e w'=>e=.returned (.bool (ftB k n s r t m))∧Below w.heap.size w w':=by
 unfold ftB
 by_cases h1:k=1
 ·subst h1;exact fits1 n s r t p m c w
 rw [if_neg h1]
 by_cases h2:k=2
 ·subst h2;exact fits2 n s r t p m c w
 rw [if_neg h2]
 by_cases h3:k=3
 ·subst h3;exact fits3 n s r t p m c w
 rw [if_neg h3]
 by_cases h4:k=4
 ·subst h4;exact fits4 n s r t p m c w
 rw [if_neg h4]
 by_cases h5:k=5
 ·subst h5;exact fits5 n s r t p m c w
 rw [if_neg h5]
 by_cases h6:k=6
 ·subst h6;exact fits6 n s r t p m c w
 rw [if_neg h6]
 by_cases h7:k=7
 ·subst h7;exact fits7 n s r t p m c w
 rw [if_neg h7]
 by_cases h8:k=8
 ·subst h8;exact fits8 n s r t p m c w
 rw [if_neg h8]
 by_cases h9:k=9
 ·subst h9;exact fits9 n s r t p m c w
 rw [if_neg h9]
 exact fitsx k n h1 h2 h3 h4 h5 h6 h7 h8 h9 s r t p m c w
def lfB (n:Int) (s:ByteArray) (r t:Rf) (m:Nat):Bool :=
 (n != 0) || !s.toList.isEmpty || !((r.c == 0) && (r.r == 0) && !r.fc && !r.fr) || !((t.c == 0) && (t.r == 0) && !t.fc && !t.fr) || decide ((0:Int)<(m:Int))
def hmB (k n:Int) (s:ByteArray) (r t:Rf) (m:Nat):Bool :=
 if k=1 then lfB 0 s r t m
 else if k=2 then lfB n nul r t m
 else if k=3 then lfB 0 s r t m
 else if k=4 then lfB 0 s r t m
 else if k=5 then lfB n s .z t m
 else if k=6 then lfB n s .z .z m
 else if k=7 then lfB n s r t 0
 else if k=8 then lfB 0 s r t 0
 else if k=9 then lfB n nul r t 0
 else lfB n s r t m
set_option maxHeartbeats 2000000 in
theorem more1 (n:Int) (s:ByteArray) (r t:Rf) (p:Option Addr) (m c:Nat) (w:World) :
  Calls Tryz.prog 179 #[NV 1 n s r t (.slice p m c)] w fun e w'=>e=.returned (.bool (lfB 0 s r t m))∧Below w.heap.size w w':=by
 obtain⟨⟨a0,a1,a2,a3,a4,a5,a6,a7,a8,a9,a10,a11⟩,af⟩:=cells12 (blk_new w (.cells (N12 1 n s r t (.slice p m c)) 57))
 go_enter Tryz.func179,Tryz.ntmps179
 go_wp2_with fail
 all_goals (go_ret;refine⟨congrArg Ending.returned (congrArg Value.bool ?_),(Below.refl _ _).alloc (Nat.le_refl _) _⟩;clear a0 a1 a2 a3 a4 a5 a6 a7 a8 a9 a10 a11 af;simp_all [lfB])
set_option maxHeartbeats 2000000 in
theorem more2 (n:Int) (s:ByteArray) (r t:Rf) (p:Option Addr) (m c:Nat) (w:World) :
  Calls Tryz.prog 179 #[NV 2 n s r t (.slice p m c)] w fun e w'=>e=.returned (.bool (lfB n nul r t m))∧Below w.heap.size w w':=by
 obtain⟨⟨a0,a1,a2,a3,a4,a5,a6,a7,a8,a9,a10,a11⟩,af⟩:=cells12 (blk_new w (.cells (N12 2 n s r t (.slice p m c)) 57))
 go_enter Tryz.func179,Tryz.ntmps179
 go_wp2_with fail
 all_goals (go_ret;refine⟨congrArg Ending.returned (congrArg Value.bool ?_),(Below.refl _ _).alloc (Nat.le_refl _) _⟩;clear a0 a1 a2 a3 a4 a5 a6 a7 a8 a9 a10 a11 af;simp_all [lfB])
set_option maxHeartbeats 2000000 in
theorem more3 (n:Int) (s:ByteArray) (r t:Rf) (p:Option Addr) (m c:Nat) (w:World) :
  Calls Tryz.prog 179 #[NV 3 n s r t (.slice p m c)] w fun e w'=>e=.returned (.bool (lfB 0 s r t m))∧Below w.heap.size w w':=by
 obtain⟨⟨a0,a1,a2,a3,a4,a5,a6,a7,a8,a9,a10,a11⟩,af⟩:=cells12 (blk_new w (.cells (N12 3 n s r t (.slice p m c)) 57))
 go_enter Tryz.func179,Tryz.ntmps179
 go_wp2_with fail
 all_goals (go_ret;refine⟨congrArg Ending.returned (congrArg Value.bool ?_),(Below.refl _ _).alloc (Nat.le_refl _) _⟩;clear a0 a1 a2 a3 a4 a5 a6 a7 a8 a9 a10 a11 af;simp_all [lfB])
set_option maxHeartbeats 2000000 in
theorem more4 (n:Int) (s:ByteArray) (r t:Rf) (p:Option Addr) (m c:Nat) (w:World) :
  Calls Tryz.prog 179 #[NV 4 n s r t (.slice p m c)] w fun e w'=>e=.returned (.bool (lfB 0 s r t m))∧Below w.heap.size w w':=by
 obtain⟨⟨a0,a1,a2,a3,a4,a5,a6,a7,a8,a9,a10,a11⟩,af⟩:=cells12 (blk_new w (.cells (N12 4 n s r t (.slice p m c)) 57))
 go_enter Tryz.func179,Tryz.ntmps179
 go_wp2_with fail
 all_goals (go_ret;refine⟨congrArg Ending.returned (congrArg Value.bool ?_),(Below.refl _ _).alloc (Nat.le_refl _) _⟩;clear a0 a1 a2 a3 a4 a5 a6 a7 a8 a9 a10 a11 af;simp_all [lfB])
set_option maxHeartbeats 2000000 in
theorem more5 (n:Int) (s:ByteArray) (r t:Rf) (p:Option Addr) (m c:Nat) (w:World) :
  Calls Tryz.prog 179 #[NV 5 n s r t (.slice p m c)] w fun e w'=>e=.returned (.bool (lfB n s .z t m))∧Below w.heap.size w w':=by
 obtain⟨⟨a0,a1,a2,a3,a4,a5,a6,a7,a8,a9,a10,a11⟩,af⟩:=cells12 (blk_new w (.cells (N12 5 n s r t (.slice p m c)) 57))
 go_enter Tryz.func179,Tryz.ntmps179
 go_wp2_with fail
 all_goals (go_ret;refine⟨congrArg Ending.returned (congrArg Value.bool ?_),(Below.refl _ _).alloc (Nat.le_refl _) _⟩;clear a0 a1 a2 a3 a4 a5 a6 a7 a8 a9 a10 a11 af;simp_all [lfB])
set_option maxHeartbeats 2000000 in
theorem more6 (n:Int) (s:ByteArray) (r t:Rf) (p:Option Addr) (m c:Nat) (w:World) :
  Calls Tryz.prog 179 #[NV 6 n s r t (.slice p m c)] w fun e w'=>e=.returned (.bool (lfB n s .z .z m))∧Below w.heap.size w w':=by
 obtain⟨⟨a0,a1,a2,a3,a4,a5,a6,a7,a8,a9,a10,a11⟩,af⟩:=cells12 (blk_new w (.cells (N12 6 n s r t (.slice p m c)) 57))
 go_enter Tryz.func179,Tryz.ntmps179
 go_wp2_with fail
 all_goals (go_ret;refine⟨congrArg Ending.returned (congrArg Value.bool ?_),(Below.refl _ _).alloc (Nat.le_refl _) _⟩;clear a0 a1 a2 a3 a4 a5 a6 a7 a8 a9 a10 a11 af;simp_all [lfB])
set_option maxHeartbeats 2000000 in
theorem more7 (n:Int) (s:ByteArray) (r t:Rf) (p:Option Addr) (m c:Nat) (w:World) :
  Calls Tryz.prog 179 #[NV 7 n s r t (.slice p m c)] w fun e w'=>e=.returned (.bool (lfB n s r t 0))∧Below w.heap.size w w':=by
 obtain⟨⟨a0,a1,a2,a3,a4,a5,a6,a7,a8,a9,a10,a11⟩,af⟩:=cells12 (blk_new w (.cells (N12 7 n s r t (.slice p m c)) 57))
 go_enter Tryz.func179,Tryz.ntmps179
 go_wp2_with fail
 all_goals (go_ret;refine⟨congrArg Ending.returned (congrArg Value.bool ?_),(Below.refl _ _).alloc (Nat.le_refl _) _⟩;clear a0 a1 a2 a3 a4 a5 a6 a7 a8 a9 a10 a11 af;simp_all [lfB])
set_option maxHeartbeats 2000000 in
theorem more8 (n:Int) (s:ByteArray) (r t:Rf) (p:Option Addr) (m c:Nat) (w:World) :
  Calls Tryz.prog 179 #[NV 8 n s r t (.slice p m c)] w fun e w'=>e=.returned (.bool (lfB 0 s r t 0))∧Below w.heap.size w w':=by
 obtain⟨⟨a0,a1,a2,a3,a4,a5,a6,a7,a8,a9,a10,a11⟩,af⟩:=cells12 (blk_new w (.cells (N12 8 n s r t (.slice p m c)) 57))
 go_enter Tryz.func179,Tryz.ntmps179
 go_wp2_with fail
 all_goals (go_ret;refine⟨congrArg Ending.returned (congrArg Value.bool ?_),(Below.refl _ _).alloc (Nat.le_refl _) _⟩;clear a0 a1 a2 a3 a4 a5 a6 a7 a8 a9 a10 a11 af;simp_all [lfB])
set_option maxHeartbeats 2000000 in
theorem more9 (n:Int) (s:ByteArray) (r t:Rf) (p:Option Addr) (m c:Nat) (w:World) :
  Calls Tryz.prog 179 #[NV 9 n s r t (.slice p m c)] w fun e w'=>e=.returned (.bool (lfB n nul r t 0))∧Below w.heap.size w w':=by
 obtain⟨⟨a0,a1,a2,a3,a4,a5,a6,a7,a8,a9,a10,a11⟩,af⟩:=cells12 (blk_new w (.cells (N12 9 n s r t (.slice p m c)) 57))
 go_enter Tryz.func179,Tryz.ntmps179
 go_wp2_with fail
 all_goals (go_ret;refine⟨congrArg Ending.returned (congrArg Value.bool ?_),(Below.refl _ _).alloc (Nat.le_refl _) _⟩;clear a0 a1 a2 a3 a4 a5 a6 a7 a8 a9 a10 a11 af;simp_all [lfB])
set_option maxHeartbeats 2000000 in
theorem morex (k n:Int) (h1:¬ k=1) (h2:¬ k=2) (h3:¬ k=3) (h4:¬ k=4) (h5:¬ k=5) (h6:¬ k=6) (h7:¬ k=7) (h8:¬ k=8) (h9:¬ k=9) (s:ByteArray) (r t:Rf) (p:Option Addr) (m c:Nat) (w:World) :
  Calls Tryz.prog 179 #[NV k n s r t (.slice p m c)] w fun e w'=>e=.returned (.bool (lfB n s r t m))∧Below w.heap.size w w':=by
 obtain⟨⟨a0,a1,a2,a3,a4,a5,a6,a7,a8,a9,a10,a11⟩,af⟩:=cells12 (blk_new w (.cells (N12 k n s r t (.slice p m c)) 57))
 go_enter Tryz.func179,Tryz.ntmps179
 go_wp2_with fail
 all_goals (go_ret;refine⟨congrArg Ending.returned (congrArg Value.bool ?_),(Below.refl _ _).alloc (Nat.le_refl _) _⟩;clear a0 a1 a2 a3 a4 a5 a6 a7 a8 a9 a10 a11 af;simp_all [lfB])
theorem more_any (k n:Int) (s:ByteArray) (r t:Rf) (p:Option Addr) (m c:Nat) (w:World) :
  Calls Tryz.prog 179 #[NV k n s r t (.slice p m c)] w fun e w'=>e=.returned (.bool (hmB k n s r t m))∧Below w.heap.size w w':=by
 unfold hmB
 by_cases h1:k=1
 ·subst h1;exact more1 n s r t p m c w
 rw [if_neg h1]
 by_cases h2:k=2
 ·subst h2;exact more2 n s r t p m c w
 rw [if_neg h2]
 by_cases h3:k=3
 ·subst h3;exact more3 n s r t p m c w
 rw [if_neg h3]
 by_cases h4:k=4
 ·subst h4;exact more4 n s r t p m c w
 rw [if_neg h4]
 by_cases h5:k=5
 ·subst h5;exact more5 n s r t p m c w
 rw [if_neg h5]
 by_cases h6:k=6
 ·subst h6;exact more6 n s r t p m c w
 rw [if_neg h6]
 by_cases h7:k=7
 ·subst h7;exact more7 n s r t p m c w
 rw [if_neg h7]
 by_cases h8:k=8
 ·subst h8;exact more8 n s r t p m c w
 rw [if_neg h8]
 by_cases h9:k=9
 ·subst h9;exact more9 n s r t p m c w
 rw [if_neg h9]
 exact morex k n h1 h2 h3 h4 h5 h6 h7 h8 h9 s r t p m c w
end Go.Proofs.YtgifkepklnhddaaGreatDoor.fm

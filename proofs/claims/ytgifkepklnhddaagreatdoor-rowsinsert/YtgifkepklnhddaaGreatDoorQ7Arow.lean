import Derived.Test.YtgifkepklnhddaaGreatDoorProg
import Derived.WalkKit
import Derived.ProofKit
import Derived.WalkSpells
import Derived.WalkLawsBesides
import Derived.Below
import Derived.Lib.Walk
import Derived.Deep.DeepCutAuto
import Derived.Lib.ConvBytes
import Derived.LoopN
namespace Go.Proofs.YtgifkepklnhddaaGreatDoor.adr
open Go.RowKit
abbrev nul:ByteArray:=⟨#[]⟩
abbrev C (c r:Int):Value:=.agg #[.int .i64 c,.int .i64 r]
abbrev R (c r:Int) (fc fr:Bool):Value:=.agg #[.int .i64 c,.int .i64 r,.bool fc,.bool fr]
abbrev ptr (b:Nat):Value:=.pointer (some ⟨b,0,none⟩)
theorem bnext {B:Nat} {w x y:World} (h:Below B w x) (h2:Below x.heap.size x y) (hB:B≤x.heap.size):Below B w y:=h.trans (h2.mono hB)
def isC (c r:Int):Bool:=decide (1≤c) && decide (c≤26) && decide (1≤r) && decide (r≤99)
theorem isC_iff {c r:Int}:isC c r=true↔(1≤c∧c≤26)∧1≤r∧r≤99:=by
 unfold isC
 simp only [Bool.and_eq_true,decide_eq_true_eq]
 omega
set_option maxHeartbeats 1000000 in
theorem isCell_any (c r:Int) (w:World) :
  Calls Tryz.prog 90 #[C c r] w fun e w'=>e=.returned (.bool (isC c r))∧Below w.heap.size w w':=by
 by_cases h1:1≤c
 ·by_cases h2:c≤26
  ·by_cases h3:1≤r
   ·have e1:isC c r=decide (r≤99):=by unfold isC;simp [h1,h2,h3]
    rw [e1]
    clear e1
    go_enter Tryz.func90,Tryz.ntmps90
    go_wp2
    go_ret
    exact⟨by simp,(Below.refl _ _).alloc (Nat.le_refl _) _⟩
   ·have e1:isC c r=false:=by unfold isC;simp [h3]
    rw [e1]
    clear e1
    go_enter Tryz.func90,Tryz.ntmps90
    go_wp2
    go_ret
    exact⟨rfl,(Below.refl _ _).alloc (Nat.le_refl _) _⟩
  ·have e1:isC c r=false:=by unfold isC;simp [h2]
   rw [e1]
   clear e1
   go_enter Tryz.func90,Tryz.ntmps90
   go_wp2
   go_ret
   exact⟨rfl,(Below.refl _ _).alloc (Nat.le_refl _) _⟩
 ·have e1:isC c r=false:=by unfold isC;simp [h1]
  rw [e1]
  clear e1
  go_enter Tryz.func90,Tryz.ntmps90
  go_wp2
  go_ret
  exact⟨rfl,(Below.refl _ _).alloc (Nat.le_refl _) _⟩
def ckc (t:Bool):Value:=if t=true then .nilIface else .iface 100 (.int .i64 1)
theorem check_any (c r:Int) (w:World) :
  Calls Tryz.prog 57 #[C c r] w fun e w'=>e=.returned (ckc (isC c r))∧Below w.heap.size w w':=by
 cases h:isC c r
 ·have HH:Hid (isC c r=false):=h
  clear h
  go_enter Tryz.func57,Tryz.ntmps57
  go_wp2_with fail
  refine (isCell_any _ _ _).mono ?_
  rintro e w1 ⟨rfl,b1⟩
  rw [HH.out]
  go_wp2_with fail
  go_ret
  exact⟨rfl,bnext ((Below.refl _ _).alloc (Nat.le_refl _) _) b1 (by simp)⟩
 ·have HH:Hid (isC c r=true):=h
  clear h
  go_enter Tryz.func57,Tryz.ntmps57
  go_wp2_with fail
  refine (isCell_any _ _ _).mono ?_
  rintro e w1 ⟨rfl,b1⟩
  rw [HH.out]
  go_wp2_with fail
  go_ret
  exact⟨rfl,bnext ((Below.refl _ _).alloc (Nat.le_refl _) _) b1 (by simp)⟩
def sg (t:Bool):ByteArray:=if t=true then ⟨#[36]⟩ else nul
def isD (s:ByteArray) (k:Nat):Bool:=if h:k<s.size then s[k].toNat == 36 else false
theorem isD_no {s:ByteArray} {k:Nat} (h:¬ k<s.size):isD s k=false:=by unfold isD;rw [dif_neg h]
theorem isD_at {s:ByteArray} {k:Nat} (h:k<s.size):isD s k=(s[k].toNat == 36):=by unfold isD;rw [dif_pos h]
def b2N (t:Bool):Nat:=if t=true then 1 else 0
structure At (w:World) (ba bs:Nat) (k:Nat) (s:ByteArray):Prop where
 a:w.heap[ba]?=some (.cells #[.int .i64 k] 3 (0,0))
 t:w.heap[bs]?=some (.cells #[.string s] 9 (0,0))
set_option maxHeartbeats 1000000 in
theorem fixed_any (ba bs k:Nat) (s:ByteArray) (w:World) (hk:k≤s.size) (hs:s.size≤140737488355328) (h:At w ba bs k s) :
  Calls Tryz.prog 280 #[ptr ba,ptr bs] w fun e w'=>e=.returned (.bool (isD s k))∧At w' ba bs (k+b2N (isD s k)) s∧(∀ B,B≤ba→Below B w w')∧(isD s k=true→k<s.size)∧w'.heap.size=w.heap.size∧(∀ b,b≠ba→w'.heap[b]?=w.heap[b]?):=by
 have ca:=cell_of_one h.a
 have ct:=cell_of_one h.t
 have fa:=free_of_one h.a
 by_cases hlt:k<s.size
 ·have hq:=isD_at hlt
  cases hd:isD s k
  ·rw [hd] at hq
   have h1:(((s[k].toNat:Nat):Int) != 36)=true:=by
    have:=hq.symm
    rw [beq_eq_false_iff_ne] at this
    rw [bne_iff_ne];omega
   have h0:((k:Int) == (s.size:Int))=false:=by rw [beq_eq_false_iff_ne];omega
   have HD:Hid (isD s k=false):=hd
   clear hq hd
   go_enter Tryz.func280,Tryz.ntmps280
   go_wp2_with fail
   go_ret
   exact⟨rfl,h,fun B _=>Below.refl _ _,fun _=>hlt,rfl,fun _ _=>rfl⟩
  ·rw [hd] at hq
   have h1:(((s[k].toNat:Nat):Int) != 36)=false:=by
    have:=beq_iff_eq.1 hq.symm
    rw [bne_eq_false_iff_eq];omega
   have h0:((k:Int) == (s.size:Int))=false:=by rw [beq_eq_false_iff_ne];omega
   have hne:bs≠ba:=by
    intro q
    have hh:=h.t
    rw [q,h.a] at hh
    simp at hh
   clear hq hd
   go_enter Tryz.func280,Tryz.ntmps280
   go_wp2_with fail
   go_ret
   refine⟨rfl,⟨?_,?_⟩,fun B hB=>(Below.refl _ _).setCell hB _,fun _=>hlt,?_,fun b hb=>Below.heap_setCell _ _ _ _ hb⟩
   ·exact one_setCell h.a
   ·rw [Below.heap_setCell _ _ _ _ hne];exact h.t
   ·simp
 ·have hkn:k=s.size:=by omega
  subst hkn
  have HD:=isD_no (s:=s) hlt
  have HD':Hid (isD s s.size=false):=HD
  clear HD
  go_enter Tryz.func280,Tryz.ntmps280
  go_wp2_with fail
  go_ret
  refine⟨?_,?_,fun B _=>Below.refl _ _,fun q=>absurd q (by rw [HD'.out];simp),rfl,fun _ _=>rfl⟩
  ·rw [HD'.out];rfl
  ·rw [HD'.out];exact h
end Go.Proofs.YtgifkepklnhddaaGreatDoor.adr
namespace Go.Proofs.YtgifkepklnhddaaGreatDoor.adr
open Go.RowKit
def rowAcc:Nat→List UInt8→Nat
 | r,[]=>r
 | r,d::l=>if d.toNat<48∨57<d.toNat∨(r=0∧d.toNat=48) then 0 else if 99<r*10+(d.toNat - 48) then 0 else rowAcc (r*10+(d.toNat - 48)) l
theorem rowAcc_bad {r:Nat} {d:UInt8} {l:List UInt8} (h:d.toNat<48∨57<d.toNat∨(r=0∧d.toNat=48)):rowAcc r (d::l)=0:=by
 show (if _ then _ else _)=0
 rw [if_pos h]
theorem rowAcc_over {r:Nat} {d:UInt8} {l:List UInt8} (h:99<r*10+(d.toNat - 48)):rowAcc r (d::l)=0:=by
 show (if _ then _ else _)=0
 rw [if_pos h]
 split<;>rfl
theorem rowAcc_step {r:Nat} {d:UInt8} {l:List UInt8} (h:¬ (d.toNat<48∨57<d.toNat∨(r=0∧d.toNat=48))) (h2:¬ 99<r*10+(d.toNat - 48)):rowAcc r (d::l)=rowAcc (r*10+(d.toNat - 48)) l:=by
 show (if _ then _ else if _ then _ else _)=_
 rw [if_neg h,if_neg h2]
theorem drop_at (s:ByteArray) (k:Nat) (h:k<s.size):s.data.toList.drop k=s[k]::s.data.toList.drop (k+1):=by
 rw [List.drop_eq_getElem_cons (by simpa using h)];rfl
theorem byte_lt (c:UInt8):c.toNat<256:=UInt8.toNat_lt c
theorem bytes_at (w:World) (s:ByteArray) (j:Nat) (h:j<s.size):(Lib.bytesWorld w 5 s).cell? ⟨w.heap.size,j,none⟩=some (.int .u8 (s[j].toNat:Nat)):=by
 rw [Lib.bytesWorld_cell w 5 s j h]
 have hl:j<s.data.toList.length:=by simpa using h
 rw [List.getD_eq_getElem?_getD,List.getElem?_eq_getElem hl]
 rfl
set_option maxRecDepth 100000 in
set_option maxHeartbeats 4000000 in
theorem readRow_any (s:ByteArray) (w:World) (hs:s.size≤140737488355328) :
  Calls Tryz.prog 281 #[.string s] w fun e w'=>e=.returned (.int .i64 (rowAcc 0 s.data.toList:Nat))∧w'=Lib.bytesWorld w 5 s:=by
 have hcv:=Lib.run_convert_string_bytes (P:=Tryz.prog) w 9 155 5 s Tryz.underlying9 Tryz.underlying155 Tryz.underlying5
 have hcell:=fun j h=>bytes_at w s j h
 generalize Lib.bytesWorld w 5 s=bw at *
 generalize grownCap w s.size 0 5=cap at *
 go_enter Tryz.func281,Tryz.ntmps281
 go_wp2_with fail
 go_loopw [3,10] (fun row i wr=>∃ k r:Nat,k≤s.size∧i=.int .i64 k∧row=.int .i64 r∧r≤99∧rowAcc 0 s.data.toList=rowAcc r (s.data.toList.drop k)∧wr=bw) (fun _ i _=>s.size - (intOf i).toNat)
 case atStart=>exact⟨0,0,Nat.zero_le _,rfl,rfl,by omega,rfl,rfl⟩
 case round =>
  obtain⟨k,r,hk,rfl,rfl,hr,heq,rfl⟩:=hrel
  have HEQ:Hid (rowAcc 0 s.data.toList=rowAcc r (s.data.toList.drop k)):=heq
  clear heq
  by_cases hlt:k<s.size
  ·have HDr:Hid (s.data.toList.drop k=s[k]::s.data.toList.drop (k+1)):=drop_at s k hlt
   have hc:=hcell k hlt
   have hbl:=byte_lt s[k]
   clear hcell
   by_cases d1:s[k].toNat<48
   ·have HZ:Hid (rowAcc 0 s.data.toList=0):=by unfold Hid;rw [HEQ.out,HDr.out];exact rowAcc_bad (Or.inl d1)
    clear HEQ HDr
    have e48:((s[k].toNat:Int) == 48)=false:=by rw [beq_eq_false_iff_ne];omega
    by_cases hr0:r=0
    ·subst hr0
     go_wp2_with fail
     go_ret
     exact⟨by rw [HZ.out];rfl,rfl⟩
    ·have er:((r:Int) == 0)=false:=by rw [beq_eq_false_iff_ne];omega
     go_wp2_with fail
     go_ret
     exact⟨by rw [HZ.out];rfl,rfl⟩
   by_cases d2:57<s[k].toNat
   ·have HZ:Hid (rowAcc 0 s.data.toList=0):=by unfold Hid;rw [HEQ.out,HDr.out];exact rowAcc_bad (Or.inr (Or.inl d2))
    clear HEQ HDr
    have e48:((s[k].toNat:Int) == 48)=false:=by rw [beq_eq_false_iff_ne];omega
    by_cases hr0:r=0
    ·subst hr0
     go_wp2_with fail
     go_ret
     exact⟨by rw [HZ.out];rfl,rfl⟩
    ·have er:((r:Int) == 0)=false:=by rw [beq_eq_false_iff_ne];omega
     go_wp2_with fail
     go_ret
     exact⟨by rw [HZ.out];rfl,rfl⟩
   by_cases hr0:r=0
   ·subst hr0
    by_cases d3:s[k].toNat=48
    ·have HZ:Hid (rowAcc 0 s.data.toList=0):=by unfold Hid;rw [HEQ.out,HDr.out];exact rowAcc_bad (Or.inr (Or.inr ⟨rfl,d3⟩))
     have e48:((s[k].toNat:Int) == 48)=true:=by rw [beq_iff_eq];omega
     clear HEQ HDr d3
     go_wp2_with fail
     go_ret
     exact⟨by rw [HZ.out];rfl,rfl⟩
    ·have HZ:Hid (rowAcc 0 s.data.toList=rowAcc (0*10+(s[k].toNat - 48)) (s.data.toList.drop (k+1))):=by unfold Hid;rw [HEQ.out,HDr.out];exact rowAcc_step (by omega) (by omega)
     have e48:((s[k].toNat:Int) == 48)=false:=by rw [beq_eq_false_iff_ne];omega
     clear HEQ HDr
     go_wp2_with fail
     exact⟨⟨k+1,0*10+(s[k].toNat - 48),by omega,by go_num,by congr 1;omega,by omega,HZ.out,trivial⟩,by simp [intOf];omega⟩
   ·have er:((r:Int) == 0)=false:=by rw [beq_eq_false_iff_ne];omega
    by_cases d4:99<r*10+(s[k].toNat - 48)
    ·have HZ:Hid (rowAcc 0 s.data.toList=0):=by unfold Hid;rw [HEQ.out,HDr.out];exact rowAcc_over d4
     clear HEQ HDr
     go_wp2_with fail
     go_ret
     exact⟨by rw [HZ.out];rfl,rfl⟩
    ·have HZ:Hid (rowAcc 0 s.data.toList=rowAcc (r*10+(s[k].toNat - 48)) (s.data.toList.drop (k+1))):=by unfold Hid;rw [HEQ.out,HDr.out];exact rowAcc_step (by omega) (by omega)
     clear HEQ HDr
     go_wp2_with fail
     exact⟨⟨k+1,r*10+(s[k].toNat - 48),by omega,by go_num,by congr 1;omega,by omega,HZ.out,trivial⟩,by simp [intOf];omega⟩
  ·have hkn:k=s.size:=by omega
   subst hkn
   have HZ:Hid (rowAcc 0 s.data.toList=r):=by
    unfold Hid
    rw [HEQ.out,List.drop_eq_nil_of_le (by simp)]
    rfl
   clear HEQ
   go_wp2_with fail
   go_ret
   exact⟨by rw [HZ.out];rfl,rfl⟩
end Go.Proofs.YtgifkepklnhddaaGreatDoor.adr

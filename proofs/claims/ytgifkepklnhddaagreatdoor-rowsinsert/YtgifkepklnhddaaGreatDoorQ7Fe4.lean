import Derived.Test.YtgifkepklnhddaaGreatDoorQ7Fx
import Derived.Lib.ConvBytes
import Derived.LoopTactic
import Derived.Lib.SmallJoins
import Derived.Test.YtgifkepklnhddaaGreatDoorQ7Fk
import Derived.Test.YtgifkepklnhddaaGreatDoorQ7Conv
import Derived.Deep.MidRow
import Derived.Deep.QuietTactic
import Derived.BigQuiet
namespace Go.Proofs.YtgifkepklnhddaaGreatDoor.fm
open Go.RowKit
theorem bytes_at (w:World) (s:ByteArray) (j:Nat) (h:j<s.size):(Lib.bytesWorld w 5 s).cell? ⟨w.heap.size,j,none⟩=some (.int .u8 (s[j].toNat:Nat)):=by
 rw [Lib.bytesWorld_cell w 5 s j h]
 have hl:j<s.data.toList.length:=by simpa using h
 rw [List.getD_eq_getElem?_getD,List.getElem?_eq_getElem hl]
 rfl
def isL (c:UInt8):Bool:=decide (65≤c.toNat) && decide (c.toNat≤90)
theorem all_drop (s:ByteArray) (k:Nat) (h:k<s.size):(s.data.toList.drop k).all isL=(isL s[k] && (s.data.toList.drop (k+1)).all isL):=by
 rw [List.drop_eq_getElem_cons (by simpa using h)]
 rfl
set_option maxHeartbeats 2000000 in
theorem isName_any (s:ByteArray) (w:World) (hs:s.size≤200) :
  Calls Tryz.prog 204 #[.string s] w fun e w'=>e=.returned (.bool (isNm s))∧Below w.heap.size w w':=by
 by_cases h2:(s.size:Int)<2
 ·have hf:isNm s=false:=by unfold isNm;rw [decide_eq_false (by omega)];simp
  rw [hf]
  clear hf
  go_enter Tryz.func204,Tryz.ntmps204
  go_wp2_with fail
  go_ret
  exact⟨rfl,Below.refl _ _⟩
 by_cases h10:(10:Int)<(s.size:Int)
 ·have hf:isNm s=false:=by unfold isNm;rw [decide_eq_false (by omega:¬ s.size≤10)];simp
  rw [hf]
  clear hf
  go_enter Tryz.func204,Tryz.ntmps204
  go_wp2_with fail
  go_ret
  exact⟨rfl,Below.refl _ _⟩
 have hcv:=Lib.run_convert_string_bytes (P:=Tryz.prog) w 9 155 5 s Tryz.underlying9 Tryz.underlying155 Tryz.underlying5
 have hcell:=fun j h=>bytes_at w s j h
 have hbel:Below w.heap.size w (Lib.bytesWorld w 5 s):=Joins.below_bytesWorld _ _ _ _ (Nat.le_refl _)
 have hN:isNm s=s.data.toList.all isL:=by unfold isNm;rw [decide_eq_true (by omega),decide_eq_true (by omega)];rfl
 rw [hN]
 clear hN
 obtain⟨A,hA⟩:∃ A,s.data.toList.all isL=A:=⟨_,rfl⟩
 have HAA:Hid (s.data.toList.all isL=A):=hA
 rw [hA]
 clear hA
 generalize Lib.bytesWorld w 5 s=bw at *
 generalize grownCap w s.size 0 5=cap at *
 go_enter Tryz.func204,Tryz.ntmps204
 go_wp2_with fail
 go_loopw [16] (fun i wr=>∃ k:Nat,k≤s.size∧i=.int .i64 k∧A=(s.data.toList.drop k).all isL∧wr=bw) (fun i _=>s.size - (intOf i).toNat)
 case atStart=>exact⟨0,Nat.zero_le _,rfl,HAA.out.symm,rfl⟩
 case round =>
  obtain⟨k,hk,rfl,heq,rfl⟩:=hrel
  have HEQ:Hid (A=(s.data.toList.drop k).all isL):=heq
  clear heq hcv
  by_cases hlt:k<s.size
  ·have HD:Hid ((s.data.toList.drop k).all isL=(isL s[k] && (s.data.toList.drop (k+1)).all isL)):=all_drop s k hlt
   have hc:=hcell k hlt
   have hb:s[k].toNat<256:=UInt8.toNat_lt s[k]
   clear hcell
   by_cases d1:s[k].toNat<65
   ·have HF:Hid (A=false):=by unfold Hid;rw [HEQ.out,HD.out,show isL s[k]=false from by unfold isL;rw [decide_eq_false (by omega)];rfl];rfl
    have d1':((s[k].toNat:Nat):Int)<65:=by omega
    clear HEQ HD
    go_wp2_with fail
    go_ret
    exact⟨by rw [HF.out];rfl,hbel⟩
   by_cases d2:90<s[k].toNat
   ·have HF:Hid (A=false):=by unfold Hid;rw [HEQ.out,HD.out,show isL s[k]=false from by unfold isL;rw [decide_eq_false (by omega:¬ s[k].toNat≤90)];simp];rfl
    have d1':¬ ((s[k].toNat:Nat):Int)<65:=by omega
    have d2':(90:Int)<((s[k].toNat:Nat):Int):=by omega
    clear HEQ HD
    go_wp2_with fail
    go_ret
    exact⟨by rw [HF.out];rfl,hbel⟩
   ·have HF:Hid (A=(s.data.toList.drop (k+1)).all isL):=by unfold Hid;rw [HEQ.out,HD.out,show isL s[k]=true from by unfold isL;rw [decide_eq_true (by omega),decide_eq_true (by omega)];rfl];rfl
    have d1':¬ ((s[k].toNat:Nat):Int)<65:=by omega
    have d2':¬ (90:Int)<((s[k].toNat:Nat):Int):=by omega
    clear HEQ HD
    go_wp2_with fail
    exact⟨⟨k+1,by omega,rfl,HF.out,by trivial⟩,by simp [intOf];omega⟩
  ·have hl0:s.data.toList.drop k=[]:=List.drop_eq_nil_of_le (by simp;omega)
   have HF:Hid (A=true):=by unfold Hid;rw [HEQ.out,hl0];rfl
   clear HEQ hcell hl0
   go_wp2_with fail
   go_ret
   exact⟨by rw [HF.out];rfl,hbel⟩
end Go.Proofs.YtgifkepklnhddaaGreatDoor.fm
namespace Go.Proofs.YtgifkepklnhddaaGreatDoor.fm
open Go.RowKit
def opTxt:Nat→ByteArray
 | 0=>⟨#[]⟩
 | 1=>⟨#[61]⟩
 | 2=>⟨#[60,62]⟩
 | 3=>⟨#[60]⟩
 | 4=>⟨#[60,61]⟩
 | 5=>⟨#[62]⟩
 | 6=>⟨#[62,61]⟩
 | 7=>⟨#[38]⟩
 | 8=>⟨#[43]⟩
 | 9=>⟨#[45]⟩
 | 10=>⟨#[42]⟩
 | 11=>⟨#[47]⟩
 | _=>nul
def opLv:Nat→Nat
 | 0=>0
 | 1=>1
 | 2=>1
 | 3=>1
 | 4=>1
 | 5=>1
 | 6=>1
 | 7=>2
 | 8=>3
 | 9=>3
 | 10=>4
 | 11=>4
 | _=>0
def opTab:Array Value:=#[.string ⟨#[]⟩,.int .i64 0,.string ⟨#[61]⟩,.int .i64 1,.string ⟨#[60,62]⟩,.int .i64 1,.string ⟨#[60]⟩,.int .i64 1,.string ⟨#[60,61]⟩,.int .i64 1,.string ⟨#[62]⟩,.int .i64 1,.string ⟨#[62,61]⟩,.int .i64 1,.string ⟨#[38]⟩,.int .i64 2,.string ⟨#[43]⟩,.int .i64 3,.string ⟨#[45]⟩,.int .i64 3,.string ⟨#[42]⟩,.int .i64 4,.string ⟨#[47]⟩,.int .i64 4]
theorem gOps:Tryz.prog.globalNamed "sccsettle/formula.operators"=some 1:=by kernel_rfl
structure EnvF (w:World):Prop where
 env:Env w
 ops:w.var? Tryz.prog "sccsettle/formula.operators"=some opTab
theorem EnvF.below {w w':World} {B:Nat} (h:EnvF w) (hb:Below B w w') (hB:10<B):EnvF w':=⟨h.env.below hb hB,var?_below hb gOps (by omega) h.ops⟩
theorem EnvF.keep {X:Nat→Prop} {w w':World} (h:EnvF w) (hk:Kp X w w') (hx:∀ n,X n→11≤n):EnvF w' :=
 h.below (hk.toBelow (B:=11) h.env.size (fun n hn x=>by have:=hx n x;omega)) (by omega)
theorem EnvF.cell {w:World} (h:EnvF w) (k:Nat) (hk:k<12):w.cell? ⟨1,2*k,none⟩=some (.string (opTxt k))∧w.cell? ⟨1,2*k+1,none⟩=some (.int .i64 (opLv k:Nat)):=by
 match k,hk with
 | 0,_=>exact⟨World.var?_cell gOps h.ops 0,World.var?_cell gOps h.ops 1⟩
 | 1,_=>exact⟨World.var?_cell gOps h.ops 2,World.var?_cell gOps h.ops 3⟩
 | 2,_=>exact⟨World.var?_cell gOps h.ops 4,World.var?_cell gOps h.ops 5⟩
 | 3,_=>exact⟨World.var?_cell gOps h.ops 6,World.var?_cell gOps h.ops 7⟩
 | 4,_=>exact⟨World.var?_cell gOps h.ops 8,World.var?_cell gOps h.ops 9⟩
 | 5,_=>exact⟨World.var?_cell gOps h.ops 10,World.var?_cell gOps h.ops 11⟩
 | 6,_=>exact⟨World.var?_cell gOps h.ops 12,World.var?_cell gOps h.ops 13⟩
 | 7,_=>exact⟨World.var?_cell gOps h.ops 14,World.var?_cell gOps h.ops 15⟩
 | 8,_=>exact⟨World.var?_cell gOps h.ops 16,World.var?_cell gOps h.ops 17⟩
 | 9,_=>exact⟨World.var?_cell gOps h.ops 18,World.var?_cell gOps h.ops 19⟩
 | 10,_=>exact⟨World.var?_cell gOps h.ops 20,World.var?_cell gOps h.ops 21⟩
 | 11,_=>exact⟨World.var?_cell gOps h.ops 22,World.var?_cell gOps h.ops 23⟩
 | k+12,hk=>omega
theorem opIdx0:∀ w,(Instr.index 251 (.agg opTab) (.int .i64 0)).run Tryz.prog w=.ok (.agg #[.string (opTxt 0),.int .i64 (opLv 0:Nat)]) w:=fun _=>by kernel_rfl
theorem opIdx1:∀ w,(Instr.index 251 (.agg opTab) (.int .i64 1)).run Tryz.prog w=.ok (.agg #[.string (opTxt 1),.int .i64 (opLv 1:Nat)]) w:=fun _=>by kernel_rfl
theorem opIdx2:∀ w,(Instr.index 251 (.agg opTab) (.int .i64 2)).run Tryz.prog w=.ok (.agg #[.string (opTxt 2),.int .i64 (opLv 2:Nat)]) w:=fun _=>by kernel_rfl
theorem opIdx3:∀ w,(Instr.index 251 (.agg opTab) (.int .i64 3)).run Tryz.prog w=.ok (.agg #[.string (opTxt 3),.int .i64 (opLv 3:Nat)]) w:=fun _=>by kernel_rfl
theorem opIdx4:∀ w,(Instr.index 251 (.agg opTab) (.int .i64 4)).run Tryz.prog w=.ok (.agg #[.string (opTxt 4),.int .i64 (opLv 4:Nat)]) w:=fun _=>by kernel_rfl
theorem opIdx5:∀ w,(Instr.index 251 (.agg opTab) (.int .i64 5)).run Tryz.prog w=.ok (.agg #[.string (opTxt 5),.int .i64 (opLv 5:Nat)]) w:=fun _=>by kernel_rfl
theorem opIdx6:∀ w,(Instr.index 251 (.agg opTab) (.int .i64 6)).run Tryz.prog w=.ok (.agg #[.string (opTxt 6),.int .i64 (opLv 6:Nat)]) w:=fun _=>by kernel_rfl
theorem opIdx7:∀ w,(Instr.index 251 (.agg opTab) (.int .i64 7)).run Tryz.prog w=.ok (.agg #[.string (opTxt 7),.int .i64 (opLv 7:Nat)]) w:=fun _=>by kernel_rfl
theorem opIdx8:∀ w,(Instr.index 251 (.agg opTab) (.int .i64 8)).run Tryz.prog w=.ok (.agg #[.string (opTxt 8),.int .i64 (opLv 8:Nat)]) w:=fun _=>by kernel_rfl
theorem opIdx9:∀ w,(Instr.index 251 (.agg opTab) (.int .i64 9)).run Tryz.prog w=.ok (.agg #[.string (opTxt 9),.int .i64 (opLv 9:Nat)]) w:=fun _=>by kernel_rfl
theorem opIdx10:∀ w,(Instr.index 251 (.agg opTab) (.int .i64 10)).run Tryz.prog w=.ok (.agg #[.string (opTxt 10),.int .i64 (opLv 10:Nat)]) w:=fun _=>by kernel_rfl
theorem opIdx11:∀ w,(Instr.index 251 (.agg opTab) (.int .i64 11)).run Tryz.prog w=.ok (.agg #[.string (opTxt 11),.int .i64 (opLv 11:Nat)]) w:=fun _=>by kernel_rfl
theorem opIdx (k:Nat) (hk:k<12) (w:World):(Instr.index 251 (.agg opTab) (.int .i64 (k:Nat))).run Tryz.prog w=.ok (.agg #[.string (opTxt k),.int .i64 (opLv k:Nat)]) w:=by
 match k,hk with
 | 0,_=>exact opIdx0 w
 | 1,_=>exact opIdx1 w
 | 2,_=>exact opIdx2 w
 | 3,_=>exact opIdx3 w
 | 4,_=>exact opIdx4 w
 | 5,_=>exact opIdx5 w
 | 6,_=>exact opIdx6 w
 | 7,_=>exact opIdx7 w
 | 8,_=>exact opIdx8 w
 | 9,_=>exact opIdx9 w
 | 10,_=>exact opIdx10 w
 | 11,_=>exact opIdx11 w
 | k+12,hk=>omega
def best (t:ByteArray):Nat→Nat
 | 0=>0
 | n+1=>if Lib.hasPrefix t.data.toList (opTxt n).data.toList=true∧(opTxt (best t n)).size<(opTxt n).size then n else best t n
theorem best_lt (t:ByteArray) (n:Nat):best t n≤n:=by
 induction n with
 | zero=>exact Nat.le_refl _
 | succ n ih=>rw [best];split<;>omega
theorem best_yes {t:ByteArray} {n:Nat} (h1:Lib.hasPrefix t.data.toList (opTxt n).data.toList=true) (h2:(opTxt (best t n)).size<(opTxt n).size):best t (n+1)=n:=by rw [best,if_pos ⟨h1,h2⟩]
theorem best_no {t:ByteArray} {n:Nat} (h1:Lib.hasPrefix t.data.toList (opTxt n).data.toList=false):best t (n+1)=best t n:=by rw [best,if_neg (by simp [h1])]
theorem best_no2 {t:ByteArray} {n:Nat} (h2:¬ (opTxt (best t n)).size<(opTxt n).size):best t (n+1)=best t n:=by rw [best,if_neg (fun h=>h2 h.2)]
theorem opTxt_le (n:Nat):(opTxt n).size≤2:=by
 unfold opTxt
 split<;>decide
theorem blk2 {w:World} {b:Nat} {a0 a1:Value} {t:TypeId} (h:w.heap[b]?=some (.cells #[a0,a1] t (0,0))):w.cell? ⟨b,0,none⟩=some a0∧w.cell? ⟨b,1,none⟩=some a1:=by simp [World.cell?,h]
end Go.Proofs.YtgifkepklnhddaaGreatDoor.fm
namespace Go.Proofs.YtgifkepklnhddaaGreatDoor.fm
open Go.RowKit
theorem below_drewN {B:Nat} {a w:World} (h:Below B a w) (n:Nat):Below B a (w.drewN n):=⟨h.os,h.tape,h.output,h.size,h.block⟩
set_option maxRecDepth 100000 in
set_option maxHeartbeats 4000000 in
theorem longest_any (t:ByteArray) (w:World) (hE:EnvF w) :
  Calls Tryz.prog 223 #[.string t] w fun e w'=>e=.returned (.int .i64 (best t 12:Nat))∧Below w.heap.size w w':=by
 have hc:w.rangeAt 1 0 opTab.toList:=fun j v hv=>by rw [Nat.zero_add,World.var?_cell gOps hE.ops j];simpa using hv
 have hinf:(Tryz.prog.info? 251).map (·.size)=some opTab.toList.length:=by kernel_rfl
 have HC:Hid (w.rangeAt 1 0 opTab.toList):=hc
 have HI:Hid ((Tryz.prog.info? 251).map (·.size)=some opTab.toList.length):=hinf
 clear hc hinf
 go_enter Tryz.func223,Tryz.ntmps223
 go_upto_region 2 with fail
 go_wp2_with (first | (refine wpList_load_mid rfl 251 _ rfl 1 0 rfl opTab.toList _ HC.out Tryz.underlying251 rfl HI.out ?_))
 clear HC HI
 rw [Array.toArray_toList]
 go_loopw [3,7] (fun a i wr=>∃ k:Nat,k≤12∧i=.int .i64 k∧a=.int .i64 (best t k:Nat)∧Below w.heap.size w wr) (fun _ i _=>12 - (intOf i).toNat)
 case atStart=>exact⟨0,by omega,rfl,rfl,Below.refl _ _⟩
 case round =>
  obtain⟨k,hk,rfl,rfl,hB⟩:=hrel
  have hE2:=hE.below hB hE.env.size
  skip
  by_cases hlt:k<12
  ·have hi:=opIdx k hlt
   have hbl:=best_lt t k
   have hbc:=(hE2.cell (best t k) (by omega)).1
   have hs1:=opTxt_le k
   have hs2:=opTxt_le (best t k)
   have hblk:=blk2 (blk_new wr (.cells #[.string (opTxt k),.int .i64 (opLv k:Nat)] 250))
   obtain⟨hc0,hc1⟩:=hblk
   have hB2:=hB.alloc hB.size (.cells #[.string (opTxt k),.int .i64 (opLv k:Nat)] 250)
   have hbc2:(wr.alloc (.cells #[.string (opTxt k),.int .i64 (opLv k:Nat)] 250)).cell? ⟨1,2*best t k,none⟩=some (.string (opTxt (best t k))):=by
    rw [World.cell?_of_block (Below.heap_alloc wr _ 1 (by have:=hE2.env.size;omega))];exact hbc
   have HY:Hid (Lib.hasPrefix t.data.toList (opTxt k).data.toList=true→(opTxt (best t k)).size<(opTxt k).size→best t (k+1)=k):=best_yes
   have HN:Hid (Lib.hasPrefix t.data.toList (opTxt k).data.toList=false→best t (k+1)=best t k):=best_no
   have HM:Hid (¬ (opTxt (best t k)).size<(opTxt k).size→best t (k+1)=best t k):=best_no2
   have HP:Hid (∀ w,Calls Tryz.prog 127 #[.string t,.string (opTxt k)] w fun e w'=>e=.returned (.bool (Lib.hasPrefix t.data.toList (opTxt k).data.toList))∧w'=w):=prefix_any t (opTxt k)
   clear hbc
   have hb12:((best t k:Nat):Int)<12:=by omega
   have hb12n:best t k<12:=by omega
   have hbc3:(wr.alloc (.cells #[.string (opTxt k),.int .i64 (opLv k:Nat)] 250)).cell? ⟨1,best t k*2,none⟩=some (.string (opTxt (best t k))):=by rw [Nat.mul_comm];exact hbc2
   generalize best t k=bk at *
   generalize opTxt k=tk at *
   generalize opTxt bk=tb at *
   generalize hp:Lib.hasPrefix t.data.toList tk.data.toList=pb at *
   have HPB:Hid (Lib.hasPrefix t.data.toList tk.data.toList=pb):=hp
   clear hp
   go_upto_region 5 with fail
   generalize wr.alloc (.cells #[.string tk,.int .i64 (opLv k:Nat)] 250)=wa at *
   have hc0':wa.drew.cell? ⟨wr.heap.size,0,none⟩=some (.string tk):=hc0
   have hbc2':wa.drew.cell? ⟨1,2*bk,none⟩=some (.string tb):=hbc2
   cases pb with
   | false =>
    have HB:Hid (best t (k+1)=bk):=HN.out rfl
    clear HN HM HY
    go_quiet ((go_at_call 127;exact Calls.quiet_of_same (HP.out _)))
    all_goals
     go_wp2_with fail
     exact⟨⟨k+1,by omega,by simp,by rw [HB.out],below_drewN hB2 _⟩,by simp [intOf];omega⟩
   | true =>
    by_cases hl:tb.size<tk.size
    ·have HB:Hid (best t (k+1)=k):=HY.out rfl hl
     have hl':(tb.size:Int)<(tk.size:Int):=by omega
     clear HN HM HY
     go_quiet ((go_at_call 127;exact Calls.quiet_of_same (HP.out _)))
     all_goals
      go_wp2_with fail
      exact⟨⟨k+1,by omega,by simp,by rw [HB.out],below_drewN hB2 _⟩,by simp [intOf];omega⟩
    ·have HB:Hid (best t (k+1)=bk):=HM.out hl
     have hl':¬ (tb.size:Int)<(tk.size:Int):=by omega
     clear HN HM HY
     go_quiet ((go_at_call 127;exact Calls.quiet_of_same (HP.out _)))
     all_goals
      go_wp2_with fail
      exact⟨⟨k+1,by omega,by simp,by rw [HB.out],below_drewN hB2 _⟩,by simp [intOf];omega⟩
  ·obtain rfl:k=12:=by omega
   go_wp2_with fail
   go_ret
   exact⟨rfl,hB⟩
end Go.Proofs.YtgifkepklnhddaaGreatDoor.fm
namespace Go.Proofs.YtgifkepklnhddaaGreatDoor.fm
open Go.RowKit
theorem pre_two (s:ByteArray) (k a b:Nat) (ha:a<256) (h0:a≠0) (hb:b<256) (h1:b≠0):pre s k [UInt8.ofNat a,UInt8.ofNat b]=(decide (nx s k=a) && decide (nx s (k+1)=b)):=by
 rw [← pre_one s k a ha h0,← pre_one s (k+1) b hb h1]
 unfold pre
 cases hd:s.data.toList.drop k with
 | nil=>simp [List.isPrefixOf]
 | cons x l =>
  have h2:s.data.toList.drop (k+1)=l:=by rw [← List.drop_drop,hd];rfl
  rw [h2]
  simp [List.isPrefixOf]
theorem opLev (op:Nat) (h:op≤11):opLv op=lev op:=by
 match op,h with
 | 0,_=>rfl
 | 1,_=>rfl
 | 2,_=>rfl
 | 3,_=>rfl
 | 4,_=>rfl
 | 5,_=>rfl
 | 6,_=>rfl
 | 7,_=>rfl
 | 8,_=>rfl
 | 9,_=>rfl
 | 10,_=>rfl
 | 11,_=>rfl
 | op+12,h=>omega
theorem opAt_len (s:ByteArray) (k:Nat):(opAt s k).2=(opTxt (opAt s k).1).size:=by
 unfold opAt
 repeat' split
 all_goals rfl
theorem best_opAt (s:ByteArray) (k:Nat):best (s.extract k s.size) 12=(opAt s k).1:=by
 have p0:Lib.hasPrefix (s.extract k s.size).data.toList (opTxt 0).data.toList=true:=by rw [pre_extract];simp [opTxt,pre]
 have p1:Lib.hasPrefix (s.extract k s.size).data.toList (opTxt 1).data.toList=decide (nx s k=61):=by rw [pre_extract];exact pre_one s k 61 (by omega) (by omega)
 have p2:Lib.hasPrefix (s.extract k s.size).data.toList (opTxt 2).data.toList=(decide (nx s k=60) && decide (nx s (k+1)=62)):=by rw [pre_extract];exact pre_two s k 60 62 (by omega) (by omega) (by omega) (by omega)
 have p3:Lib.hasPrefix (s.extract k s.size).data.toList (opTxt 3).data.toList=decide (nx s k=60):=by rw [pre_extract];exact pre_one s k 60 (by omega) (by omega)
 have p4:Lib.hasPrefix (s.extract k s.size).data.toList (opTxt 4).data.toList=(decide (nx s k=60) && decide (nx s (k+1)=61)):=by rw [pre_extract];exact pre_two s k 60 61 (by omega) (by omega) (by omega) (by omega)
 have p5:Lib.hasPrefix (s.extract k s.size).data.toList (opTxt 5).data.toList=decide (nx s k=62):=by rw [pre_extract];exact pre_one s k 62 (by omega) (by omega)
 have p6:Lib.hasPrefix (s.extract k s.size).data.toList (opTxt 6).data.toList=(decide (nx s k=62) && decide (nx s (k+1)=61)):=by rw [pre_extract];exact pre_two s k 62 61 (by omega) (by omega) (by omega) (by omega)
 have p7:Lib.hasPrefix (s.extract k s.size).data.toList (opTxt 7).data.toList=decide (nx s k=38):=by rw [pre_extract];exact pre_one s k 38 (by omega) (by omega)
 have p8:Lib.hasPrefix (s.extract k s.size).data.toList (opTxt 8).data.toList=decide (nx s k=43):=by rw [pre_extract];exact pre_one s k 43 (by omega) (by omega)
 have p9:Lib.hasPrefix (s.extract k s.size).data.toList (opTxt 9).data.toList=decide (nx s k=45):=by rw [pre_extract];exact pre_one s k 45 (by omega) (by omega)
 have p10:Lib.hasPrefix (s.extract k s.size).data.toList (opTxt 10).data.toList=decide (nx s k=42):=by rw [pre_extract];exact pre_one s k 42 (by omega) (by omega)
 have p11:Lib.hasPrefix (s.extract k s.size).data.toList (opTxt 11).data.toList=decide (nx s k=47):=by rw [pre_extract];exact pre_one s k 47 (by omega) (by omega)
 generalize (s.extract k s.size)=t at *
 unfold opAt
 generalize nx s k=a at *
 generalize nx s (k+1)=b at *
 have z:(opTxt 0).size=0∧(opTxt 1).size=1∧(opTxt 2).size=2∧(opTxt 3).size=1∧(opTxt 4).size=2∧(opTxt 5).size=1∧(opTxt 6).size=2∧(opTxt 7).size=1∧(opTxt 8).size=1∧(opTxt 9).size=1∧(opTxt 10).size=1∧(opTxt 11).size=1:=by decide
 obtain⟨z0,z1,z2,z3,z4,z5,z6,z7,z8,z9,z10,z11⟩:=z
 have b1:best t 1=0:=by rw [best_no2 (by simp [best])];rfl
 by_cases a61:a=61
 ·subst a61
  have b2:best t 2=1:=best_yes (by rw [p1];simp [*]) (by rw [b1,z0,z1];decide)
  have b3:best t 3=1:=by rw [best_no (by rw [p2];simp [*]),b2]
  have b4:best t 4=1:=by rw [best_no (by rw [p3];simp [*]),b3]
  have b5:best t 5=1:=by rw [best_no (by rw [p4];simp [*]),b4]
  have b6:best t 6=1:=by rw [best_no (by rw [p5];simp [*]),b5]
  have b7:best t 7=1:=by rw [best_no (by rw [p6];simp [*]),b6]
  have b8:best t 8=1:=by rw [best_no (by rw [p7];simp [*]),b7]
  have b9:best t 9=1:=by rw [best_no (by rw [p8];simp [*]),b8]
  have b10:best t 10=1:=by rw [best_no (by rw [p9];simp [*]),b9]
  have b11:best t 11=1:=by rw [best_no (by rw [p10];simp [*]),b10]
  have b12:best t 12=1:=by rw [best_no (by rw [p11];simp [*]),b11]
  rw [b12]
  rfl
 by_cases a60:a=60
 ·subst a60
  by_cases c62:b=62
  ·subst c62
   have b2:best t 2=0:=by rw [best_no (by rw [p1];simp [*]),b1]
   have b3:best t 3=2:=best_yes (by rw [p2];simp [*]) (by rw [b2,z0,z2];decide)
   have b4:best t 4=2:=by rw [best_no2 (by rw [b3,z2,z3];decide),b3]
   have b5:best t 5=2:=by rw [best_no (by rw [p4];simp [*]),b4]
   have b6:best t 6=2:=by rw [best_no (by rw [p5];simp [*]),b5]
   have b7:best t 7=2:=by rw [best_no (by rw [p6];simp [*]),b6]
   have b8:best t 8=2:=by rw [best_no (by rw [p7];simp [*]),b7]
   have b9:best t 9=2:=by rw [best_no (by rw [p8];simp [*]),b8]
   have b10:best t 10=2:=by rw [best_no (by rw [p9];simp [*]),b9]
   have b11:best t 11=2:=by rw [best_no (by rw [p10];simp [*]),b10]
   have b12:best t 12=2:=by rw [best_no (by rw [p11];simp [*]),b11]
   rw [b12]
   rfl
  by_cases c61:b=61
  ·subst c61
   have b2:best t 2=0:=by rw [best_no (by rw [p1];simp [*]),b1]
   have b3:best t 3=0:=by rw [best_no (by rw [p2];simp [*]),b2]
   have b4:best t 4=3:=best_yes (by rw [p3];simp [*]) (by rw [b3,z0,z3];decide)
   have b5:best t 5=4:=best_yes (by rw [p4];simp [*]) (by rw [b4,z3,z4];decide)
   have b6:best t 6=4:=by rw [best_no (by rw [p5];simp [*]),b5]
   have b7:best t 7=4:=by rw [best_no (by rw [p6];simp [*]),b6]
   have b8:best t 8=4:=by rw [best_no (by rw [p7];simp [*]),b7]
   have b9:best t 9=4:=by rw [best_no (by rw [p8];simp [*]),b8]
   have b10:best t 10=4:=by rw [best_no (by rw [p9];simp [*]),b9]
   have b11:best t 11=4:=by rw [best_no (by rw [p10];simp [*]),b10]
   have b12:best t 12=4:=by rw [best_no (by rw [p11];simp [*]),b11]
   rw [b12]
   rfl
  have b2:best t 2=0:=by rw [best_no (by rw [p1];simp [*]),b1]
  have b3:best t 3=0:=by rw [best_no (by rw [p2];simp [*]),b2]
  have b4:best t 4=3:=best_yes (by rw [p3];simp [*]) (by rw [b3,z0,z3];decide)
  have b5:best t 5=3:=by rw [best_no (by rw [p4];simp [*]),b4]
  have b6:best t 6=3:=by rw [best_no (by rw [p5];simp [*]),b5]
  have b7:best t 7=3:=by rw [best_no (by rw [p6];simp [*]),b6]
  have b8:best t 8=3:=by rw [best_no (by rw [p7];simp [*]),b7]
  have b9:best t 9=3:=by rw [best_no (by rw [p8];simp [*]),b8]
  have b10:best t 10=3:=by rw [best_no (by rw [p9];simp [*]),b9]
  have b11:best t 11=3:=by rw [best_no (by rw [p10];simp [*]),b10]
  have b12:best t 12=3:=by rw [best_no (by rw [p11];simp [*]),b11]
  rw [b12]
  simp [*]
 by_cases a62:a=62
 ·subst a62
  by_cases c61:b=61
  ·subst c61
   have b2:best t 2=0:=by rw [best_no (by rw [p1];simp [*]),b1]
   have b3:best t 3=0:=by rw [best_no (by rw [p2];simp [*]),b2]
   have b4:best t 4=0:=by rw [best_no (by rw [p3];simp [*]),b3]
   have b5:best t 5=0:=by rw [best_no (by rw [p4];simp [*]),b4]
   have b6:best t 6=5:=best_yes (by rw [p5];simp [*]) (by rw [b5,z0,z5];decide)
   have b7:best t 7=6:=best_yes (by rw [p6];simp [*]) (by rw [b6,z5,z6];decide)
   have b8:best t 8=6:=by rw [best_no (by rw [p7];simp [*]),b7]
   have b9:best t 9=6:=by rw [best_no (by rw [p8];simp [*]),b8]
   have b10:best t 10=6:=by rw [best_no (by rw [p9];simp [*]),b9]
   have b11:best t 11=6:=by rw [best_no (by rw [p10];simp [*]),b10]
   have b12:best t 12=6:=by rw [best_no (by rw [p11];simp [*]),b11]
   rw [b12]
   rfl
  have b2:best t 2=0:=by rw [best_no (by rw [p1];simp [*]),b1]
  have b3:best t 3=0:=by rw [best_no (by rw [p2];simp [*]),b2]
  have b4:best t 4=0:=by rw [best_no (by rw [p3];simp [*]),b3]
  have b5:best t 5=0:=by rw [best_no (by rw [p4];simp [*]),b4]
  have b6:best t 6=5:=best_yes (by rw [p5];simp [*]) (by rw [b5,z0,z5];decide)
  have b7:best t 7=5:=by rw [best_no (by rw [p6];simp [*]),b6]
  have b8:best t 8=5:=by rw [best_no (by rw [p7];simp [*]),b7]
  have b9:best t 9=5:=by rw [best_no (by rw [p8];simp [*]),b8]
  have b10:best t 10=5:=by rw [best_no (by rw [p9];simp [*]),b9]
  have b11:best t 11=5:=by rw [best_no (by rw [p10];simp [*]),b10]
  have b12:best t 12=5:=by rw [best_no (by rw [p11];simp [*]),b11]
  rw [b12]
  simp [*]
 by_cases a38:a=38
 ·subst a38
  have b2:best t 2=0:=by rw [best_no (by rw [p1];simp [*]),b1]
  have b3:best t 3=0:=by rw [best_no (by rw [p2];simp [*]),b2]
  have b4:best t 4=0:=by rw [best_no (by rw [p3];simp [*]),b3]
  have b5:best t 5=0:=by rw [best_no (by rw [p4];simp [*]),b4]
  have b6:best t 6=0:=by rw [best_no (by rw [p5];simp [*]),b5]
  have b7:best t 7=0:=by rw [best_no (by rw [p6];simp [*]),b6]
  have b8:best t 8=7:=best_yes (by rw [p7];simp [*]) (by rw [b7,z0,z7];decide)
  have b9:best t 9=7:=by rw [best_no (by rw [p8];simp [*]),b8]
  have b10:best t 10=7:=by rw [best_no (by rw [p9];simp [*]),b9]
  have b11:best t 11=7:=by rw [best_no (by rw [p10];simp [*]),b10]
  have b12:best t 12=7:=by rw [best_no (by rw [p11];simp [*]),b11]
  rw [b12]
  rfl
 by_cases a43:a=43
 ·subst a43
  have b2:best t 2=0:=by rw [best_no (by rw [p1];simp [*]),b1]
  have b3:best t 3=0:=by rw [best_no (by rw [p2];simp [*]),b2]
  have b4:best t 4=0:=by rw [best_no (by rw [p3];simp [*]),b3]
  have b5:best t 5=0:=by rw [best_no (by rw [p4];simp [*]),b4]
  have b6:best t 6=0:=by rw [best_no (by rw [p5];simp [*]),b5]
  have b7:best t 7=0:=by rw [best_no (by rw [p6];simp [*]),b6]
  have b8:best t 8=0:=by rw [best_no (by rw [p7];simp [*]),b7]
  have b9:best t 9=8:=best_yes (by rw [p8];simp [*]) (by rw [b8,z0,z8];decide)
  have b10:best t 10=8:=by rw [best_no (by rw [p9];simp [*]),b9]
  have b11:best t 11=8:=by rw [best_no (by rw [p10];simp [*]),b10]
  have b12:best t 12=8:=by rw [best_no (by rw [p11];simp [*]),b11]
  rw [b12]
  rfl
 by_cases a45:a=45
 ·subst a45
  have b2:best t 2=0:=by rw [best_no (by rw [p1];simp [*]),b1]
  have b3:best t 3=0:=by rw [best_no (by rw [p2];simp [*]),b2]
  have b4:best t 4=0:=by rw [best_no (by rw [p3];simp [*]),b3]
  have b5:best t 5=0:=by rw [best_no (by rw [p4];simp [*]),b4]
  have b6:best t 6=0:=by rw [best_no (by rw [p5];simp [*]),b5]
  have b7:best t 7=0:=by rw [best_no (by rw [p6];simp [*]),b6]
  have b8:best t 8=0:=by rw [best_no (by rw [p7];simp [*]),b7]
  have b9:best t 9=0:=by rw [best_no (by rw [p8];simp [*]),b8]
  have b10:best t 10=9:=best_yes (by rw [p9];simp [*]) (by rw [b9,z0,z9];decide)
  have b11:best t 11=9:=by rw [best_no (by rw [p10];simp [*]),b10]
  have b12:best t 12=9:=by rw [best_no (by rw [p11];simp [*]),b11]
  rw [b12]
  rfl
 by_cases a42:a=42
 ·subst a42
  have b2:best t 2=0:=by rw [best_no (by rw [p1];simp [*]),b1]
  have b3:best t 3=0:=by rw [best_no (by rw [p2];simp [*]),b2]
  have b4:best t 4=0:=by rw [best_no (by rw [p3];simp [*]),b3]
  have b5:best t 5=0:=by rw [best_no (by rw [p4];simp [*]),b4]
  have b6:best t 6=0:=by rw [best_no (by rw [p5];simp [*]),b5]
  have b7:best t 7=0:=by rw [best_no (by rw [p6];simp [*]),b6]
  have b8:best t 8=0:=by rw [best_no (by rw [p7];simp [*]),b7]
  have b9:best t 9=0:=by rw [best_no (by rw [p8];simp [*]),b8]
  have b10:best t 10=0:=by rw [best_no (by rw [p9];simp [*]),b9]
  have b11:best t 11=10:=best_yes (by rw [p10];simp [*]) (by rw [b10,z0,z10];decide)
  have b12:best t 12=10:=by rw [best_no (by rw [p11];simp [*]),b11]
  rw [b12]
  rfl
 by_cases a47:a=47
 ·subst a47
  have b2:best t 2=0:=by rw [best_no (by rw [p1];simp [*]),b1]
  have b3:best t 3=0:=by rw [best_no (by rw [p2];simp [*]),b2]
  have b4:best t 4=0:=by rw [best_no (by rw [p3];simp [*]),b3]
  have b5:best t 5=0:=by rw [best_no (by rw [p4];simp [*]),b4]
  have b6:best t 6=0:=by rw [best_no (by rw [p5];simp [*]),b5]
  have b7:best t 7=0:=by rw [best_no (by rw [p6];simp [*]),b6]
  have b8:best t 8=0:=by rw [best_no (by rw [p7];simp [*]),b7]
  have b9:best t 9=0:=by rw [best_no (by rw [p8];simp [*]),b8]
  have b10:best t 10=0:=by rw [best_no (by rw [p9];simp [*]),b9]
  have b11:best t 11=0:=by rw [best_no (by rw [p10];simp [*]),b10]
  have b12:best t 12=11:=best_yes (by rw [p11];simp [*]) (by rw [b11,z0,z11];decide)
  rw [b12]
  rfl
 have b2:best t 2=0:=by rw [best_no (by rw [p1];simp [*]),b1]
 have b3:best t 3=0:=by rw [best_no (by rw [p2];simp [*]),b2]
 have b4:best t 4=0:=by rw [best_no (by rw [p3];simp [*]),b3]
 have b5:best t 5=0:=by rw [best_no (by rw [p4];simp [*]),b4]
 have b6:best t 6=0:=by rw [best_no (by rw [p5];simp [*]),b5]
 have b7:best t 7=0:=by rw [best_no (by rw [p6];simp [*]),b6]
 have b8:best t 8=0:=by rw [best_no (by rw [p7];simp [*]),b7]
 have b9:best t 9=0:=by rw [best_no (by rw [p8];simp [*]),b8]
 have b10:best t 10=0:=by rw [best_no (by rw [p9];simp [*]),b9]
 have b11:best t 11=0:=by rw [best_no (by rw [p10];simp [*]),b10]
 have b12:best t 12=0:=by rw [best_no (by rw [p11];simp [*]),b11]
 rw [b12]
 simp [*]
end Go.Proofs.YtgifkepklnhddaaGreatDoor.fm
namespace Go.Proofs.YtgifkepklnhddaaGreatDoor.fm
open Go.RowKit
set_option maxHeartbeats 4000000 in
theorem operator_yes (s:ByteArray) (hs:s.size≤200) (rb k d l:Nat) (w:World) (hE:EnvF w) (h:RD w rb s k d) (hk:k≤s.size) (hrb:11≤rb) (hc:lev (opAt s (skip s k)).1=l) :
  Calls Tryz.prog 201 #[ptr rb,.int .i64 (l:Nat)] w fun e w'=>e=.returned (.int .i64 ((opAt s (skip s k)).1:Nat))∧RD w' rb s (skip s k+(opAt s (skip s k)).2) d∧Kp (·=rb) w w':=by
 have hk1:=(skip_spec s k).2.2 hk
 have hsp:=opAt_spec s (skip s k)
 have hlen:=opAt_len s (skip s k)
 have hb:=best_opAt s (skip s k)
 have hop11:(opAt s (skip s k)).1≤11:=by omega
 have hlv:=opLev _ hop11
 have hz2:=opTxt_le (opAt s (skip s k)).1
 have hle:skip s k+(opTxt (opAt s (skip s k)).1).size≤s.size:=by rw [← hlen];omega
 have HB:Hid (best (s.extract (skip s k) s.size) 12=(opAt s (skip s k)).1):=hb
 have HL:Hid ((opAt s (skip s k)).2=(opTxt (opAt s (skip s k)).1).size):=hlen
 rw [← hlv] at hc
 clear hb hlen hsp hlv
 generalize opAt s (skip s k)=opp at *
 obtain⟨op,len⟩:=opp
 simp only at *
 have hq:(((opLv op:Nat):Int) != (l:Int))=false:=by rw [bne_eq_false_iff_eq];omega
 clear hc
 go_enter Tryz.func201,Tryz.ntmps201
 go_wp2_with fail
 refine (blanks_any rb k d s _ h hk (by omega)).mono ?_
 rintro e w1 ⟨rfl,hR1,hK1⟩
 have hE1:=hE.keep hK1 (fun n e=>by omega)
 go_wp2_with fail
 refine (rest_any rb _ d s _ hR1 hk1).mono ?_
 rintro e w2 ⟨rfl,hb2⟩
 have hE2:=hE1.below hb2 hE1.env.size
 go_wp2_with fail
 refine (longest_any _ _ hE2).mono ?_
 rintro e w3 ⟨rfl,hb3⟩
 rw [HB.out]
 have hE3:=hE2.below hb3 hE2.env.size
 have hR3:=(hR1.below hb2).below hb3
 have hK3:=(hK1.below hb2).below hb3
 have c1:=hE3.cell op (by omega)
 have c2:w3.cell? ⟨1,op*2,none⟩=some (.string (opTxt op))∧w3.cell? ⟨1,op*2+1,none⟩=some (.int .i64 (opLv op:Nat)):=by rw [Nat.mul_comm];exact c1
 obtain⟨d1,d2⟩:=c1
 obtain⟨d3,d4⟩:=c2
 have ho12:((op:Nat):Int)<12:=by omega
 have ho12n:op<12:=by omega
 obtain⟨⟨c0,c1,c2⟩,f0,f1,f2⟩:=hR3.cells
 generalize opLv op=ol at *
 generalize opTxt op=ot at *
 go_wp2_with fail
 go_region
 all_goals
  go_wp2_with fail
  go_ret
  rw [show ((skip s k:Nat):Int)+(ot.size:Int)=((skip s k+ot.size:Nat):Int) from by omega]
  refine⟨rfl,?_,?_⟩
  ·rw [HL.out];exact (hR3.drew.setAt (skip s k+ot.size))
  ·exact (hK3.drew.setCell (Or.inl rfl) _)
set_option maxHeartbeats 4000000 in
theorem operator_no (s:ByteArray) (hs:s.size≤200) (rb k d l:Nat) (w:World) (hE:EnvF w) (h:RD w rb s k d) (hk:k≤s.size) (hrb:11≤rb) (hc:lev (opAt s (skip s k)).1≠l) :
  Calls Tryz.prog 201 #[ptr rb,.int .i64 (l:Nat)] w fun e w'=>e=.returned (.int .i64 0)∧RD w' rb s (skip s k) d∧Kp (·=rb) w w':=by
 have hk1:=(skip_spec s k).2.2 hk
 have hsp:=opAt_spec s (skip s k)
 have hlen:=opAt_len s (skip s k)
 have hb:=best_opAt s (skip s k)
 have hop11:(opAt s (skip s k)).1≤11:=by omega
 have hlv:=opLev _ hop11
 have hz2:=opTxt_le (opAt s (skip s k)).1
 have hle:skip s k+(opTxt (opAt s (skip s k)).1).size≤s.size:=by rw [← hlen];omega
 have HB:Hid (best (s.extract (skip s k) s.size) 12=(opAt s (skip s k)).1):=hb
 have HL:Hid ((opAt s (skip s k)).2=(opTxt (opAt s (skip s k)).1).size):=hlen
 rw [← hlv] at hc
 clear hb hlen hsp hlv
 generalize opAt s (skip s k)=opp at *
 obtain⟨op,len⟩:=opp
 simp only at *
 have hq:(((opLv op:Nat):Int) != (l:Int))=true:=by rw [bne_iff_ne];omega
 clear hc
 go_enter Tryz.func201,Tryz.ntmps201
 go_wp2_with fail
 refine (blanks_any rb k d s _ h hk (by omega)).mono ?_
 rintro e w1 ⟨rfl,hR1,hK1⟩
 have hE1:=hE.keep hK1 (fun n e=>by omega)
 go_wp2_with fail
 refine (rest_any rb _ d s _ hR1 hk1).mono ?_
 rintro e w2 ⟨rfl,hb2⟩
 have hE2:=hE1.below hb2 hE1.env.size
 go_wp2_with fail
 refine (longest_any _ _ hE2).mono ?_
 rintro e w3 ⟨rfl,hb3⟩
 rw [HB.out]
 have hE3:=hE2.below hb3 hE2.env.size
 have hR3:=(hR1.below hb2).below hb3
 have hK3:=(hK1.below hb2).below hb3
 have c1:=hE3.cell op (by omega)
 have c2:w3.cell? ⟨1,op*2,none⟩=some (.string (opTxt op))∧w3.cell? ⟨1,op*2+1,none⟩=some (.int .i64 (opLv op:Nat)):=by rw [Nat.mul_comm];exact c1
 obtain⟨d1,d2⟩:=c1
 obtain⟨d3,d4⟩:=c2
 have ho12:((op:Nat):Int)<12:=by omega
 have ho12n:op<12:=by omega
 obtain⟨⟨c0,c1,c2⟩,f0,f1,f2⟩:=hR3.cells
 generalize opLv op=ol at *
 generalize opTxt op=ot at *
 go_wp2_with fail
 go_ret
 exact⟨rfl,hR3,hK3⟩
end Go.Proofs.YtgifkepklnhddaaGreatDoor.fm

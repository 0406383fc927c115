import Derived.Test.YtgifkepklnhddaaGreatDoorQ7Vl
import Derived.Test.YtgifkepklnhddaaGreatDoorQ7Shelf
import Derived.Test.YtgifkepklnhddaaGreatDoorQ7Num
import Derived.Lib.AppendIntMem
import Derived.Lib.SmallJoins
import Derived.WalkSmall
import Derived.LoopN
import Derived.Lib.AtoiAllCases
namespace Go.Proofs.YtgifkepklnhddaaGreatDoor
open Go.RowKit
theorem gBad:Tryz.prog.globalNamed "sccsettle/value.badTexts"=some 2:=by kernel_rfl
theorem gSyn:Tryz.prog.globalNamed "strconv.ErrSyntax"=some 9:=by kernel_rfl
theorem gRan:Tryz.prog.globalNamed "strconv.ErrRange"=some 10:=by kernel_rfl
theorem gPow:Tryz.prog.globalNamed "internal/strconv.uint64pow10"=some 3:=by kernel_rfl
abbrev bt0:ByteArray:=⟨#[35,68,73,86,33]⟩
abbrev bt1:ByteArray:=⟨#[35,86,65,76,85,69,33]⟩
abbrev bt2:ByteArray:=⟨#[35,82,69,70,33]⟩
abbrev bt3:ByteArray:=⟨#[35,78,65,77,69,33]⟩
abbrev bt4:ByteArray:=⟨#[35,78,85,77,33]⟩
abbrev bt5:ByteArray:=⟨#[35,78,79,78,69,33]⟩
structure Env (w:World):Prop where
 size:10<w.heap.size
 tab:Lib.TabIs Tryz.prog w "internal/strconv.uint64pow10" .u64 Lib.pow10Tab
 syn:∃ (tp:TypeId) (p:Value),w.var? Tryz.prog "strconv.ErrSyntax"=some #[.iface tp p]
 ran:∃ (tp:TypeId) (p:Value),w.var? Tryz.prog "strconv.ErrRange"=some #[.iface tp p]
 bads:w.var? Tryz.prog "sccsettle/value.badTexts"=some #[.string bt0,.string bt1,.string bt2,.string bt3,.string bt4,.string bt5]
theorem Env.below {w w':World} {B:Nat} (h:Env w) (hb:Below B w w') (hB:10<B):Env w' :=
 ⟨Nat.lt_of_lt_of_le h.size hb.size,var?_below hb gPow (by omega) h.tab,
  h.syn.elim fun tp e=>e.elim fun p e=>⟨tp,p,var?_below hb gSyn (by omega) e⟩,
  h.ran.elim fun tp e=>e.elim fun p e=>⟨tp,p,var?_below hb gRan (by omega) e⟩,
  var?_below hb gBad (by omega) h.bads⟩
theorem Env.next {w w':World} (h:Env w) (hb:Below w.heap.size w w'):Env w':=h.below hb h.size
theorem Env.alloc {w:World} (h:Env w) (o:Obj):Env (w.alloc o):=h.next ((Below.refl _ _).alloc (Nat.le_refl _) _)
theorem Env.cell {w:World} (h:Env w):w.cell? ⟨2,0,none⟩=some (.string bt0)∧w.cell? ⟨2,1,none⟩=some (.string bt1)∧w.cell? ⟨2,2,none⟩=some (.string bt2)∧w.cell? ⟨2,3,none⟩=some (.string bt3)∧w.cell? ⟨2,4,none⟩=some (.string bt4)∧w.cell? ⟨2,5,none⟩=some (.string bt5) :=
 ⟨World.var?_cell gBad h.bads 0,World.var?_cell gBad h.bads 1,World.var?_cell gBad h.bads 2,World.var?_cell gBad h.bads 3,World.var?_cell gBad h.bads 4,World.var?_cell gBad h.bads 5⟩
def itoaB (n:Int):ByteArray:=⟨(Lib.itoa n).toArray⟩
theorem itoa_any (n:Int) (w:World) (h0:-9223372036854775808≤n) (h1:n≤9223372036854775807) (hE:Env w) :
  Calls Tryz.prog 207 #[.int .i64 n] w fun e w'=>e=.returned (.string (itoaB n))∧Below w.heap.size w w':=by
 refine (Any.strconv_Itoa Tryz.laysM171 n h0 h1 w hE.tab).mono ?_
 rintro e w' ⟨rfl,k,os,rfl⟩
 exact⟨rfl,Lib.below_grow _ w (Nat.le_refl _) k os⟩
theorem atoi_yes (s:ByteArray) (v:Int) (w:World) (hs:s.size≤200) (h:Lib.atoiAll s.data.toList=.ok v) :
  Calls Tryz.prog 282 #[.string s] w fun e w'=>e=.returned (.tuple #[.int .i64 v,.nilIface])∧Below w.heap.size w w':=by
 refine (Any.strconv_Atoi_ok Tryz.laysC172 s (by omega) v h w).mono ?_
 rintro e w' ⟨rfl,hw⟩
 rcases hw with rfl | ⟨t,rfl⟩
 ·exact⟨rfl,Below.refl _ _⟩
 ·exact⟨rfl,Joins.below_bytesWorld _ _ _ _ (Nat.le_refl _)⟩
theorem atoi_no (s:ByteArray) (w:World) (hs:s.size≤200) (h:∀ v,Lib.atoiAll s.data.toList≠.ok v) (hE:Env w) :
  Calls Tryz.prog 282 #[.string s] w fun e w'=>(∃ (m:Int) (N:Nat),e=.returned (.tuple #[.int .i64 m,.iface 321 (.pointer (some ⟨N,0,none⟩))]))∧Below w.heap.size w w':=by
 obtain⟨tp,p,hv⟩:=hE.syn
 obtain⟨tp2,p2,hv2⟩:=hE.ran
 cases hh:Lib.atoiAll s.data.toList with
 | ok v=>exact absurd hh (h v)
 | range =>
  refine (Any.strconv_Atoi_range_var Tryz.laysC172 s (by omega) hh tp2 p2 w hv2).mono ?_
  rintro e w' ⟨N,rfl,_,_,hb⟩
  exact⟨⟨_,N,rfl⟩,hb⟩
 | _ =>
  refine (Any.strconv_Atoi_syntax_var Tryz.laysC172 s (by omega) hh tp p w hv).mono ?_
  rintro e w' ⟨N,rfl,_,_,hb⟩
  exact⟨⟨_,N,rfl⟩,hb⟩
def numOf (s:ByteArray):Option Int :=
 match Lib.atoiAll s.data.toList with
 | .ok v=>if Lib.itoa v=s.data.toList then some v else none
 | _=>none
theorem numOf_some {s:ByteArray} {v:Int} (h:numOf s=some v):Lib.atoiAll s.data.toList=.ok v∧Lib.itoa v=s.data.toList:=by
 unfold numOf at h
 split at h
 ·rename_i u hu
  split at h
  ·rename_i e;injection h with h;subst h;exact⟨hu,e⟩
  ·cases h
 ·cases h
theorem atoi_bd {l:List UInt8} {v:Int} (h:Lib.atoiAll l=.ok v):-9223372036854775808≤v∧v≤9223372036854775807:=Lib.atoiAll_bounds h
theorem toList_itoaB {n:Int}:(itoaB n).toList=Lib.itoa n:=by rw [ByteArray.toList_eq];rfl
set_option maxHeartbeats 1000000 in
theorem readNumber_yes (s:ByteArray) (v:Int) (w:World) (hs:s.size≤200) (hE:Env w) (h:numOf s=some v) :
  Calls Tryz.prog 266 #[.string s] w fun e w'=>e=.returned (.tuple #[.int .i64 v,.bool true])∧Below w.heap.size w w':=by
 obtain⟨ha,hi⟩:=numOf_some h
 obtain⟨h0,h1⟩:=atoi_bd ha
 have HA:Hid (Lib.atoiAll s.data.toList=.ok v):=ha
 have heq:((itoaB v).toList == s.toList)=true:=by rw [toList_itoaB,ByteArray.toList_eq,hi];simp
 clear h ha hi
 go_enter Tryz.func266,Tryz.ntmps266
 go_wp2_with fail
 refine (atoi_yes s v _ hs HA.out).mono ?_
 rintro e w1 ⟨rfl,b1⟩
 have hE1:=hE.next b1
 go_wp2_with fail
 refine (itoa_any v _ h0 h1 hE1).mono ?_
 rintro e w2 ⟨rfl,b2⟩
 go_wp2_with fail
 go_ret2
 exact⟨rfl,bnext b1 b2 b1.size⟩
set_option maxHeartbeats 1000000 in
theorem readNumber_off (s:ByteArray) (v:Int) (w:World) (hs:s.size≤200) (hE:Env w) (ha:Lib.atoiAll s.data.toList=.ok v) (hi:¬ Lib.itoa v=s.data.toList) :
  Calls Tryz.prog 266 #[.string s] w fun e w'=>e=.returned (.tuple #[.int .i64 0,.bool false])∧Below w.heap.size w w':=by
 obtain⟨h0,h1⟩:=atoi_bd ha
 have HA:Hid (Lib.atoiAll s.data.toList=.ok v):=ha
 have heq:((itoaB v).toList == s.toList)=false:=by rw [toList_itoaB,ByteArray.toList_eq];exact beq_eq_false_iff_ne.2 hi
 clear ha hi
 go_enter Tryz.func266,Tryz.ntmps266
 go_wp2_with fail
 refine (atoi_yes s v _ hs HA.out).mono ?_
 rintro e w1 ⟨rfl,b1⟩
 have hE1:=hE.next b1
 go_wp2_with fail
 refine (itoa_any v _ h0 h1 hE1).mono ?_
 rintro e w2 ⟨rfl,b2⟩
 go_wp2_with fail
 go_ret2
 exact⟨rfl,bnext b1 b2 b1.size⟩
set_option maxHeartbeats 1000000 in
theorem readNumber_bad (s:ByteArray) (w:World) (hs:s.size≤200) (hE:Env w) (h:∀ v,Lib.atoiAll s.data.toList≠.ok v) :
  Calls Tryz.prog 266 #[.string s] w fun e w'=>e=.returned (.tuple #[.int .i64 0,.bool false])∧Below w.heap.size w w':=by
 have HA:Hid (∀ v,Lib.atoiAll s.data.toList≠.ok v):=h
 clear h
 go_enter Tryz.func266,Tryz.ntmps266
 go_wp2_with fail
 refine (atoi_no s _ hs HA.out hE).mono ?_
 rintro e w1 ⟨⟨m,N,rfl⟩,b1⟩
 go_wp2_with fail
 go_ret2
 exact⟨rfl,b1⟩
theorem readNumber_no (s:ByteArray) (w:World) (hs:s.size≤200) (hE:Env w) (h:numOf s=none) :
  Calls Tryz.prog 266 #[.string s] w fun e w'=>e=.returned (.tuple #[.int .i64 0,.bool false])∧Below w.heap.size w w':=by
 by_cases a:∃ v,Lib.atoiAll s.data.toList=.ok v
 ·obtain⟨v,hv⟩:=a
  refine readNumber_off s v w hs hE hv ?_
  intro e
  unfold numOf at h
  rw [hv] at h
  simp [e] at h
 ·exact readNumber_bad s w hs hE fun v e=>a ⟨v,e⟩
def badOf (s:ByteArray):Int :=
 if s.toList == [35,68,73,86,33] then 1 else if s.toList == [35,86,65,76,85,69,33] then 2 else if s.toList == [35,82,69,70,33] then 3 else if s.toList == [35,78,65,77,69,33] then 4 else if s.toList == [35,78,85,77,33] then 5 else if s.toList == [35,78,79,78,69,33] then 6 else 0
set_option maxHeartbeats 2000000 in
theorem readBad_0 (s:ByteArray) (w:World) (hE:Env w) (h0:(s.toList == [35,68,73,86,33])=true) :
  Calls Tryz.prog 269 #[.string s] w fun e w'=>e=.returned (.tuple #[.int .i64 1,.bool true])∧w'=w:=by
 obtain⟨c0,c1,c2,c3,c4,c5⟩:=hE.cell
 have i0:∀ w,(Instr.index 293 (.agg #[.string bt0,.string bt1,.string bt2,.string bt3,.string bt4,.string bt5]) (.int .i64 0)).run Tryz.prog w=.ok (.string bt0) w:=fun _=>by kernel_rfl
 have i1:∀ w,(Instr.index 293 (.agg #[.string bt0,.string bt1,.string bt2,.string bt3,.string bt4,.string bt5]) (.int .i64 1)).run Tryz.prog w=.ok (.string bt1) w:=fun _=>by kernel_rfl
 have i2:∀ w,(Instr.index 293 (.agg #[.string bt0,.string bt1,.string bt2,.string bt3,.string bt4,.string bt5]) (.int .i64 2)).run Tryz.prog w=.ok (.string bt2) w:=fun _=>by kernel_rfl
 have i3:∀ w,(Instr.index 293 (.agg #[.string bt0,.string bt1,.string bt2,.string bt3,.string bt4,.string bt5]) (.int .i64 3)).run Tryz.prog w=.ok (.string bt3) w:=fun _=>by kernel_rfl
 have i4:∀ w,(Instr.index 293 (.agg #[.string bt0,.string bt1,.string bt2,.string bt3,.string bt4,.string bt5]) (.int .i64 4)).run Tryz.prog w=.ok (.string bt4) w:=fun _=>by kernel_rfl
 have i5:∀ w,(Instr.index 293 (.agg #[.string bt0,.string bt1,.string bt2,.string bt3,.string bt4,.string bt5]) (.int .i64 5)).run Tryz.prog w=.ok (.string bt5) w:=fun _=>by kernel_rfl
 go_enter Tryz.func269,Tryz.ntmps269
 go_wp2_with fail
 refine wp_loop_rounds 7 ?_
 iterate 1 (rw [rounds_succ];go_wp2)
 go_ret2
 exact⟨rfl,rfl⟩
set_option maxHeartbeats 2000000 in
theorem readBad_1 (s:ByteArray) (w:World) (hE:Env w) (h0:(s.toList == [35,68,73,86,33])=false) (h1:(s.toList == [35,86,65,76,85,69,33])=true) :
  Calls Tryz.prog 269 #[.string s] w fun e w'=>e=.returned (.tuple #[.int .i64 2,.bool true])∧w'=w:=by
 obtain⟨c0,c1,c2,c3,c4,c5⟩:=hE.cell
 have i0:∀ w,(Instr.index 293 (.agg #[.string bt0,.string bt1,.string bt2,.string bt3,.string bt4,.string bt5]) (.int .i64 0)).run Tryz.prog w=.ok (.string bt0) w:=fun _=>by kernel_rfl
 have i1:∀ w,(Instr.index 293 (.agg #[.string bt0,.string bt1,.string bt2,.string bt3,.string bt4,.string bt5]) (.int .i64 1)).run Tryz.prog w=.ok (.string bt1) w:=fun _=>by kernel_rfl
 have i2:∀ w,(Instr.index 293 (.agg #[.string bt0,.string bt1,.string bt2,.string bt3,.string bt4,.string bt5]) (.int .i64 2)).run Tryz.prog w=.ok (.string bt2) w:=fun _=>by kernel_rfl
 have i3:∀ w,(Instr.index 293 (.agg #[.string bt0,.string bt1,.string bt2,.string bt3,.string bt4,.string bt5]) (.int .i64 3)).run Tryz.prog w=.ok (.string bt3) w:=fun _=>by kernel_rfl
 have i4:∀ w,(Instr.index 293 (.agg #[.string bt0,.string bt1,.string bt2,.string bt3,.string bt4,.string bt5]) (.int .i64 4)).run Tryz.prog w=.ok (.string bt4) w:=fun _=>by kernel_rfl
 have i5:∀ w,(Instr.index 293 (.agg #[.string bt0,.string bt1,.string bt2,.string bt3,.string bt4,.string bt5]) (.int .i64 5)).run Tryz.prog w=.ok (.string bt5) w:=fun _=>by kernel_rfl
 go_enter Tryz.func269,Tryz.ntmps269
 go_wp2_with fail
 refine wp_loop_rounds 7 ?_
 iterate 2 (rw [rounds_succ];go_wp2)
 go_ret2
 exact⟨rfl,rfl⟩
set_option maxHeartbeats 2000000 in
theorem readBad_2 (s:ByteArray) (w:World) (hE:Env w) (h0:(s.toList == [35,68,73,86,33])=false) (h1:(s.toList == [35,86,65,76,85,69,33])=false) (h2:(s.toList == [35,82,69,70,33])=true) :
  Calls Tryz.prog 269 #[.string s] w fun e w'=>e=.returned (.tuple #[.int .i64 3,.bool true])∧w'=w:=by
 obtain⟨c0,c1,c2,c3,c4,c5⟩:=hE.cell
 have i0:∀ w,(Instr.index 293 (.agg #[.string bt0,.string bt1,.string bt2,.string bt3,.string bt4,.string bt5]) (.int .i64 0)).run Tryz.prog w=.ok (.string bt0) w:=fun _=>by kernel_rfl
 have i1:∀ w,(Instr.index 293 (.agg #[.string bt0,.string bt1,.string bt2,.string bt3,.string bt4,.string bt5]) (.int .i64 1)).run Tryz.prog w=.ok (.string bt1) w:=fun _=>by kernel_rfl
 have i2:∀ w,(Instr.index 293 (.agg #[.string bt0,.string bt1,.string bt2,.string bt3,.string bt4,.string bt5]) (.int .i64 2)).run Tryz.prog w=.ok (.string bt2) w:=fun _=>by kernel_rfl
 have i3:∀ w,(Instr.index 293 (.agg #[.string bt0,.string bt1,.string bt2,.string bt3,.string bt4,.string bt5]) (.int .i64 3)).run Tryz.prog w=.ok (.string bt3) w:=fun _=>by kernel_rfl
 have i4:∀ w,(Instr.index 293 (.agg #[.string bt0,.string bt1,.string bt2,.string bt3,.string bt4,.string bt5]) (.int .i64 4)).run Tryz.prog w=.ok (.string bt4) w:=fun _=>by kernel_rfl
 have i5:∀ w,(Instr.index 293 (.agg #[.string bt0,.string bt1,.string bt2,.string bt3,.string bt4,.string bt5]) (.int .i64 5)).run Tryz.prog w=.ok (.string bt5) w:=fun _=>by kernel_rfl
 go_enter Tryz.func269,Tryz.ntmps269
 go_wp2_with fail
 refine wp_loop_rounds 7 ?_
 iterate 3 (rw [rounds_succ];go_wp2)
 go_ret2
 exact⟨rfl,rfl⟩
set_option maxHeartbeats 2000000 in
theorem readBad_3 (s:ByteArray) (w:World) (hE:Env w) (h0:(s.toList == [35,68,73,86,33])=false) (h1:(s.toList == [35,86,65,76,85,69,33])=false) (h2:(s.toList == [35,82,69,70,33])=false) (h3:(s.toList == [35,78,65,77,69,33])=true) :
  Calls Tryz.prog 269 #[.string s] w fun e w'=>e=.returned (.tuple #[.int .i64 4,.bool true])∧w'=w:=by
 obtain⟨c0,c1,c2,c3,c4,c5⟩:=hE.cell
 have i0:∀ w,(Instr.index 293 (.agg #[.string bt0,.string bt1,.string bt2,.string bt3,.string bt4,.string bt5]) (.int .i64 0)).run Tryz.prog w=.ok (.string bt0) w:=fun _=>by kernel_rfl
 have i1:∀ w,(Instr.index 293 (.agg #[.string bt0,.string bt1,.string bt2,.string bt3,.string bt4,.string bt5]) (.int .i64 1)).run Tryz.prog w=.ok (.string bt1) w:=fun _=>by kernel_rfl
 have i2:∀ w,(Instr.index 293 (.agg #[.string bt0,.string bt1,.string bt2,.string bt3,.string bt4,.string bt5]) (.int .i64 2)).run Tryz.prog w=.ok (.string bt2) w:=fun _=>by kernel_rfl
 have i3:∀ w,(Instr.index 293 (.agg #[.string bt0,.string bt1,.string bt2,.string bt3,.string bt4,.string bt5]) (.int .i64 3)).run Tryz.prog w=.ok (.string bt3) w:=fun _=>by kernel_rfl
 have i4:∀ w,(Instr.index 293 (.agg #[.string bt0,.string bt1,.string bt2,.string bt3,.string bt4,.string bt5]) (.int .i64 4)).run Tryz.prog w=.ok (.string bt4) w:=fun _=>by kernel_rfl
 have i5:∀ w,(Instr.index 293 (.agg #[.string bt0,.string bt1,.string bt2,.string bt3,.string bt4,.string bt5]) (.int .i64 5)).run Tryz.prog w=.ok (.string bt5) w:=fun _=>by kernel_rfl
 go_enter Tryz.func269,Tryz.ntmps269
 go_wp2_with fail
 refine wp_loop_rounds 7 ?_
 iterate 4 (rw [rounds_succ];go_wp2)
 go_ret2
 exact⟨rfl,rfl⟩
set_option maxHeartbeats 2000000 in
theorem readBad_4 (s:ByteArray) (w:World) (hE:Env w) (h0:(s.toList == [35,68,73,86,33])=false) (h1:(s.toList == [35,86,65,76,85,69,33])=false) (h2:(s.toList == [35,82,69,70,33])=false) (h3:(s.toList == [35,78,65,77,69,33])=false) (h4:(s.toList == [35,78,85,77,33])=true) :
  Calls Tryz.prog 269 #[.string s] w fun e w'=>e=.returned (.tuple #[.int .i64 5,.bool true])∧w'=w:=by
 obtain⟨c0,c1,c2,c3,c4,c5⟩:=hE.cell
 have i0:∀ w,(Instr.index 293 (.agg #[.string bt0,.string bt1,.string bt2,.string bt3,.string bt4,.string bt5]) (.int .i64 0)).run Tryz.prog w=.ok (.string bt0) w:=fun _=>by kernel_rfl
 have i1:∀ w,(Instr.index 293 (.agg #[.string bt0,.string bt1,.string bt2,.string bt3,.string bt4,.string bt5]) (.int .i64 1)).run Tryz.prog w=.ok (.string bt1) w:=fun _=>by kernel_rfl
 have i2:∀ w,(Instr.index 293 (.agg #[.string bt0,.string bt1,.string bt2,.string bt3,.string bt4,.string bt5]) (.int .i64 2)).run Tryz.prog w=.ok (.string bt2) w:=fun _=>by kernel_rfl
 have i3:∀ w,(Instr.index 293 (.agg #[.string bt0,.string bt1,.string bt2,.string bt3,.string bt4,.string bt5]) (.int .i64 3)).run Tryz.prog w=.ok (.string bt3) w:=fun _=>by kernel_rfl
 have i4:∀ w,(Instr.index 293 (.agg #[.string bt0,.string bt1,.string bt2,.string bt3,.string bt4,.string bt5]) (.int .i64 4)).run Tryz.prog w=.ok (.string bt4) w:=fun _=>by kernel_rfl
 have i5:∀ w,(Instr.index 293 (.agg #[.string bt0,.string bt1,.string bt2,.string bt3,.string bt4,.string bt5]) (.int .i64 5)).run Tryz.prog w=.ok (.string bt5) w:=fun _=>by kernel_rfl
 go_enter Tryz.func269,Tryz.ntmps269
 go_wp2_with fail
 refine wp_loop_rounds 7 ?_
 iterate 5 (rw [rounds_succ];go_wp2)
 go_ret2
 exact⟨rfl,rfl⟩
set_option maxHeartbeats 2000000 in
theorem readBad_5 (s:ByteArray) (w:World) (hE:Env w) (h0:(s.toList == [35,68,73,86,33])=false) (h1:(s.toList == [35,86,65,76,85,69,33])=false) (h2:(s.toList == [35,82,69,70,33])=false) (h3:(s.toList == [35,78,65,77,69,33])=false) (h4:(s.toList == [35,78,85,77,33])=false) (h5:(s.toList == [35,78,79,78,69,33])=true) :
  Calls Tryz.prog 269 #[.string s] w fun e w'=>e=.returned (.tuple #[.int .i64 6,.bool true])∧w'=w:=by
 obtain⟨c0,c1,c2,c3,c4,c5⟩:=hE.cell
 have i0:∀ w,(Instr.index 293 (.agg #[.string bt0,.string bt1,.string bt2,.string bt3,.string bt4,.string bt5]) (.int .i64 0)).run Tryz.prog w=.ok (.string bt0) w:=fun _=>by kernel_rfl
 have i1:∀ w,(Instr.index 293 (.agg #[.string bt0,.string bt1,.string bt2,.string bt3,.string bt4,.string bt5]) (.int .i64 1)).run Tryz.prog w=.ok (.string bt1) w:=fun _=>by kernel_rfl
 have i2:∀ w,(Instr.index 293 (.agg #[.string bt0,.string bt1,.string bt2,.string bt3,.string bt4,.string bt5]) (.int .i64 2)).run Tryz.prog w=.ok (.string bt2) w:=fun _=>by kernel_rfl
 have i3:∀ w,(Instr.index 293 (.agg #[.string bt0,.string bt1,.string bt2,.string bt3,.string bt4,.string bt5]) (.int .i64 3)).run Tryz.prog w=.ok (.string bt3) w:=fun _=>by kernel_rfl
 have i4:∀ w,(Instr.index 293 (.agg #[.string bt0,.string bt1,.string bt2,.string bt3,.string bt4,.string bt5]) (.int .i64 4)).run Tryz.prog w=.ok (.string bt4) w:=fun _=>by kernel_rfl
 have i5:∀ w,(Instr.index 293 (.agg #[.string bt0,.string bt1,.string bt2,.string bt3,.string bt4,.string bt5]) (.int .i64 5)).run Tryz.prog w=.ok (.string bt5) w:=fun _=>by kernel_rfl
 go_enter Tryz.func269,Tryz.ntmps269
 go_wp2_with fail
 refine wp_loop_rounds 7 ?_
 iterate 6 (rw [rounds_succ];go_wp2)
 go_ret2
 exact⟨rfl,rfl⟩
set_option maxHeartbeats 2000000 in
theorem readBad_6 (s:ByteArray) (w:World) (hE:Env w) (h0:(s.toList == [35,68,73,86,33])=false) (h1:(s.toList == [35,86,65,76,85,69,33])=false) (h2:(s.toList == [35,82,69,70,33])=false) (h3:(s.toList == [35,78,65,77,69,33])=false) (h4:(s.toList == [35,78,85,77,33])=false) (h5:(s.toList == [35,78,79,78,69,33])=false) :
  Calls Tryz.prog 269 #[.string s] w fun e w'=>e=.returned (.tuple #[.int .i64 0,.bool false])∧w'=w:=by
 obtain⟨c0,c1,c2,c3,c4,c5⟩:=hE.cell
 have i0:∀ w,(Instr.index 293 (.agg #[.string bt0,.string bt1,.string bt2,.string bt3,.string bt4,.string bt5]) (.int .i64 0)).run Tryz.prog w=.ok (.string bt0) w:=fun _=>by kernel_rfl
 have i1:∀ w,(Instr.index 293 (.agg #[.string bt0,.string bt1,.string bt2,.string bt3,.string bt4,.string bt5]) (.int .i64 1)).run Tryz.prog w=.ok (.string bt1) w:=fun _=>by kernel_rfl
 have i2:∀ w,(Instr.index 293 (.agg #[.string bt0,.string bt1,.string bt2,.string bt3,.string bt4,.string bt5]) (.int .i64 2)).run Tryz.prog w=.ok (.string bt2) w:=fun _=>by kernel_rfl
 have i3:∀ w,(Instr.index 293 (.agg #[.string bt0,.string bt1,.string bt2,.string bt3,.string bt4,.string bt5]) (.int .i64 3)).run Tryz.prog w=.ok (.string bt3) w:=fun _=>by kernel_rfl
 have i4:∀ w,(Instr.index 293 (.agg #[.string bt0,.string bt1,.string bt2,.string bt3,.string bt4,.string bt5]) (.int .i64 4)).run Tryz.prog w=.ok (.string bt4) w:=fun _=>by kernel_rfl
 have i5:∀ w,(Instr.index 293 (.agg #[.string bt0,.string bt1,.string bt2,.string bt3,.string bt4,.string bt5]) (.int .i64 5)).run Tryz.prog w=.ok (.string bt5) w:=fun _=>by kernel_rfl
 go_enter Tryz.func269,Tryz.ntmps269
 go_wp2_with fail
 refine wp_loop_rounds 7 ?_
 iterate 7 (rw [rounds_succ];go_wp2)
 go_ret2
 exact⟨rfl,rfl⟩
theorem readBad_any (s:ByteArray) (w:World) (hE:Env w) :
  Calls Tryz.prog 269 #[.string s] w fun e w'=>e=.returned (.tuple #[.int .i64 (badOf s),.bool (badOf s != 0)])∧w'=w:=by
 unfold badOf
 cases h0:s.toList == [35,68,73,86,33]
 case true =>
  rw [if_pos rfl]
  exact readBad_0 s w hE h0
 cases h1:s.toList == [35,86,65,76,85,69,33]
 case true =>
  rw [if_neg Bool.false_ne_true,if_pos rfl]
  exact readBad_1 s w hE h0 h1
 cases h2:s.toList == [35,82,69,70,33]
 case true =>
  rw [if_neg Bool.false_ne_true,if_neg Bool.false_ne_true,if_pos rfl]
  exact readBad_2 s w hE h0 h1 h2
 cases h3:s.toList == [35,78,65,77,69,33]
 case true =>
  rw [if_neg Bool.false_ne_true,if_neg Bool.false_ne_true,if_neg Bool.false_ne_true,if_pos rfl]
  exact readBad_3 s w hE h0 h1 h2 h3
 cases h4:s.toList == [35,78,85,77,33]
 case true =>
  rw [if_neg Bool.false_ne_true,if_neg Bool.false_ne_true,if_neg Bool.false_ne_true,if_neg Bool.false_ne_true,if_pos rfl]
  exact readBad_4 s w hE h0 h1 h2 h3 h4
 cases h5:s.toList == [35,78,79,78,69,33]
 case true =>
  rw [if_neg Bool.false_ne_true,if_neg Bool.false_ne_true,if_neg Bool.false_ne_true,if_neg Bool.false_ne_true,if_neg Bool.false_ne_true,if_pos rfl]
  exact readBad_5 s w hE h0 h1 h2 h3 h4 h5
 simp only [Bool.false_eq_true,if_false]
 exact readBad_6 s w hE h0 h1 h2 h3 h4 h5
abbrev tT:ByteArray:=⟨#[84,82,85,69]⟩
abbrev tF:ByteArray:=⟨#[70,65,76,83,69]⟩
def truText (n:Int):ByteArray:=if n=0 then tF else tT
def badText (n:Int):ByteArray:=if n=1 then bt0 else if n=2 then bt1 else if n=3 then bt2 else if n=4 then bt3 else if n=5 then bt4 else if n=6 then bt5 else nul
def sh (k n:Int) (s:ByteArray):ByteArray :=
 if k=1 then itoaB n else if k=2 then s else if k=3 then truText n else if k=4 then badText n else nul
theorem showTruth_any (n:Int) (w:World) :
  Calls Tryz.prog 227 #[.int .i64 n] w fun e w'=>e=.returned (.string (truText n))∧w'=w:=by
 by_cases h:n=0
 ·have b:(n == 0)=true:=beq_iff_eq.2 h
  rw [show truText n=tF from if_pos h]
  clear h
  go_enter Tryz.func227,Tryz.ntmps227
  go_wp2
  go_ret
  exact⟨rfl,rfl⟩
 ·have b:(n == 0)=false:=beq_eq_false_iff_ne.2 h
  rw [show truText n=tT from if_neg h]
  clear h
  go_enter Tryz.func227,Tryz.ntmps227
  go_wp2
  go_ret
  exact⟨rfl,rfl⟩
theorem showBad_1 (w:World) (hE:Env w) :
  Calls Tryz.prog 228 #[.int .i64 1] w fun e w'=>e=.returned (.string bt0)∧w'=w:=by
 obtain⟨c0,c1,c2,c3,c4,c5⟩:=hE.cell
 go_enter Tryz.func228,Tryz.ntmps228
 go_wp2_with (go_at_call 245;refine (isBadNum_any _ _).mono ?_;rintro e w' ⟨rfl,rfl⟩)
 go_ret
 exact⟨rfl,rfl⟩
theorem showBad_2 (w:World) (hE:Env w) :
  Calls Tryz.prog 228 #[.int .i64 2] w fun e w'=>e=.returned (.string bt1)∧w'=w:=by
 obtain⟨c0,c1,c2,c3,c4,c5⟩:=hE.cell
 go_enter Tryz.func228,Tryz.ntmps228
 go_wp2_with (go_at_call 245;refine (isBadNum_any _ _).mono ?_;rintro e w' ⟨rfl,rfl⟩)
 go_ret
 exact⟨rfl,rfl⟩
theorem showBad_3 (w:World) (hE:Env w) :
  Calls Tryz.prog 228 #[.int .i64 3] w fun e w'=>e=.returned (.string bt2)∧w'=w:=by
 obtain⟨c0,c1,c2,c3,c4,c5⟩:=hE.cell
 go_enter Tryz.func228,Tryz.ntmps228
 go_wp2_with (go_at_call 245;refine (isBadNum_any _ _).mono ?_;rintro e w' ⟨rfl,rfl⟩)
 go_ret
 exact⟨rfl,rfl⟩
theorem showBad_4 (w:World) (hE:Env w) :
  Calls Tryz.prog 228 #[.int .i64 4] w fun e w'=>e=.returned (.string bt3)∧w'=w:=by
 obtain⟨c0,c1,c2,c3,c4,c5⟩:=hE.cell
 go_enter Tryz.func228,Tryz.ntmps228
 go_wp2_with (go_at_call 245;refine (isBadNum_any _ _).mono ?_;rintro e w' ⟨rfl,rfl⟩)
 go_ret
 exact⟨rfl,rfl⟩
theorem showBad_5 (w:World) (hE:Env w) :
  Calls Tryz.prog 228 #[.int .i64 5] w fun e w'=>e=.returned (.string bt4)∧w'=w:=by
 obtain⟨c0,c1,c2,c3,c4,c5⟩:=hE.cell
 go_enter Tryz.func228,Tryz.ntmps228
 go_wp2_with (go_at_call 245;refine (isBadNum_any _ _).mono ?_;rintro e w' ⟨rfl,rfl⟩)
 go_ret
 exact⟨rfl,rfl⟩
theorem showBad_6 (w:World) (hE:Env w) :
  Calls Tryz.prog 228 #[.int .i64 6] w fun e w'=>e=.returned (.string bt5)∧w'=w:=by
 obtain⟨c0,c1,c2,c3,c4,c5⟩:=hE.cell
 go_enter Tryz.func228,Tryz.ntmps228
 go_wp2_with (go_at_call 245;refine (isBadNum_any _ _).mono ?_;rintro e w' ⟨rfl,rfl⟩)
 go_ret
 exact⟨rfl,rfl⟩
theorem showBad_none (n:Int) (w:World) (h:n<1∨6<n) :
  Calls Tryz.prog 228 #[.int .i64 n] w fun e w'=>e=.returned (.string nul)∧w'=w:=by
 have hb:(decide (1≤n) && decide (n≤6))=false:=by
  rw [Bool.eq_false_iff];intro e;simp at e;omega
 have HB:Hid ((decide (1≤n) && decide (n≤6))=false):=hb
 clear h hb
 go_enter Tryz.func228,Tryz.ntmps228
 go_wp2_with fail
 refine (isBadNum_any _ _).mono ?_
 rintro e w' ⟨rfl,rfl⟩
 rw [HB.out]
 go_wp2
 go_ret
 exact⟨rfl,rfl⟩
theorem showBad_any (n:Int) (w:World) (hE:Env w) :
  Calls Tryz.prog 228 #[.int .i64 n] w fun e w'=>e=.returned (.string (badText n))∧w'=w:=by
 unfold badText
 by_cases h0:n=1
 ·rw [if_pos h0,h0]
  exact showBad_1 w hE
 by_cases h1:n=2
 ·rw [if_neg h0,if_pos h1,h1]
  exact showBad_2 w hE
 by_cases h2:n=3
 ·rw [if_neg h0,if_neg h1,if_pos h2,h2]
  exact showBad_3 w hE
 by_cases h3:n=4
 ·rw [if_neg h0,if_neg h1,if_neg h2,if_pos h3,h3]
  exact showBad_4 w hE
 by_cases h4:n=5
 ·rw [if_neg h0,if_neg h1,if_neg h2,if_neg h3,if_pos h4,h4]
  exact showBad_5 w hE
 by_cases h5:n=6
 ·rw [if_neg h0,if_neg h1,if_neg h2,if_neg h3,if_neg h4,if_pos h5,h5]
  exact showBad_6 w hE
 rw [if_neg h0,if_neg h1,if_neg h2,if_neg h3,if_neg h4,if_neg h5]
 exact showBad_none n w (by omega)
set_option maxHeartbeats 1000000 in
theorem show_num (k n:Int) (s:ByteArray) (w:World) (hk:(k == 1)=true) (h0:-9223372036854775808≤n) (h1:n≤9223372036854775807) (hE:Env w) :
  Calls Tryz.prog 209 #[V k n s] w fun e w'=>e=.returned (.string (itoaB n))∧Below w.heap.size w w':=by
 go_enter Tryz.func209,Tryz.ntmps209
 go_wp2_with fail
 refine (itoa_any n _ h0 h1 (hE.alloc _)).mono ?_
 rintro e w1 ⟨rfl,b1⟩
 go_wp2_with fail
 go_ret
 exact⟨rfl,bnext ((Below.refl _ _).alloc (Nat.le_refl _) _) b1 (by simp)⟩
set_option maxHeartbeats 1000000 in
theorem show_txt (k n:Int) (s:ByteArray) (w:World) (h1:(k == 1)=false) (h2:(k == 2)=true) :
  Calls Tryz.prog 209 #[V k n s] w fun e w'=>e=.returned (.string s)∧Below w.heap.size w w':=by
 go_enter Tryz.func209,Tryz.ntmps209
 go_wp2
 go_ret
 exact⟨rfl,(Below.refl _ _).alloc (Nat.le_refl _) _⟩
set_option maxHeartbeats 1000000 in
theorem show_tru (k n:Int) (s:ByteArray) (w:World) (h1:(k == 1)=false) (h2:(k == 2)=false) (h3:(k == 3)=true) :
  Calls Tryz.prog 209 #[V k n s] w fun e w'=>e=.returned (.string (truText n))∧Below w.heap.size w w':=by
 go_enter Tryz.func209,Tryz.ntmps209
 go_wp2_with fail
 refine (showTruth_any _ _).mono ?_
 rintro e w1 ⟨rfl,rfl⟩
 go_wp2_with fail
 go_ret
 exact⟨rfl,(Below.refl _ _).alloc (Nat.le_refl _) _⟩
set_option maxHeartbeats 1000000 in
theorem show_bad (k n:Int) (s:ByteArray) (w:World) (h1:(k == 1)=false) (h2:(k == 2)=false) (h3:(k == 3)=false) (h4:(k == 4)=true) (hE:Env w) :
  Calls Tryz.prog 209 #[V k n s] w fun e w'=>e=.returned (.string (badText n))∧Below w.heap.size w w':=by
 go_enter Tryz.func209,Tryz.ntmps209
 go_wp2_with fail
 refine (showBad_any _ _ (hE.alloc _)).mono ?_
 rintro e w1 ⟨rfl,rfl⟩
 go_wp2_with fail
 go_ret
 exact⟨rfl,(Below.refl _ _).alloc (Nat.le_refl _) _⟩
set_option maxHeartbeats 1000000 in
theorem show_none (k n:Int) (s:ByteArray) (w:World) (h1:(k == 1)=false) (h2:(k == 2)=false) (h3:(k == 3)=false) (h4:(k == 4)=false) :
  Calls Tryz.prog 209 #[V k n s] w fun e w'=>e=.returned (.string nul)∧Below w.heap.size w w':=by
 go_enter Tryz.func209,Tryz.ntmps209
 go_wp2
 go_ret
 exact⟨rfl,(Below.refl _ _).alloc (Nat.le_refl _) _⟩
theorem show_any (k n:Int) (s:ByteArray) (w:World) (hE:Env w) (h0:-9223372036854775808≤n) (h1:n≤9223372036854775807) :
  Calls Tryz.prog 209 #[V k n s] w fun e w'=>e=.returned (.string (sh k n s))∧Below w.heap.size w w':=by
 unfold sh
 by_cases k1:k=1
 ·rw [if_pos k1];exact show_num k n s w (beq_iff_eq.2 k1) h0 h1 hE
 by_cases k2:k=2
 ·rw [if_neg k1,if_pos k2];exact show_txt k n s w (beq_eq_false_iff_ne.2 k1) (beq_iff_eq.2 k2)
 by_cases k3:k=3
 ·rw [if_neg k1,if_neg k2,if_pos k3];exact show_tru k n s w (beq_eq_false_iff_ne.2 k1) (beq_eq_false_iff_ne.2 k2) (beq_iff_eq.2 k3)
 by_cases k4:k=4
 ·rw [if_neg k1,if_neg k2,if_neg k3,if_pos k4];exact show_bad k n s w (beq_eq_false_iff_ne.2 k1) (beq_eq_false_iff_ne.2 k2) (beq_eq_false_iff_ne.2 k3) (beq_iff_eq.2 k4) hE
 rw [if_neg k1,if_neg k2,if_neg k3,if_neg k4]
 exact show_none k n s w (beq_eq_false_iff_ne.2 k1) (beq_eq_false_iff_ne.2 k2) (beq_eq_false_iff_ne.2 k3) (beq_eq_false_iff_ne.2 k4)
end Go.Proofs.YtgifkepklnhddaaGreatDoor

import Derived.Test.YtgifkepklnhddaaGreatDoorQ7Fx
import Derived.Shelf.Strings.BuilderK
import Derived.Lib.SmallJoins
namespace Go.Proofs.YtgifkepklnhddaaGreatDoor.fm
open Go.RowKit
def WB (w:World) (B wb:Nat) (x:List UInt8) (d m:Nat):Prop :=
 B≤wb∧∃ p v,(p=.pointer none∨p=ptr wb)∧w.heap[wb]?=some (.cells #[p,v,.int .i64 (d:Nat),.int .i64 (m:Nat)] 207 (0,0))∧w.ownsRowF B 5 1 v x.length (Lib.byteCells x)
structure Kw (B wb:Nat) (w w':World):Prop where
 b:Below B w w'
 o:Lib.OthersKept 5 (some wb) w w'
theorem Kw.refl (B wb:Nat) (w:World):Kw B wb w w:=⟨Below.refl _ _,Lib.OthersKept.refl _ _ _⟩
theorem Kw.trans {B wb:Nat} {a b c:World} (h:Kw B wb a b) (k:Kw B wb b c):Kw B wb a c:=⟨h.b.trans k.b,h.o.trans k.o⟩
theorem Kw.drew {B wb:Nat} {a b:World} (h:Kw B wb a b):Kw B wb a b.drew:=⟨h.b.drew,h.o.drew⟩
theorem Kw.set {B wb:Nat} {a b:World} (h:Kw B wb a b) (hB:B≤wb) (o:Nat) (v:Value):Kw B wb a (b.setCell ⟨wb,o,none⟩ v):=⟨h.b.setCell (p:=⟨wb,o,none⟩) hB v,h.o.setCell ⟨wb,o,none⟩ rfl v⟩
theorem Kw.alloc {B wb:Nat} {a b:World} (h:Kw B wb a b) (hB:B≤b.heap.size) (o:Obj):Kw B wb a (b.alloc o):=⟨h.b.alloc hB o,h.o.alloc o⟩
theorem cells4w {w:World} {b:Nat} {a0 a1 a2 a3:Value} {t:TypeId} (h:w.heap[b]?=some (.cells #[a0,a1,a2,a3] t (0,0))) :
  (w.cell? ⟨b,0,none⟩=some a0∧w.cell? ⟨b,1,none⟩=some a1∧w.cell? ⟨b,2,none⟩=some a2∧w.cell? ⟨b,3,none⟩=some a3)∧∀ o,w.frozen? ⟨b,o,none⟩=false:=by
 refine⟨by simp [World.cell?,h],fun o=>by simp [World.frozen?,h]⟩
theorem info86a:(Tryz.prog.info? 205).map (fun i=>i.size)=some 2:=by kernel_rfl
theorem info5a:(Tryz.prog.info? 5).map (fun i=>(i.zero,i.size,i.bytes))=some (some (.int .u8 0),1,1):=by kernel_rfl
theorem lies86:liesAt Tryz.prog Tryz.prog.depth 207 (4 / Tryz.prog.cellsOf 207) 0 205 1=true:=by kernel_rfl
set_option maxRecDepth 100000 in
theorem copy_used (wb:Nat) (w:World) (h0:w.cell? ⟨wb,0,none⟩=some (ptr wb)) :
  Calls Tryz.prog 180 #[ptr wb] w fun e w'=>e=.returned (.tuple #[])∧w'=w:=by
 obtain⟨j,hj,_⟩:=Option.map_eq_some_iff.1 info86a
 go_enter Tryz.func180,Tryz.ntmps180
 go_wp2
 rw [Lib.run_neq_ptr_same w _ Tryz.underlying203 hj]
 go_wp2
 go_end0
 exact⟨rfl,rfl⟩
set_option maxRecDepth 100000 in
theorem copy_fresh (wb:Nat) (w:World) (h0:w.cell? ⟨wb,0,none⟩=some (.pointer none)) (hsh:w.shape? wb=some (207,4)) (hfz:w.frozen? ⟨wb,0,none⟩=false) :
  Calls Tryz.prog 180 #[ptr wb] w fun e w'=>e=.returned (.tuple #[])∧w'=w.setCell ⟨wb,0,none⟩ (ptr wb):=by
 obtain⟨j,hj,hjs⟩:=Option.map_eq_some_iff.1 info86a
 go_enter Tryz.func180,Tryz.ntmps180
 go_wp2
 rw [Lib.run_to_unsafe w ⟨wb,0,none⟩ Tryz.underlying203 Tryz.underlying173 hj (by rw [hjs];decide) hsh (Nat.zero_lt_succ 3)]
 simp only [Result.andThen]
 rw [Oper.upon_value]
 go_wp2
 rw [run_callFunc_extern Tryz.func205 (by kernel_rfl) (by kernel_rfl) (by kernel_rfl) (e:=Extern.AbiNoEscape.same) (by kernel_rfl)]
 rw [Lib.run_noEscape]
 simp only [Result.andThen]
 rw [Oper.upon_value]
 go_wp2
 rw [Lib.run_from_unsafe w ⟨wb,0,none⟩ Tryz.underlying173 Tryz.underlying203 hj hsh lies86]
 simp only [Result.andThen]
 rw [Oper.upon_value]
 go_wp2
 go_end0
 exact⟨rfl,rfl⟩
def WU (w:World) (B wb:Nat) (x:List UInt8) (d m:Nat):Prop :=
 B≤wb∧∃ v,w.heap[wb]?=some (.cells #[ptr wb,v,.int .i64 (d:Nat),.int .i64 (m:Nat)] 207 (0,0))∧w.ownsRowF B 5 1 v x.length (Lib.byteCells x)
theorem WU.wb {w:World} {B wb:Nat} {x:List UInt8} {d m:Nat} (h:WU w B wb x d m):WB w B wb x d m:=by
 obtain⟨hB,v,h1,h2⟩:=h
 exact⟨hB,_,v,.inr rfl,h1,h2⟩
theorem grown_set (w:World) (b o:Nat) (u:Value):w.grownBy (w.setCell ⟨b,o,none⟩ u) (some b):=⟨rfl,rfl,rfl,by simp [World.setCell],fun k _ hk=>Below.heap_setCell _ _ _ _ (fun e=>hk (by simp [e]))⟩
theorem own_set {w:World} {B wb n:Nat} {v u:Value} {xs:List Value} {cs:Array Value} {fr:Nat×Nat} (h:w.ownsRowF B 5 1 v n xs) (hb:w.heap[wb]?=some (.cells cs 207 fr)) (o:Nat):(w.setCell ⟨wb,o,none⟩ u).ownsRowF B 5 1 v n xs :=
 h.kept (grown_set w wb o u) (.inr (Lib.ownBlock_neF h hb (by decide)))
theorem WB.lt {w:World} {B wb:Nat} {x:List UInt8} {d m:Nat} (h:WB w B wb x d m):wb<w.heap.size:=by
 obtain⟨hB,p,v,hp,h1,h2⟩:=h
 exact lt_blk h1
theorem WB.ge {w:World} {B wb:Nat} {x:List UInt8} {d m:Nat} (h:WB w B wb x d m):B≤wb:=h.1
theorem WB.alloc {w:World} {B wb:Nat} {x:List UInt8} {d m:Nat} (h:WB w B wb x d m) (o:Obj):WB (w.alloc o) B wb x d m:=by
 have hl:=h.lt
 obtain⟨hB,p,v,hp,h1,h2⟩:=h
 exact⟨hB,p,v,hp,by rw [Lib.alloc_old w o wb hl];exact h1,h2.kept (World.grownBy_alloc w o none) (by cases hv:v.ownBlock<;>simp)⟩
theorem WB.drew {w:World} {B wb:Nat} {x:List UInt8} {d m:Nat} (h:WB w B wb x d m):WB w.drew B wb x d m:=h
theorem WB.setD {w:World} {B wb:Nat} {x:List UInt8} {d m:Nat} (h:WB w B wb x d m) (d':Nat):WB (w.setCell ⟨wb,2,none⟩ (.int .i64 (d':Nat))) B wb x d' m:=by
 obtain⟨hB,p,v,hp,h1,h2⟩:=h
 exact⟨hB,p,v,hp,by rw [blk_set h1];rfl,own_set h2 h1 2⟩
theorem WB.setM {w:World} {B wb:Nat} {x:List UInt8} {d m:Nat} (h:WB w B wb x d m) (m':Nat):WB (w.setCell ⟨wb,3,none⟩ (.int .i64 (m':Nat))) B wb x d m':=by
 obtain⟨hB,p,v,hp,h1,h2⟩:=h
 exact⟨hB,p,v,hp,by rw [blk_set h1];rfl,own_set h2 h1 3⟩
theorem WB.cells {w:World} {B wb:Nat} {x:List UInt8} {d m:Nat} (h:WB w B wb x d m):(w.cell? ⟨wb,2,none⟩=some (.int .i64 (d:Nat))∧w.cell? ⟨wb,3,none⟩=some (.int .i64 (m:Nat)))∧w.frozen? ⟨wb,2,none⟩=false∧w.frozen? ⟨wb,3,none⟩=false:=by
 obtain⟨hB,p,v,hp,h1,h2⟩:=h
 obtain⟨⟨_,_,c2,c3⟩,f⟩:=cells4w h1
 exact⟨⟨c2,c3⟩,f 2,f 3⟩
theorem copy_any (B wb:Nat) (x:List UInt8) (d m:Nat) (w:World) (h:WB w B wb x d m) :
  Calls Tryz.prog 180 #[ptr wb] w fun e w'=>e=.returned (.tuple #[])∧WU w' B wb x d m∧Kw B wb w w':=by
 obtain⟨hB,p,v,hp,h1,h2⟩:=h
 obtain⟨⟨c0,c1,c2,c3⟩,f⟩:=cells4w h1
 rcases hp with rfl | rfl
 ·refine (copy_fresh wb w c0 (by simp [World.shape?,h1]) (f 0)).mono ?_
  rintro e w' ⟨rfl,rfl⟩
  exact⟨rfl,⟨hB,v,by rw [blk_set h1];rfl,own_set h2 h1 0⟩,(Kw.refl _ _ _).set hB 0 _⟩
 ·refine (copy_used wb w c0).mono ?_
  rintro e w' ⟨rfl,rfl⟩
  exact⟨rfl,⟨hB,v,h1,h2⟩,Kw.refl _ _ _⟩
theorem strCells_bytes (s:ByteArray):Lib.strCells s=Lib.byteCells s.data.toList:=by
 rfl
set_option maxHeartbeats 2000000 in
set_option maxRecDepth 100000 in
theorem write_any (B wb:Nat) (x:List UInt8) (d m:Nat) (s:ByteArray) (w:World) (h:WB w B wb x d m) (hlen:x.length+s.size≤140737488355328) (hBw:B≤w.heap.size) :
  Calls Tryz.prog 151 #[ptr wb,.string s] w fun e w'=>e=.returned (.tuple #[.int .i64 s.size,.nilIface])∧WB w' B wb (x++s.data.toList) d m∧Kw B wb w w':=by
 obtain⟨i0,hi,hz0,hz1,hz2⟩:=info_parts info5a
 have HC:=copy_any B wb x d m w h
 clear h
 go_enter Tryz.func151,Tryz.ntmps151
 go_wp2_with fail
 refine HC.mono ?_
 clear HC
 rintro e w1 ⟨rfl,⟨hB,v,hbk,hown⟩,hk1⟩
 obtain⟨⟨c0,c1,c2,c3⟩,cf⟩:=cells4w hbk
 clear c2 c3 cf
 go_wp2_with (at_builtin;refine Lib.wpList_append_own_stringF _ rfl _ _ 155 9 rfl B 5 i0 Tryz.underlying155 Tryz.underlying9 hi hz0 hz1 hz2 _ _ _ rfl hown s rfl ?c3 ?c4 ?c5 ?_)
 case c3=>unfold maxLen;omega
 case c4=>omega
 case c5=>have:=hk1.b.size;omega
 intro v' w2 hown' hgrow _
 have hne:=Lib.ownBlock_neF hown hbk (by decide)
 have hb2:w2.heap[wb]?=some (.cells #[ptr wb,v,.int .i64 (d:Nat),.int .i64 (m:Nat)] 207 (0,0)):=by
  rw [hgrow.block wb (lt_blk hbk) (fun e=>hne e.symm)]
  exact hbk
 clear c0 c1
 obtain⟨⟨c0,c1,c2,c3⟩,cf⟩:=cells4w hb2
 have f1:=cf 1
 clear cf c2 c3
 obtain⟨ao,n',cap,rfl⟩:∃ ao n' cap,v'=.slice ao n' cap:=by
  rcases hown'.2 with ⟨hv,_⟩ | ⟨g,cap,cur,fz,hv,_⟩
  ·exact⟨_,_,_,hv⟩
  ·exact⟨_,_,_,hv⟩
 go_wp2
 go_ret2
 refine⟨rfl,⟨hB,_,_,.inr rfl,by rw [blk_set hb2];rfl,?_⟩,?_,?_⟩
 ·have:(w2.setCell ⟨wb,1,none⟩ (.slice ao n' cap)).ownsRowF B 5 1 (.slice ao n' cap) (x.length+s.size) (Lib.byteCells x++Lib.strCells s):=own_set hown' hb2 1
  rw [strCells_bytes] at this
  simpa [Lib.byteCells] using this
 ·exact (hk1.b.grown hgrow (by have:=hk1.b.size;omega) (fun k hk=>(hown.lt k hk).1)).setCell (p:=⟨wb,1,none⟩) hB _
 ·exact (hk1.o.grown hgrow (Lib.ownsRowF_kind hown)).setCell ⟨wb,1,none⟩ rfl _
theorem freeze_other (w:World) (g n k:Nat) (h:k≠g):(w.freeze ⟨g,0,none⟩ n).heap[k]?=w.heap[k]?:=by
 unfold World.freeze
 split
 ·rfl
 ·simp [Array.getElem?_modify,Ne.symm h]
theorem cells5:Tryz.prog.cellsOf 5=1:=by kernel_rfl
set_option maxHeartbeats 2000000 in
set_option maxRecDepth 100000 in
theorem string_any (B wb:Nat) (x:List UInt8) (d m:Nat) (w:World) (h:WB w B wb x d m) (h0:x≠[]) :
  Calls Tryz.prog 153 #[ptr wb] w fun e w'=>e=.returned (.string ⟨x.toArray⟩)∧w'.heap[wb]?=w.heap[wb]?∧Below B w w':=by
 obtain⟨hB,p,v,hp,hbk,hown⟩:=h
 have hl0:x.length≠0:=by simpa using h0
 have hne:=Lib.ownBlock_neF hown hbk (by decide)
 obtain⟨g,cap,cur,fz,rfl,hbg,hg,hfz,hnc,hcm,hcs,htake⟩:∃ g cap cur fz,v=.slice (some ⟨g,0,none⟩) x.length cap∧B≤g∧w.heap[g]?=some (.cells cur 5 fz)∧fz.2≤x.length*1∧x.length≤cap∧cap≤maxLen∧cur.size=cap*1∧cur.toList.take (x.length*1)=Lib.byteCells x:=by
  rcases hown.2 with ⟨_,hz⟩ | ⟨g,cap,cur,fz,hv,r⟩
  ·exact absurd hz hl0
  ·exact⟨g,cap,cur,fz,hv,r⟩
 have hgne:wb≠g:=fun e=>hne (by rw [e];rfl)
 have c1:w.drew.cell? ⟨wb,1,none⟩=some (.slice (some ⟨g,0,none⟩) x.length cap):=(cells4w (w:=w.drew) hbk).1.2.1
 have hSD:(Builtin.unsafeSliceData_ #[155] 253 #[.slice (some ⟨g,0,none⟩) x.length cap]).run Tryz.prog w.drew=.ok (.pointer (some ⟨g,0,none⟩)) w.drew :=
  Lib.run_unsafeSliceData_row _ _ _ _ _ _ (by omega)
 have hUS:(Builtin.unsafeString_ #[253,3] 9 #[.pointer (some ⟨g,0,none⟩),.int .i64 x.length]).run Tryz.prog w.drew=.ok (.string ⟨x.toArray⟩) (w.drew.freeze ⟨g,0,none⟩ x.length):=by
  refine Lib.run_unsafeString_row w.drew 253 3 9 5 Tryz.underlying253 cells5 g cur.size (by have hg':w.drew.heap[g]?=some (.cells cur 5 fz):=hg;simp [World.shape?,hg']) x h0 (by omega) (by unfold maxLen at hcm;omega) ?_
  intro j y hy
  exact hown.cells (g:=g) rfl j (.int .u8 y.toNat) (by simp [Lib.byteCells,hy])
 have hfin:(w.drew.freeze ⟨g,0,none⟩ x.length).heap[wb]?=w.heap[wb]?∧Below B w (w.drew.freeze ⟨g,0,none⟩ x.length):=⟨freeze_other w.drew g _ wb hgne,Lib.below_freeze (Below.drew (Below.refl B w)) (p:=⟨g,0,none⟩) hbg _⟩
 have mixed:Tryz.prog.follows Departure.mixedOrders=true:=by kernel_rfl
 go_enter Tryz.func153,Tryz.ntmps153
 go_wp2
 go_region_o
 all_goals (go_wp2;go_ret;exact⟨rfl,hfin⟩)
end Go.Proofs.YtgifkepklnhddaaGreatDoor.fm
namespace Go.Proofs.YtgifkepklnhddaaGreatDoor.fm
open Go.RowKit
set_option maxHeartbeats 4000000 in
set_option maxRecDepth 100000 in
theorem deeper70 (B wb pb nb:Nat) (x y:List UInt8) (op sh:ByteArray) (d m ε:Nat) (w:World) (h:WB w B wb x d m) (hdm:d≤m) (hm:m+ε<1000000) (hlen:x.length+op.size+y.length+sh.size≤140737488355328) (hBw:B≤w.heap.size)
  (hin:∀ w1,WB w1 B wb (x++op.data.toList) (d+1) (max m (d+1))→Kw B wb w w1→Calls Tryz.prog 182 #[ptr pb,ptr nb] w1 fun e w'=>e=.returned (.tuple #[])∧WB w' B wb (x++op.data.toList++y) (d+1) (max (max m (d+1)) (d+1+ε))∧Kw B wb w1 w') :
  Calls Tryz.prog 181 #[ptr wb,.string op,.func (.func 182) #[] #[ptr pb,ptr nb],.string sh] w fun e w'=>e=.returned (.tuple #[])∧WB w' B wb (x++op.data.toList++y++sh.data.toList) d (max m (d+1+ε))∧Kw B wb w w':=by
 have HIN:Hid (∀ w1,WB w1 B wb (x++op.data.toList) (d+1) (max m (d+1))→Kw B wb w w1→Calls Tryz.prog 182 #[ptr pb,ptr nb] w1 fun e w'=>e=.returned (.tuple #[])∧WB w' B wb (x++op.data.toList++y) (d+1) (max (max m (d+1)) (d+1+ε))∧Kw B wb w1 w'):=hin
 clear hin
 have hB:=h.ge
 obtain⟨⟨c2,c3⟩,f2,f3⟩:=h.cells
 have h1:=h.setD (d+1)
 have k1:=(Kw.refl B wb w).set hB 2 (.int .i64 ((d:Int)+1))
 obtain⟨⟨b2,b3⟩,e2,e3⟩:=h1.cells
 rw [show ((d+1:Nat):Int)=(d:Int)+1 from by omega] at h1 b2 b3 e2 e3
 have hd6:(d:Int)<1000000:=by omega
 have hm6:(m:Int)<1000000:=by omega
 go_enter Tryz.func181,Tryz.ntmps181
 go_wp2_with fail
 generalize w.setCell ⟨wb,2,none⟩ (.int .i64 ((d:Int)+1))=w0 at *
 clear c2 c3 f2 f3
 go_region
 have h2:=(h1.setM (max m (d+1))).drew
 have k2:=(k1.set hB 3 (.int .i64 (max (m:Int) ((d:Int)+1)))).drew
 rw [show ((max m (d+1):Nat):Int)=max (m:Int) ((d:Int)+1) from by omega] at h2
 clear b2 b3 e2 e3 h1 k1
 generalize (w0.setCell ⟨wb,3,none⟩ (.int .i64 (max (m:Int) ((d:Int)+1)))).drew=w1 at *
 go_wp2_with fail
 have s2:=k2.b.size
 refine (write_any B wb x _ _ op w1 h2 (by omega) (by omega)).mono ?_
 rintro e w2 ⟨rfl,h3,k3⟩
 have k23:=k2.trans k3
 go_wp2_with fail
 refine (HIN.out _ h3 k23).mono ?_
 rintro e w3 ⟨rfl,h4,k4⟩
 have k24:=k23.trans k4
 have s4:=k24.b.size
 go_wp2_with fail
 refine (write_any B wb _ _ _ sh w3 h4 (by simp only [List.length_append,Array.length_toList];have e1:op.size=op.data.size:=rfl;omega) (by omega)).mono ?_
 rintro e w4 ⟨rfl,h5,k5⟩
 have k25:=k24.trans k5
 obtain⟨⟨c2,c3⟩,f2,f3⟩:=h5.cells
 rw [show ((d+1:Nat):Int)=(d:Int)+1 from by omega] at c2
 have hd7:(d:Int)+1 - 1=(d:Int):=by omega
 go_wp2_with fail
 go_end0
 refine⟨rfl,?_,?_⟩
 ·have:=h5.setD d
  rw [show max (max m (d+1)) (d+1+ε)=max m (d+1+ε) from by omega] at this
  exact this
 ·exact k25.set hB 2 _
set_option maxHeartbeats 4000000 in
set_option maxRecDepth 100000 in
theorem deeper72 (B wb pb nb:Nat) (x y:List UInt8) (op sh:ByteArray) (d m ε:Nat) (w:World) (h:WB w B wb x d m) (hdm:d≤m) (hm:m+ε<1000000) (hlen:x.length+op.size+y.length+sh.size≤140737488355328) (hBw:B≤w.heap.size)
  (hin:∀ w1,WB w1 B wb (x++op.data.toList) (d+1) (max m (d+1))→Kw B wb w w1→Calls Tryz.prog 184 #[ptr pb,ptr nb] w1 fun e w'=>e=.returned (.tuple #[])∧WB w' B wb (x++op.data.toList++y) (d+1) (max (max m (d+1)) (d+1+ε))∧Kw B wb w1 w') :
  Calls Tryz.prog 181 #[ptr wb,.string op,.func (.func 184) #[] #[ptr pb,ptr nb],.string sh] w fun e w'=>e=.returned (.tuple #[])∧WB w' B wb (x++op.data.toList++y++sh.data.toList) d (max m (d+1+ε))∧Kw B wb w w':=by
 have HIN:Hid (∀ w1,WB w1 B wb (x++op.data.toList) (d+1) (max m (d+1))→Kw B wb w w1→Calls Tryz.prog 184 #[ptr pb,ptr nb] w1 fun e w'=>e=.returned (.tuple #[])∧WB w' B wb (x++op.data.toList++y) (d+1) (max (max m (d+1)) (d+1+ε))∧Kw B wb w1 w'):=hin
 clear hin
 have hB:=h.ge
 obtain⟨⟨c2,c3⟩,f2,f3⟩:=h.cells
 have h1:=h.setD (d+1)
 have k1:=(Kw.refl B wb w).set hB 2 (.int .i64 ((d:Int)+1))
 obtain⟨⟨b2,b3⟩,e2,e3⟩:=h1.cells
 rw [show ((d+1:Nat):Int)=(d:Int)+1 from by omega] at h1 b2 b3 e2 e3
 have hd6:(d:Int)<1000000:=by omega
 have hm6:(m:Int)<1000000:=by omega
 go_enter Tryz.func181,Tryz.ntmps181
 go_wp2_with fail
 generalize w.setCell ⟨wb,2,none⟩ (.int .i64 ((d:Int)+1))=w0 at *
 clear c2 c3 f2 f3
 go_region
 have h2:=(h1.setM (max m (d+1))).drew
 have k2:=(k1.set hB 3 (.int .i64 (max (m:Int) ((d:Int)+1)))).drew
 rw [show ((max m (d+1):Nat):Int)=max (m:Int) ((d:Int)+1) from by omega] at h2
 clear b2 b3 e2 e3 h1 k1
 generalize (w0.setCell ⟨wb,3,none⟩ (.int .i64 (max (m:Int) ((d:Int)+1)))).drew=w1 at *
 go_wp2_with fail
 have s2:=k2.b.size
 refine (write_any B wb x _ _ op w1 h2 (by omega) (by omega)).mono ?_
 rintro e w2 ⟨rfl,h3,k3⟩
 have k23:=k2.trans k3
 go_wp2_with fail
 refine (HIN.out _ h3 k23).mono ?_
 rintro e w3 ⟨rfl,h4,k4⟩
 have k24:=k23.trans k4
 have s4:=k24.b.size
 go_wp2_with fail
 refine (write_any B wb _ _ _ sh w3 h4 (by simp only [List.length_append,Array.length_toList];have e1:op.size=op.data.size:=rfl;omega) (by omega)).mono ?_
 rintro e w4 ⟨rfl,h5,k5⟩
 have k25:=k24.trans k5
 obtain⟨⟨c2,c3⟩,f2,f3⟩:=h5.cells
 rw [show ((d+1:Nat):Int)=(d:Int)+1 from by omega] at c2
 have hd7:(d:Int)+1 - 1=(d:Int):=by omega
 go_wp2_with fail
 go_end0
 refine⟨rfl,?_,?_⟩
 ·have:=h5.setD d
  rw [show max (max m (d+1)) (d+1+ε)=max m (d+1+ε) from by omega] at this
  exact this
 ·exact k25.set hB 2 _
set_option maxHeartbeats 4000000 in
set_option maxRecDepth 100000 in
theorem deeper95 (B wb pb nb:Nat) (x y:List UInt8) (op sh:ByteArray) (d m ε:Nat) (w:World) (h:WB w B wb x d m) (hdm:d≤m) (hm:m+ε<1000000) (hlen:x.length+op.size+y.length+sh.size≤140737488355328) (hBw:B≤w.heap.size)
  (hin:∀ w1,WB w1 B wb (x++op.data.toList) (d+1) (max m (d+1))→Kw B wb w w1→Calls Tryz.prog 206 #[ptr pb,ptr nb] w1 fun e w'=>e=.returned (.tuple #[])∧WB w' B wb (x++op.data.toList++y) (d+1) (max (max m (d+1)) (d+1+ε))∧Kw B wb w1 w') :
  Calls Tryz.prog 181 #[ptr wb,.string op,.func (.func 206) #[] #[ptr pb,ptr nb],.string sh] w fun e w'=>e=.returned (.tuple #[])∧WB w' B wb (x++op.data.toList++y++sh.data.toList) d (max m (d+1+ε))∧Kw B wb w w':=by
 have HIN:Hid (∀ w1,WB w1 B wb (x++op.data.toList) (d+1) (max m (d+1))→Kw B wb w w1→Calls Tryz.prog 206 #[ptr pb,ptr nb] w1 fun e w'=>e=.returned (.tuple #[])∧WB w' B wb (x++op.data.toList++y) (d+1) (max (max m (d+1)) (d+1+ε))∧Kw B wb w1 w'):=hin
 clear hin
 have hB:=h.ge
 obtain⟨⟨c2,c3⟩,f2,f3⟩:=h.cells
 have h1:=h.setD (d+1)
 have k1:=(Kw.refl B wb w).set hB 2 (.int .i64 ((d:Int)+1))
 obtain⟨⟨b2,b3⟩,e2,e3⟩:=h1.cells
 rw [show ((d+1:Nat):Int)=(d:Int)+1 from by omega] at h1 b2 b3 e2 e3
 have hd6:(d:Int)<1000000:=by omega
 have hm6:(m:Int)<1000000:=by omega
 go_enter Tryz.func181,Tryz.ntmps181
 go_wp2_with fail
 generalize w.setCell ⟨wb,2,none⟩ (.int .i64 ((d:Int)+1))=w0 at *
 clear c2 c3 f2 f3
 go_region
 have h2:=(h1.setM (max m (d+1))).drew
 have k2:=(k1.set hB 3 (.int .i64 (max (m:Int) ((d:Int)+1)))).drew
 rw [show ((max m (d+1):Nat):Int)=max (m:Int) ((d:Int)+1) from by omega] at h2
 clear b2 b3 e2 e3 h1 k1
 generalize (w0.setCell ⟨wb,3,none⟩ (.int .i64 (max (m:Int) ((d:Int)+1)))).drew=w1 at *
 go_wp2_with fail
 have s2:=k2.b.size
 refine (write_any B wb x _ _ op w1 h2 (by omega) (by omega)).mono ?_
 rintro e w2 ⟨rfl,h3,k3⟩
 have k23:=k2.trans k3
 go_wp2_with fail
 refine (HIN.out _ h3 k23).mono ?_
 rintro e w3 ⟨rfl,h4,k4⟩
 have k24:=k23.trans k4
 have s4:=k24.b.size
 go_wp2_with fail
 refine (write_any B wb _ _ _ sh w3 h4 (by simp only [List.length_append,Array.length_toList];have e1:op.size=op.data.size:=rfl;omega) (by omega)).mono ?_
 rintro e w4 ⟨rfl,h5,k5⟩
 have k25:=k24.trans k5
 obtain⟨⟨c2,c3⟩,f2,f3⟩:=h5.cells
 rw [show ((d+1:Nat):Int)=(d:Int)+1 from by omega] at c2
 have hd7:(d:Int)+1 - 1=(d:Int):=by omega
 go_wp2_with fail
 go_end0
 refine⟨rfl,?_,?_⟩
 ·have:=h5.setD d
  rw [show max (max m (d+1)) (d+1+ε)=max m (d+1+ε) from by omega] at this
  exact this
 ·exact k25.set hB 2 _
end Go.Proofs.YtgifkepklnhddaaGreatDoor.fm

import Derived.Test.YtgifkepklnhddaaGreatDoorQ7Hold
import Derived.LaidEql
import Derived.Stop.Asserts
import Derived.RowKitTokens
namespace Go.Proofs.YtgifkepklnhddaaGreatDoor
open Go.RowKit Go.Extern.Stop Go.Stop Go.Extern
theorem asValueOf (t:Addr) (w:World):(ReflectliteValue.unpack (.iface 148 (.pointer (some t)))).run Tryz.prog w
  = .ok (.agg #[.pointer (some ⟨11,148,none⟩),.pointer (some ⟨w.heap.size,0,none⟩),.int .u64 150]) (w.alloc (.cells #[.pointer (some t)] 148)):=by kernel_rfl
theorem asType (a:Addr) (w:World):(ReflectliteValue.methodAny (ReflectliteValue.valueError "reflectlite.Value.Type" 0) (fun t _ _ _=>ReflectliteType.toType t) #[.agg #[.pointer (some ⟨11,148,none⟩),.pointer (some a),.int .u64 150]]).run Tryz.prog w
  = .ok (.iface 212 (.agg #[.pointer (some ⟨11,148,none⟩)])) w:=by kernel_rfl
theorem asMethodKind (h:Value) (w:World):(Go.method 461 212 (.agg #[h]) "Kind").run Tryz.prog w=.ok (313,h) w:=by kernel_rfl
theorem asKindP (w:World):((ReflectliteType.abiMethod fun t=>(fun a:Nat=>Value.int IntKind.u8 (a:Int)) <$> Rtype.kind t) #[.pointer (some ⟨11,148,none⟩)]).run Tryz.prog w=.ok (.int .u8 22) w:=by kernel_rfl
theorem asKindE (w:World):((ReflectliteType.abiMethod fun t=>(fun a:Nat=>Value.int IntKind.u8 (a:Int)) <$> Rtype.kind t) #[.pointer (some ⟨11,100,none⟩)]).run Tryz.prog w=.ok (.int .u8 2) w:=by kernel_rfl
theorem asRlm (z:Sem Value) (f:TypeId→Addr→Nat→Nat→Sem Value) (v:Value) :
  ReflectliteValue.method z f #[v]=(do match ← ReflectliteValue.parts v with | none=>z | some (t,a,fl)=>f t a fl (fl % 32)):=rfl
theorem asPartsP (a:Addr) (w:World):(ReflectliteValue.parts (.agg #[.pointer (some ⟨11,148,none⟩),.pointer (some a),.int .u64 150])).run Tryz.prog w=.ok (some (148,a,150)) w:=by kernel_rfl
theorem asIsNil (a p:Addr) (W:World) (ha:W.cell? a=some (.pointer (some p))) :
  (ReflectliteValue.method (ReflectliteValue.valueError "reflectlite.Value.IsNil" 0) ReflectliteValue.isNil #[.agg #[.pointer (some ⟨11,148,none⟩),.pointer (some a),.int .u64 150]]).run Tryz.prog W=.ok (.bool false) W:=by
 rw [asRlm]
 simp only [Sem.run_bind,asPartsP,Result.andThen]
 simp [ReflectliteValue.isNil,loadVar,isAgg,underlying,Tryz.underlying148,ha,Result.andThen]
theorem asMethodElem (h:Value) (w:World):(Go.method 461 212 (.agg #[h]) "Elem").run Tryz.prog w=.ok (325,.agg #[h]) w:=by kernel_rfl
theorem asMethodImplements (h:Value) (w:World):(Go.method 461 212 (.agg #[h]) "Implements").run Tryz.prog w=.ok (326,.agg #[h]) w:=by kernel_rfl
theorem asMethodAssignableTo (h:Value) (w:World):(Go.method 461 212 (.agg #[h]) "AssignableTo").run Tryz.prog w=.ok (323,.agg #[h]) w:=by kernel_rfl
theorem asElem (w:World):(ReflectliteType.method ReflectliteType.elem #[.agg #[.pointer (some ⟨11,148,none⟩)]]).run Tryz.prog w=.ok (.iface 212 (.agg #[.pointer (some ⟨11,100,none⟩)])) w:=by kernel_rfl
theorem asImplements (w:World):(ReflectliteType.relation "Implements" ReflectliteType.implements_ #[.agg #[.pointer (some ⟨11,100,none⟩)],.iface 212 (.agg #[.pointer (some ⟨11,26,none⟩)])]).run Tryz.prog w=.ok (.bool true) w:=by kernel_rfl
theorem asTypeOf (v:Value) (w:World):(ReflectliteType.typeOf #[.iface 100 v]).run Tryz.prog w=.ok (.iface 212 (.agg #[.pointer (some ⟨11,100,none⟩)])) w:=by kernel_rfl
theorem asAssignable (w:World):(ReflectliteType.relation "AssignableTo" ReflectliteType.assignableTo #[.agg #[.pointer (some ⟨11,100,none⟩)],.iface 212 (.agg #[.pointer (some ⟨11,100,none⟩)])]).run Tryz.prog w=.ok (.bool true) w:=by kernel_rfl
theorem asValueOfE (n:Int) (w:World):(ReflectliteValue.unpack (.iface 100 (.int .i64 n))).run Tryz.prog w
  = .ok (.agg #[.pointer (some ⟨11,100,none⟩),.pointer (some ⟨w.heap.size,0,none⟩),.int .u64 130]) (w.alloc (.cells #[.int .i64 n] 100)):=by kernel_rfl
theorem asElemOf (w:World):(Rtype.elem? 148).run Tryz.prog w=.ok (some 100) w:=by kernel_rfl
theorem asMk (p:Addr) (w:World):(ReflectliteValue.mk 100 p ReflectliteValue.flagAddr).run Tryz.prog w=.ok (.agg #[.pointer (some ⟨11,100,none⟩),.pointer (some p),.int .u64 386]) w:=by kernel_rfl
theorem asElemV (a p:Addr) (W:World) (ha:W.cell? a=some (.pointer (some p))) :
  (ReflectliteValue.method (ReflectliteValue.valueError "reflectlite.Value.Elem" 0) ReflectliteValue.elem #[.agg #[.pointer (some ⟨11,148,none⟩),.pointer (some a),.int .u64 150]]).run Tryz.prog W
   = .ok (.agg #[.pointer (some ⟨11,100,none⟩),.pointer (some p),.int .u64 386]) W:=by
 rw [asRlm]
 simp only [Sem.run_bind,asPartsP,Result.andThen]
 simp [ReflectliteValue.elem,loadVar,isAgg,underlying,Tryz.underlying148,ha,Result.andThen,asElemOf,asMk]
theorem asRls (v x:Value):ReflectliteValue.set #[v,x]=(do
  let (some (dst,a,fl),some (src,b,_)):=(← ReflectliteValue.parts v,← ReflectliteValue.parts x)
   | unsupported (.noEntry "extern/(internal/reflectlite.Value).Set.zeroValue")
  if fl / ReflectliteValue.flagAddr % 2 == 0 then unsupported (.noEntry "extern/(internal/reflectlite.Value).Set.unaddressable")
  let val ← loadVar src b
  if ← Rtype.directlyAssignable dst src then storeVar dst a val
  else if ← Rtype.implements dst src then
   if (← Rtype.kind src) == 20 then
    match val with
    | .nilIface=>unsupported (.noEntry "extern/reflectlite: a nil value of one interface type handed on as a value of another")
    | _=>storeVar dst a val
   else storeVar dst a (.iface src val)
  else panicString ("reflectlite.Set: value of type "++(← Rtype.spelt src) ++ " is not assignable to type "++(← Rtype.spelt dst))
  pure (.tuple #[])):=rfl
theorem asPartsA (a:Addr) (w:World):(ReflectliteValue.parts (.agg #[.pointer (some ⟨11,100,none⟩),.pointer (some a),.int .u64 386])).run Tryz.prog w=.ok (some (100,a,386)) w:=by kernel_rfl
theorem asPartsB (a:Addr) (w:World):(ReflectliteValue.parts (.agg #[.pointer (some ⟨11,100,none⟩),.pointer (some a),.int .u64 130])).run Tryz.prog w=.ok (some (100,a,130)) w:=by kernel_rfl
theorem asDirect (w:World):(Rtype.directlyAssignable 100 100).run Tryz.prog w=.ok true w:=by kernel_rfl
theorem asSet (ta b:Addr) (n:Int) (old:Value) (W:World) (hb:W.cell? b=some (.int .i64 n)) (ht:W.cell? ta=some old) (hf:W.frozen? ta=false) :
  (ReflectliteValue.set #[.agg #[.pointer (some ⟨11,100,none⟩),.pointer (some ta),.int .u64 386],.agg #[.pointer (some ⟨11,100,none⟩),.pointer (some b),.int .u64 130]]).run Tryz.prog W
   = .ok (.tuple #[]) (W.setCell ta (.int .i64 n)):=by
 rw [asRls]
 simp only [Sem.run_bind,asPartsA,asPartsB,Result.andThen]
 simp [ReflectliteValue.flagAddr,loadVar,isAgg,underlying,Tryz.underlying100,hb,Result.andThen,asDirect,storeVar,Value.cells,storeCells,Addr.add]
 rw [run_store Tryz.prog W ta _ _ (by rfl)]
 simp [ht,hf]
def ErrTy (w:World):Prop:=0<w.heap.size∧w.cell? ⟨0,0,none⟩=some (.iface 212 (.agg #[.pointer (some ⟨11,26,none⟩)]))
theorem ErrTy.below {w w':World} {B:Nat} (h:ErrTy w) (hb:Below B w w') (hB:0<B):ErrTy w' :=
 ⟨Nat.lt_of_lt_of_le h.1 hb.size,by rw [hb.cell (p:=⟨0,0,none⟩) hB];exact h.2⟩
set_option maxRecDepth 100000 in
set_option maxHeartbeats 4000000 in
theorem as_errno (n:Int) (t:Addr) (old:Value) (w:World) (hg:w.cell? ⟨0,0,none⟩=some (.iface 212 (.agg #[.pointer (some ⟨11,26,none⟩)]))) (ht0:w.cell? t=some old) (hf0:w.frozen? t=false) :
  Calls Tryz.prog 99 #[.iface 100 (.int .i64 n),.iface 148 (.pointer (some t))] w fun ev w'=>ev=.returned (.bool true)∧w'=((((w.alloc (.cells #[.pointer (some t)] 148)).alloc (.cells #[.pointer (some ⟨11,148,none⟩),.pointer (some ⟨w.heap.size,0,none⟩),.int .u64 150] 176)).alloc (.cells #[.pointer (some ⟨11,148,none⟩),.pointer (some ⟨w.heap.size,0,none⟩),.int .u64 150] 176)).alloc (.cells #[.int .i64 n] 100)).setCell t (.int .i64 n):=by
 have h131:=@run_callFunc_extern Tryz.prog 131 _ (fun args=>ReflectliteValue.unpack (args.getD 0 (.tuple #[]))) Tryz.func131 (by kernel_rfl) (by kernel_rfl) (by kernel_rfl) (by kernel_rfl)
 have h132:=@run_callFunc_extern Tryz.prog 132 _ (ReflectliteValue.methodAny (ReflectliteValue.valueError "reflectlite.Value.Type" 0) (fun t _ _ _=>ReflectliteType.toType t)) Tryz.func132 (by kernel_rfl) (by kernel_rfl) (by kernel_rfl) (by kernel_rfl)
 have h133:=@run_callFunc_extern Tryz.prog 133 _ (ReflectliteValue.method (ReflectliteValue.valueError "reflectlite.Value.IsNil" 0) ReflectliteValue.isNil) Tryz.func133 (by kernel_rfl) (by kernel_rfl) (by kernel_rfl) (by kernel_rfl)
 have h313:=@run_callFunc_extern Tryz.prog 313 _ (ReflectliteType.abiMethod fun t=>do pure (.int .u8 (← Rtype.kind t))) Tryz.func313 (by kernel_rfl) (by kernel_rfl) (by kernel_rfl) (by kernel_rfl)
 have h325:=@run_callFunc_extern Tryz.prog 325 _ (ReflectliteType.method ReflectliteType.elem) Tryz.func325 (by kernel_rfl) (by kernel_rfl) (by kernel_rfl) (by kernel_rfl)
 have h326:=@run_callFunc_extern Tryz.prog 326 _ (ReflectliteType.relation "Implements" ReflectliteType.implements_) Tryz.func326 (by kernel_rfl) (by kernel_rfl) (by kernel_rfl) (by kernel_rfl)
 have h154:=@run_callFunc_extern Tryz.prog 154 _ ReflectliteType.typeOf Tryz.func154 (by kernel_rfl) (by kernel_rfl) (by kernel_rfl) (by kernel_rfl)
 have h323:=@run_callFunc_extern Tryz.prog 323 _ (ReflectliteType.relation "AssignableTo" ReflectliteType.assignableTo) Tryz.func323 (by kernel_rfl) (by kernel_rfl) (by kernel_rfl) (by kernel_rfl)
 have h155:=@run_callFunc_extern Tryz.prog 155 _ (ReflectliteValue.method (ReflectliteValue.valueError "reflectlite.Value.Elem" 0) ReflectliteValue.elem) Tryz.func155 (by kernel_rfl) (by kernel_rfl) (by kernel_rfl) (by kernel_rfl)
 have h156:=@run_callFunc_extern Tryz.prog 156 _ ReflectliteValue.set Tryz.func156 (by kernel_rfl) (by kernel_rfl) (by kernel_rfl) (by kernel_rfl)
 have tO:=asTypeOf
 have mA:=asMethodAssignableTo
 have aE:=asAssignable
 have vE:=asValueOfE
 have f6:=asValueOf
 have f7:=asType
 have mK:=asMethodKind
 have mE:=asMethodElem
 have mI:=asMethodImplements
 have kP:=asKindP
 have kE:=asKindE
 have eP:=asElem
 have iE:=asImplements
 have n8:=asIsNil ⟨w.heap.size,0,none⟩ t ((w.alloc (.cells #[.pointer (some t)] 148)).alloc (.cells #[.pointer (some ⟨11,148,none⟩),.pointer (some ⟨w.heap.size,0,none⟩),.int .u64 150] 176)) (by simp)
 have hlt:0<w.heap.size:=by
  rcases Nat.lt_or_ge 0 w.heap.size with h | h
  ·exact h
  ·simp [World.cell?,Array.getElem?_eq_none h] at hg
 have hg2:((w.alloc (.cells #[.pointer (some t)] 148)).alloc (.cells #[.pointer (some ⟨11,148,none⟩),.pointer (some ⟨w.heap.size,0,none⟩),.int .u64 150] 176)).cell? ⟨0,0,none⟩=some (.iface 212 (.agg #[.pointer (some ⟨11,26,none⟩)])):=by
  rw [World.cell?_alloc_lt _ _ ⟨0,0,none⟩ (by simp<;>omega),World.cell?_alloc_lt _ _ ⟨0,0,none⟩ hlt];exact hg
 have htl:t.block<w.heap.size:=by
  rcases Nat.lt_or_ge t.block w.heap.size with h | h
  ·exact h
  ·simp [World.cell?,Array.getElem?_eq_none h] at ht0
 have el:=asElemV ⟨w.heap.size,0,none⟩ t (((w.alloc (.cells #[.pointer (some t)] 148)).alloc (.cells #[.pointer (some ⟨11,148,none⟩),.pointer (some ⟨w.heap.size,0,none⟩),.int .u64 150] 176)).alloc (.cells #[.pointer (some ⟨11,148,none⟩),.pointer (some ⟨w.heap.size,0,none⟩),.int .u64 150] 176)) (by rw [World.cell?_alloc_lt _ _ ⟨w.heap.size,0,none⟩ (by simp;omega)];simp)
 have st:=asSet t ⟨w.heap.size+1+1+1,0,none⟩ n old ((((w.alloc (.cells #[.pointer (some t)] 148)).alloc (.cells #[.pointer (some ⟨11,148,none⟩),.pointer (some ⟨w.heap.size,0,none⟩),.int .u64 150] 176)).alloc (.cells #[.pointer (some ⟨11,148,none⟩),.pointer (some ⟨w.heap.size,0,none⟩),.int .u64 150] 176)).alloc (.cells #[.int .i64 n] 100))
  (by rw [World.cell?_alloc_at _ _ _ _ (by simp)];rfl)
  (by rw [World.cell?_alloc_lt _ _ t (by simp;omega),World.cell?_alloc_lt _ _ t (by simp;omega),World.cell?_alloc_lt _ _ t (by simp;omega),World.cell?_alloc_lt _ _ t htl];exact ht0)
  (by rw [World.frozen?_alloc_old _ _ t (by simp;omega),World.frozen?_alloc_old _ _ t (by simp;omega),World.frozen?_alloc_old _ _ t (by simp;omega),World.frozen?_alloc_old _ _ t (Nat.ne_of_lt htl)];exact hf0)
 go_enter Tryz.func99,Tryz.ntmps99
 go_wp2
 refine wp_loop_rounds 1 ?_
 rw [rounds_succ]
 go_wp2
 go_ret
 exact⟨rfl,rfl⟩
theorem told_nil (w:World):Calls Tryz.prog 63 #[.nilIface] w fun e w'=>e=.returned (.int .i64 0)∧Below w.heap.size w w':=by
 go_enter Tryz.func63,Tryz.ntmps63
 go_wp2
 go_ret
 exact⟨rfl,by (repeat (first | exact Below.refl _ _ | assumption | (refine Below.setCell ?_ (by first | omega | (simp<;>omega)) _) | (refine Below.alloc ?_ (by first | omega | (simp<;>omega)) _) | (refine Below.drew ?_) | (refine Below.trans ?_ (Below.mono (by assumption) (by first | omega | (simp<;>omega))))))⟩
set_option maxHeartbeats 4000000 in
theorem told_errno (n:Int) (w:World) (hg:ErrTy w):Calls Tryz.prog 63 #[.iface 100 (.int .i64 n)] w fun e w'=>e=.returned (.int .i64 n)∧Below w.heap.size w w':=by
 have hgA:(w.alloc (.cells #[.int .i64 0] 100)).cell? ⟨0,0,none⟩=some (.iface 212 (.agg #[.pointer (some ⟨11,26,none⟩)])):=by
  rw [World.cell?_alloc_lt _ _ ⟨0,0,none⟩ hg.1];exact hg.2
 go_enter Tryz.func63,Tryz.ntmps63
 go_wp2_with (go_at_call 99;refine (as_errno n _ (.int .i64 0) _ hgA (by simp) (by simp)).mono ?_;rintro e w' ⟨rfl,rfl⟩)
 go_ret
 exact⟨by simp,by (repeat (first | exact Below.refl _ _ | assumption | (refine Below.setCell ?_ (by first | omega | (simp<;>omega)) _) | (refine Below.alloc ?_ (by first | omega | (simp<;>omega)) _) | (refine Below.drew ?_) | (refine Below.trans ?_ (Below.mono (by assumption) (by first | omega | (simp<;>omega))))))⟩
theorem same_nil (m:Int) (w:World):Calls Tryz.prog 28 #[.nilIface,.int .i64 m] w fun e w'=>e=.returned (.bool ((0:Int) == m))∧Below w.heap.size w w':=by
 go_enter Tryz.func28,Tryz.ntmps28
 go_wp2_with (go_at_call 63;refine (told_nil _).mono ?_;rintro e w' ⟨rfl,b⟩)
 go_ret
 exact⟨by simp,by (repeat (first | exact Below.refl _ _ | assumption | (refine Below.setCell ?_ (by first | omega | (simp<;>omega)) _) | (refine Below.alloc ?_ (by first | omega | (simp<;>omega)) _) | (refine Below.drew ?_) | (refine Below.trans ?_ (Below.mono (by assumption) (by first | omega | (simp<;>omega))))))⟩
theorem same_errno (n m:Int) (w:World) (hg:ErrTy w):Calls Tryz.prog 28 #[.iface 100 (.int .i64 n),.int .i64 m] w fun e w'=>e=.returned (.bool (n == m))∧Below w.heap.size w w':=by
 go_enter Tryz.func28,Tryz.ntmps28
 go_wp2_with (go_at_call 63;refine (told_errno n _ hg).mono ?_;rintro e w' ⟨rfl,b⟩)
 go_ret
 exact⟨by simp,by (repeat (first | exact Below.refl _ _ | assumption | (refine Below.setCell ?_ (by first | omega | (simp<;>omega)) _) | (refine Below.alloc ?_ (by first | omega | (simp<;>omega)) _) | (refine Below.drew ?_) | (refine Below.trans ?_ (Below.mono (by assumption) (by first | omega | (simp<;>omega))))))⟩
end Go.Proofs.YtgifkepklnhddaaGreatDoor

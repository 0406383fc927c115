/- Proved: the law RowsInsert returns true for every list of cells with their texts, rows or columns, every place and every number of lines: what Insert of package rows makes of the sheet, or refuses, is what the reference says. Conditions: the listed package variables start as the program's text lays them (the card ties them). -/
import Derived.Test.YtgifkepklnhddaaGreatDoorQ7Jm
import Derived.ProofKit
import Derived.OpenShut
import Derived.Deep.Slices
import Derived.Deep.Strs
import Derived.Lib.SmallJoins
import Derived.ChangeMaps5
import Derived.LaidHandle
import Derived.Shelf.Vars
import Derived.Lay
import Derived.MakeChecks
import Derived.Test.YtgifkepklnhddaaGreatDoorQ7Jc
import Derived.Test.YtgifkepklnhddaaGreatDoorQ7As
import Derived.Test.YtgifkepklnhddaaGreatDoorTie
import Derived.Test.YtgifkepklnhddaaGreatDoorCards
import Derived.LaidMore
import Derived.LaidSub
import Derived.Stop.Joined
import Derived.SevenTiedAt
import Derived.Stop.LaidErr
import Derived.Lib.LaidTab
import Derived.ReadAgain
import Derived.ChangeOld
import Derived.Handed
import Derived.Below
import Derived.SizedLaws
namespace Go.Proofs.YtgifkepklnhddaaGreatDoor
open Go.ChangeShapes Go.WideShapes Go.ChangeAt Go.RowKit Go.Joins
theorem gSynT:(Tryz.prog.globals[9]?).map (·.type)=some 26:=by kernel_rfl
theorem gRanT:(Tryz.prog.globals[10]?).map (·.type)=some 26:=by kernel_rfl
theorem gPowT:(Tryz.prog.globals[3]?).map (·.type)=some 306:=by kernel_rfl
theorem gBadT:(Tryz.prog.globals[2]?).map (·.type)=some 293:=by kernel_rfl
theorem cells112:Tryz.prog.cellsOf 333=1:=by kernel_rfl
theorem cells9:Tryz.prog.cellsOf 9=1:=by kernel_rfl
theorem cells105:Tryz.prog.cellsOf 306=20:=by kernel_rfl
theorem cells51:Tryz.prog.cellsOf 293=6:=by kernel_rfl
theorem star : "*" ++ "errors.errorString" = "*errors.errorString":=by decide
theorem row110 (u:TypeId) (h:Tryz.prog.typeName? 3 u=some "*errors.errorString"):u=331 :=
 typeName_ptr_named (nm := "errors.errorString") (by rw [star];kernel_rfl) (by kernel_rfl) (by decide) u (by rw [star];exact h)
theorem bytes_eq {s t:ByteArray} (h:s.data.toList=t.data.toList):s=t:=by
 obtain⟨⟨l⟩⟩:=s
 obtain⟨⟨m⟩⟩:=t
 simp at h
 rw [h]
theorem six {α:Type} {l:List α} (h:l.length=6):∃ a b c d e f,l=[a,b,c,d,e,f]:=by
 match l,h with
 | [a,b,c,d,e,f],_=>exact⟨a,b,c,d,e,f,rfl⟩
theorem own:ownKnob Tryz.prog.godebug=none:=by kernel_rfl
theorem gOpsT:(Tryz.prog.globals[1]?).map (·.type)=some 251:=by kernel_rfl
theorem cells3:Tryz.prog.cellsOf 3=1:=by kernel_rfl
theorem cells120:Tryz.prog.cellsOf 250=2:=by kernel_rfl
theorem cells121:Tryz.prog.cellsOf 251=24:=by kernel_rfl
theorem list2 {α:Type} {l:List α} (h:l.length=2):∃ a b,l=[a,b]:=by
 match l,h with
 | [a,b],_=>exact⟨a,b,rfl⟩
theorem list12 {α:Type} {l:List α} (h:l.length=12):∃ x0 x1 x2 x3 x4 x5 x6 x7 x8 x9 x10 x11,l=[x0,x1,x2,x3,x4,x5,x6,x7,x8,x9,x10,x11]:=by
 match l,h with
 | [x0,x1,x2,x3,x4,x5,x6,x7,x8,x9,x10,x11],_=>exact⟨x0,x1,x2,x3,x4,x5,x6,x7,x8,x9,x10,x11,rfl⟩
theorem list24 {α:Type} {l:List α} (h:l.length=24):∃ c0 c1 c2 c3 c4 c5 c6 c7 c8 c9 c10 c11 c12 c13 c14 c15 c16 c17 c18 c19 c20 c21 c22 c23,l=[c0,c1,c2,c3,c4,c5,c6,c7,c8,c9,c10,c11,c12,c13,c14,c15,c16,c17,c18,c19,c20,c21,c22,c23]:=by
 match l,h with
 | [c0,c1,c2,c3,c4,c5,c6,c7,c8,c9,c10,c11,c12,c13,c14,c15,c16,c17,c18,c19,c20,c21,c22,c23],_=>exact⟨c0,c1,c2,c3,c4,c5,c6,c7,c8,c9,c10,c11,c12,c13,c14,c15,c16,c17,c18,c19,c20,c21,c22,c23,rfl⟩
set_option maxRecDepth 100000 in
theorem op_trod {H:Type} {enc:TypeId×Value→H} {W:World} {base:Nat} {spare:Nat→Bool} {held:Bool} {fuel:Nat} {cs:List Value} {x:DataW H×List MemPlace} (h:DataW.trod enc Tryz.prog W base spare held fuel 250 cs=some x) :
  ∃ (s:ByteArray) (n:Int),cs=[.string s,.int .i64 n]∧x.1=.agg [.lit (.string s.data.toList),.lit (.int .i64 n)]:=by
 obtain⟨y0,y1,n,rfl,hl,h0,h1⟩:=trod_struct2 Tryz.underlying250 h
 obtain⟨a,b,rfl⟩:=list2 (hl.trans cells120)
 simp only [cells3,cells9,List.drop_zero,List.drop_succ_cons,List.take_succ_cons,List.take_zero] at h0 h1
 obtain⟨s,e0,rfl,w0⟩:=DataW.trod_string Tryz.underlying9 h0
 obtain⟨r,e1,rfl,w1⟩:=DataW.trod_int Tryz.underlying3 h1
 simp at e0 e1
 subst e0 e1
 exact⟨s,r,rfl,rfl⟩
set_option maxRecDepth 100000 in
set_option maxHeartbeats 2000000 in
theorem ops_of {W:World} {r:List (String×DataW Unit)} (h:laidMet Tryz.prog (("sccsettle/formula.operators",Rows.laid_sccsettle_formula_operators)::r) W) :
  W.var? Tryz.prog "sccsettle/formula.operators"=some fm.opTab:=by
 obtain⟨ps,⟨g,t,c,fuel,p,q,hg,ht,hv,hd,_,_⟩,_,_⟩:=h
 obtain rfl:=Option.some.inj (fm.gOps.symm.trans hg)
 obtain rfl:=Option.some.inj (gOpsT.symm.trans ht)
 obtain⟨xs,m,rfl,hx,hlen,hn,hel⟩:=DataW.trod_array Tryz.underlying251 hd
 rw [cells121] at hlen
 rw [cells120] at hel
 obtain⟨l⟩:=c
 simp only [Prod.mk.injEq,Rows.laid_sccsettle_formula_operators,DataW.agg.injEq] at hx
 obtain⟨x0,x1,x2,x3,x4,x5,x6,x7,x8,x9,x10,x11,rfl⟩:=list12 hn
 obtain⟨c0,c1,c2,c3,c4,c5,c6,c7,c8,c9,c10,c11,c12,c13,c14,c15,c16,c17,c18,c19,c20,c21,c22,c23,rfl⟩:=list24 (show l.length=24 from hlen)
 obtain⟨s0,n0,e0,f0⟩:=op_trod (show DataW.trod _ Tryz.prog W 0 _ _ m 250 _=some x0 from hel 0 (by decide))
 obtain⟨s1,n1,e1,f1⟩:=op_trod (show DataW.trod _ Tryz.prog W 0 _ _ m 250 _=some x1 from hel 1 (by decide))
 obtain⟨s2,n2,e2,f2⟩:=op_trod (show DataW.trod _ Tryz.prog W 0 _ _ m 250 _=some x2 from hel 2 (by decide))
 obtain⟨s3,n3,e3,f3⟩:=op_trod (show DataW.trod _ Tryz.prog W 0 _ _ m 250 _=some x3 from hel 3 (by decide))
 obtain⟨s4,n4,e4,f4⟩:=op_trod (show DataW.trod _ Tryz.prog W 0 _ _ m 250 _=some x4 from hel 4 (by decide))
 obtain⟨s5,n5,e5,f5⟩:=op_trod (show DataW.trod _ Tryz.prog W 0 _ _ m 250 _=some x5 from hel 5 (by decide))
 obtain⟨s6,n6,e6,f6⟩:=op_trod (show DataW.trod _ Tryz.prog W 0 _ _ m 250 _=some x6 from hel 6 (by decide))
 obtain⟨s7,n7,e7,f7⟩:=op_trod (show DataW.trod _ Tryz.prog W 0 _ _ m 250 _=some x7 from hel 7 (by decide))
 obtain⟨s8,n8,e8,f8⟩:=op_trod (show DataW.trod _ Tryz.prog W 0 _ _ m 250 _=some x8 from hel 8 (by decide))
 obtain⟨s9,n9,e9,f9⟩:=op_trod (show DataW.trod _ Tryz.prog W 0 _ _ m 250 _=some x9 from hel 9 (by decide))
 obtain⟨s10,n10,e10,f10⟩:=op_trod (show DataW.trod _ Tryz.prog W 0 _ _ m 250 _=some x10 from hel 10 (by decide))
 obtain⟨s11,n11,e11,f11⟩:=op_trod (show DataW.trod _ Tryz.prog W 0 _ _ m 250 _=some x11 from hel 11 (by decide))
 simp at e0 e1 e2 e3 e4 e5 e6 e7 e8 e9 e10 e11
 obtain⟨rfl,rfl⟩:=e0
 obtain⟨rfl,rfl⟩:=e1
 obtain⟨rfl,rfl⟩:=e2
 obtain⟨rfl,rfl⟩:=e3
 obtain⟨rfl,rfl⟩:=e4
 obtain⟨rfl,rfl⟩:=e5
 obtain⟨rfl,rfl⟩:=e6
 obtain⟨rfl,rfl⟩:=e7
 obtain⟨rfl,rfl⟩:=e8
 obtain⟨rfl,rfl⟩:=e9
 obtain⟨rfl,rfl⟩:=e10
 obtain⟨rfl,rfl⟩:=e11
 simp only [List.map_cons,List.map_nil,f0,f1,f2,f3,f4,f5,f6,f7,f8,f9,f10,f11,List.cons.injEq,DataW.agg.injEq,DataW.lit.injEq,Lit.string.injEq,Lit.int.injEq,and_true,true_and] at hx
 obtain⟨⟨⟨g0,i0⟩,⟨g1,i1⟩,⟨g2,i2⟩,⟨g3,i3⟩,⟨g4,i4⟩,⟨g5,i5⟩,⟨g6,i6⟩,⟨g7,i7⟩,⟨g8,i8⟩,⟨g9,i9⟩,⟨g10,i10⟩,⟨g11,i11⟩⟩,_⟩:=hx
 subst i0
 subst i1
 subst i2
 subst i3
 subst i4
 subst i5
 subst i6
 subst i7
 subst i8
 subst i9
 subst i10
 subst i11
 rw [hv,bytes_eq (s:=s0) (t:=⟨#[]⟩) g0.symm,bytes_eq (s:=s1) (t:=⟨#[61]⟩) g1.symm,bytes_eq (s:=s2) (t:=⟨#[60,62]⟩) g2.symm,bytes_eq (s:=s3) (t:=⟨#[60]⟩) g3.symm,bytes_eq (s:=s4) (t:=⟨#[60,61]⟩) g4.symm,bytes_eq (s:=s5) (t:=⟨#[62]⟩) g5.symm,bytes_eq (s:=s6) (t:=⟨#[62,61]⟩) g6.symm,bytes_eq (s:=s7) (t:=⟨#[38]⟩) g7.symm,bytes_eq (s:=s8) (t:=⟨#[43]⟩) g8.symm,bytes_eq (s:=s9) (t:=⟨#[45]⟩) g9.symm,bytes_eq (s:=s10) (t:=⟨#[42]⟩) g10.symm,bytes_eq (s:=s11) (t:=⟨#[47]⟩) g11.symm]
 rfl
set_option maxRecDepth 100000 in
theorem bads_of {W:World} {r:List (String×DataW Unit)} (h:laidMet Tryz.prog (("sccsettle/value.badTexts",Rows.laid_sccsettle_value_badTexts)::r) W) :
  W.var? Tryz.prog "sccsettle/value.badTexts"=some #[.string bt0,.string bt1,.string bt2,.string bt3,.string bt4,.string bt5]:=by
 obtain⟨ps,⟨g,t,c,fuel,p,q,hg,ht,hv,hd,_,_⟩,_,_⟩:=h
 obtain rfl:=Option.some.inj (gBad.symm.trans hg)
 obtain rfl:=Option.some.inj (gBadT.symm.trans ht)
 obtain⟨xs,m,rfl,hx,hlen,hn,hel⟩:=DataW.trod_array Tryz.underlying293 hd
 rw [cells51] at hlen
 rw [cells9] at hel
 obtain⟨l⟩:=c
 simp only [Prod.mk.injEq,Rows.laid_sccsettle_value_badTexts,DataW.agg.injEq] at hx
 obtain⟨x0,x1,x2,x3,x4,x5,rfl⟩:=six hn
 obtain⟨c0,c1,c2,c3,c4,c5,rfl⟩:=six (show l.length=6 from hlen)
 obtain⟨s0,e0,f0,_⟩:=DataW.trod_string Tryz.underlying9 (show DataW.trod _ Tryz.prog W 0 _ _ m 9 _=some x0 from hel 0 (by decide))
 obtain⟨s1,e1,f1,_⟩:=DataW.trod_string Tryz.underlying9 (show DataW.trod _ Tryz.prog W 0 _ _ m 9 _=some x1 from hel 1 (by decide))
 obtain⟨s2,e2,f2,_⟩:=DataW.trod_string Tryz.underlying9 (show DataW.trod _ Tryz.prog W 0 _ _ m 9 _=some x2 from hel 2 (by decide))
 obtain⟨s3,e3,f3,_⟩:=DataW.trod_string Tryz.underlying9 (show DataW.trod _ Tryz.prog W 0 _ _ m 9 _=some x3 from hel 3 (by decide))
 obtain⟨s4,e4,f4,_⟩:=DataW.trod_string Tryz.underlying9 (show DataW.trod _ Tryz.prog W 0 _ _ m 9 _=some x4 from hel 4 (by decide))
 obtain⟨s5,e5,f5,_⟩:=DataW.trod_string Tryz.underlying9 (show DataW.trod _ Tryz.prog W 0 _ _ m 9 _=some x5 from hel 5 (by decide))
 simp at e0 e1 e2 e3 e4 e5
 subst e0 e1 e2 e3 e4 e5
 simp only [List.map_cons,List.map_nil,f0,f1,f2,f3,f4,f5,List.cons.injEq,DataW.lit.injEq,Lit.string.injEq,and_true] at hx
 obtain⟨⟨g0,g1,g2,g3,g4,g5⟩,_⟩:=hx
 rw [hv,bytes_eq (s:=s0) (t:=bt0) g0.symm,bytes_eq (s:=s1) (t:=bt1) g1.symm,bytes_eq (s:=s2) (t:=bt2) g2.symm,bytes_eq (s:=s3) (t:=bt3) g3.symm,bytes_eq (s:=s4) (t:=bt4) g4.symm,bytes_eq (s:=s5) (t:=bt5) g5.symm]
theorem size_of_var {W:World} {n:String} {g:Nat} {c:Array Value} (hg:Tryz.prog.globalNamed n=some g) (h:W.var? Tryz.prog n=some c):g<W.heap.size:=by
 unfold World.var? at h
 rw [hg] at h
 simp only [Option.bind_some] at h
 by_cases hh:g<W.heap.size
 ·exact hh
 ·rw [Array.getElem?_eq_none (by omega)] at h
  cases h
theorem gErr:Tryz.prog.globalNamed "errors.errorType"=some 0:=by kernel_rfl
theorem rtErr:(Tryz.prog.cutTypes.find? (·.1 == "internal/reflectlite.rtype")).map (·.2)=some 212:=by kernel_rfl
theorem oneErr:((List.range 361).filter fun t=>Tryz.prog.rowNamed t [101,114,114,111,114])=[26]:=by kernel_rfl
theorem sizeErr:Tryz.prog.types.size=361:=by kernel_rfl
theorem err_of_handle {W:World} (h:handlesMet Tryz.prog [("errors.errorType",Rows.laid_errors_errorType)] W):ErrTy W:=by
 obtain⟨name,u,ty,e1,e2,e3,e4,e5⟩:=h _ (List.mem_singleton.2 rfl)
 have en:name=[101,114,114,111,114]:=(Option.some.inj e1).symm
 subst en
 obtain rfl:=Option.some.inj (rtErr.symm.trans e2)
 have hm:ty∈(List.range 361).filter fun t=>Tryz.prog.rowNamed t [101,114,114,111,114]:=List.mem_filter.2 ⟨List.mem_range.2 (by rw [← sizeErr];exact e3),e4⟩
 rw [oneErr] at hm
 obtain rfl:=List.mem_singleton.1 hm
 have hh:typeHandle Tryz.prog 26=.pointer (some ⟨11,26,none⟩):=by kernel_rfl
 rw [hh] at e5
 exact⟨size_of_var gErr e5,by simpa using World.var?_cell gErr e5 0⟩
theorem max_of {W:World} (h:W.ShapedOpen Tryz.prog):∃ m,W.cell? ⟨4,0,none⟩=some (.int .i64 m) :=
 cell_of_shapedOpen_int (P:=Tryz.prog) (g:=4) (t:=3) (zero:=#[.int .i64 0]) h (of_decide_eq_true (by kernel_rfl)) (by kernel_rfl) rfl (by kernel_rfl) (by kernel_rfl) Tryz.underlying3
theorem size_of {W:World} (h:W.ShapedOpen Tryz.prog):10<W.heap.size:=by
 obtain⟨o,o0,h1,-,-⟩:=h.2 11 (of_decide_eq_true (by kernel_rfl)) (of_decide_eq_true (by kernel_rfl))
 have:=(Array.getElem?_eq_some_iff.1 h1).1
 omega
end Go.Proofs.YtgifkepklnhddaaGreatDoor
namespace Go.Proofs.YtgifkepklnhddaaGreatDoor.out
open Go.RowKit
section
variable {H:Type} {enc:TypeId×Value→H} {P:Program}
theorem trodAll_carry {w w':World} {base:Nat} {spare:Nat→Bool} {held:Bool}:∀ {ts:List TypeId} {vs:List Value} {ds:List (DataW H)} {ps:List MemPlace},
  DataW.TrodAll enc P w base spare held ts vs ds ps→(∀ p∈ps,w.sameAt w' p)→DataW.TrodAll enc P w' base spare held ts vs ds ps
 | [],[],[],_,h,_=>h
 | _::_,_::_,_::_,_,⟨p,q,⟨n,h1⟩,h2,e⟩,hs =>
  ⟨p,q,⟨n,DataW.trod_carry n _ _ _ h1 (fun x hx=>hs x (by rw [e];exact List.mem_append_left _ hx))⟩,trodAll_carry h2 (fun x hx=>hs x (by rw [e];exact List.mem_append_right _ hx)),e⟩
theorem sameAt_below {w w':World} (hb:Below w.heap.size w w') (p:MemPlace) (hp:p.block<w.heap.size):w.sameAt w' p:=by
 cases p with
 | cell b off=>exact hb.cell (p:=⟨b,off,none⟩) hp
 | map b=>exact hb.block b hp
theorem trodAll_after (hl:laidOutB P=true) (hm:mapsRowed P=true) (hz:((List.range P.types.size).all fun t=>match P.underlying t with | some (.slice e)=>decide (0<P.cellsOf e) | _=>true)=true)
  {w w':World} {ts:List TypeId} {vs:List Value} {ds:List (DataW H)} {ps:List MemPlace} (hts:∀ t∈ts,t<P.types.size)
  (h:DataW.TrodAll enc P w 0 (fun _=>true) true ts vs ds ps) (hb:Below w.heap.size w w'):DataW.TrodAll enc P w' 0 (fun b=>decide (b<w.heap.size)) true ts vs ds ps :=
 trodAll_carry (DataW.TrodAll.respare (kids_rows hl hm) (slices_full_of P hz) hts h (fun p hp=>decide_eq_true (h.lt p hp))) (fun p hp=>sameAt_below hb p (h.lt p hp))
theorem returnsInHanded_shaped {a:Assume} {C:Checked} {os:Os} {f:FuncId} {fn:Func} {s:ChangeSpec} {conds:List PathCond} {apart fresh handsOn again:Bool} {X:World→Array Value→Prop}
  (hX:∀ (w w':World) (args:Array Value),w.heap=w'.heap→X w args→X w' args)
  (own:ownKnob C.prog.godebug=none) (started:os.Started) (noInit:C.prog.inits.idxOf? f=none) (hfn:C.prog.funcs[f]?=some fn)
  (witness:∃ (w:World) (tape:Tape) (i:Input),w.os=os∧(w.forCall tape i).Shaped C.prog∧i.vars=[]∧Input.okWide C.prog (w.forCall tape i) .any w.heap.size f i ∧
   ((s.pre enc C.prog fn conds apart (w.forCall tape i).memory i.args∧X (w.forCall tape i).memory i.args)∧sizedMet enc C.prog fn (OpenSpec.ofChange s) apart (w.forCall tape i).memory i.args)∧a.holds C.prog (lone (Frame.enter C.prog f i.args .normal) [] (w.forCall tape i)))
  (contract:∀ (W:World) (base:Nat) (args:Array Value) (ds gs:List (DataW H)) (before:List MemPlace),
   (∀ (j:Nat) t v,fn.params[j]?=some t→args[j]?=some v→Value.okWide C.prog W .any base t v) →
   DataW.Whole enc C.prog fn.params.toList s.vars apart W args.toList ds gs before →
   conds.all (PathCond.test C.prog ⟨fn.params.toList,ds,s.plain.varTypes C.prog,gs⟩)=true →
   (DataW.weightsEach C.prog (fn.params.toList++s.plain.varTypes C.prog) (ds++gs)).all (·≤reachBytes)=true→X W args→W.ShapedOpen C.prog →
   a.holds C.prog (lone (Frame.enter C.prog f args .normal) [] W) →
   Calls C.prog f args W fun e W'=>∃ v,e=.returned v∧s.post enc C.prog fn apart fresh handsOn again W args v W') :
  ReturnsInHanded a C os f .any (fun w args=>(s.pre enc C.prog fn conds apart w args∧X w args)∧sizedMet enc C.prog fn (OpenSpec.ofChange s) apart w args) (s.post enc C.prog fn apart fresh handsOn again):=by
 refine returnsInHanded_of_calls own started noInit witness ?_
 intro w tape i _ hsh _ hok hpre hholds
 obtain⟨_,_,_,fn',hfn',_,_,_,_,hval⟩:=hok
 have e:fn'=fn:=Option.some.inj (hfn'.symm.trans hfn)
 subst e
 obtain⟨⟨⟨ds,gs,before,hw,hc⟩,hx⟩,hz⟩:=hpre
 have hw':=DataW.Whole.of_heap (w':=w.forCall tape i) (by rfl) hw
 refine (contract (w.forCall tape i) w.heap.size i.args ds gs before hval hw' hc (hz.weights hw) (hX _ _ _ (by rfl) hx) hsh hholds).mono fun e W' ⟨v,he,hp⟩=>?_
 subst he
 exact ChangeSpec.post_blind hp
end
end Go.Proofs.YtgifkepklnhddaaGreatDoor.out
namespace Go.Proofs.YtgifkepklnhddaaGreatDoor.crowin
open Go.ChangeShapes Go.WideShapes Go.ChangeAt Go.RowKit Go.Joins
open Go.ChangeMaps (open_string)
/-- The listed variables but for the handle. -/
def plainL : List (String × DataW Unit) := [("math/bits.deBruijn32tab", Rows.laid_math_bits_deBruijn32tab), ("math/bits.deBruijn64tab", Rows.laid_math_bits_deBruijn64tab), ("internal/strconv.uint64pow10", Rows.laid_internal_strconv_uint64pow10), ("unicode/utf8.acceptRanges", Rows.laid_unicode_utf8_acceptRanges), ("strconv.ErrRange", Rows.laid_strconv_ErrRange), ("strconv.ErrSyntax", Rows.laid_strconv_ErrSyntax), ("sccsettle/value.badTexts", Rows.laid_sccsettle_value_badTexts), ("sccsettle/formula.operators", Rows.laid_sccsettle_formula_operators), ("unicode/utf8.first", Rows.laid_unicode_utf8_first)]
theorem parts_of {W : World} (h : laidMetH Tryz.prog Rows.rowsInsertRow.laid W) : laidMet Tryz.prog plainL W ∧ handlesMet Tryz.prog [("errors.errorType", Rows.laid_errors_errorType)] W := h
set_option maxRecDepth 100000 in
theorem repl_env {W : World} (hz : 10 < W.heap.size) (h0 : laidMetH Tryz.prog Rows.rowsInsertRow.laid W) : ps.EnvP W ∧ ErrTy W := by
  have h := (parts_of h0).1
  have ht := Lib.tabIs_of_head (zs := Lib.pow10Tab) (k := .u64) gPow gPowT Tryz.underlying306 Tryz.underlying235 (by kernel_rfl) cells105 (show laidMet Tryz.prog (("internal/strconv.uint64pow10", Lib.tabData .u64 Lib.pow10Tab) :: _) W from h.tail.tail)
  obtain ⟨a, s, hr, -, -, -⟩ := laid_sentinel (show laidMet Tryz.prog (("strconv.ErrRange", .iface "*errors.errorString" (.ptr (.agg [.lit (.string _)]))) :: _) W from h.tail.tail.tail.tail) gRan gRanT Tryz.underlying26 row110 Tryz.underlying331 Tryz.underlying333 rfl rfl Tryz.underlying9 cells112 cells9
  obtain ⟨a2, s2, hs, -, -, -⟩ := laid_sentinel (show laidMet Tryz.prog (("strconv.ErrSyntax", .iface "*errors.errorString" (.ptr (.agg [.lit (.string _)]))) :: _) W from h.tail.tail.tail.tail.tail) gSyn gSynT Tryz.underlying26 row110 Tryz.underlying331 Tryz.underlying333 rfl rfl Tryz.underlying9 cells112 cells9
  exact ⟨⟨hz, ht, ⟨_, _, hs⟩, ⟨_, _, hr⟩, bads_of h.tail.tail.tail.tail.tail.tail, ops_of h.tail.tail.tail.tail.tail.tail.tail⟩, err_of_handle (parts_of h0).2⟩
/-- A start that meets the condition: the handle in its variable, and the rest laid beside it. -/
noncomputable def W0 (os : Os) : World := { World.holding Tryz.prog os ⟨#[], #[], []⟩ with heap := (World.holding Tryz.prog os ⟨#[], #[], []⟩).heap.setIfInBounds 0 (.cells #[.iface 212 (.agg #[.pointer (some ⟨11, 26, none⟩)])] 179 (0, 0)) }
noncomputable def WL (os : Os) : World := (W0 os).layVars Tryz.prog plainL
theorem WL_os (os : Os) : (WL os).os = os := World.layVars_os _ _ _
theorem met_plain (os : Os) : laidMet Tryz.prog plainL (WL os) := by
  have e1 : (plainL.filter fun x => (plainL.map (·.1)).contains x.1) = plainL := List.filter_eq_self.2 fun x hx => List.contains_iff_mem.2 (List.mem_map.2 ⟨x, hx, rfl⟩)
  have e2 : (plainL.filter fun x => !(plainL.map (·.1)).contains x.1) = [] := List.filter_eq_nil_iff.2 fun x hx => by rw [List.contains_iff_mem.2 (List.mem_map.2 ⟨x, hx, rfl⟩)]; simp
  exact laidMet_layVars (w0 := W0 os) (plainL.map (·.1)) [] (by rw [e1]; rfl) (by rw [e1]; kernel_rfl) (by rw [e1]; kernel_rfl) (by rw [e2]; exact LaidIn.none)
theorem door_met (os : Os) (args : Array Value) : laidMetH Tryz.prog Rows.rowsInsertRow.laid ((WL os).forCall (fun _ _ => 0) ⟨#[], args, []⟩).memory := by
  refine laidMetH_of_parts ?_ (by kernel_rfl)
  have h : laidMet Tryz.prog plainL ((WL os).forCall (fun _ _ => 0) ⟨#[], args, []⟩).memory := (met_plain os).of_heap (by simp [World.memory, World.forCall, Input.heap])
  exact h
theorem laid_out : laidOutB Tryz.prog = true := by kernel_rfl
theorem maps_rowed : mapsRowed Tryz.prog = true := by kernel_rfl
theorem slices_full : ((List.range Tryz.prog.types.size).all fun t => match Tryz.prog.underlying t with | some (.slice e) => decide (0 < Tryz.prog.cellsOf e) | _ => true) = true := by kernel_rfl
theorem params_in : ∀ t ∈ Tryz.f3.params.toList, t < Tryz.prog.types.size := by
  have h : (Tryz.f3.params.toList.all fun t => decide (t < Tryz.prog.types.size)) = true := by kernel_rfl
  exact fun t ht => of_decide_eq_true (List.all_eq_true.1 h t ht)
theorem trodAll_4 {H : Type} {enc : TypeId × Value → H} {P : Program} {w : World} {base : Nat} {spare : Nat → Bool} {held : Bool} {t0 t1 t2 t3 : TypeId} {args : Array Value} {ds : List (DataW H)} {ps : List MemPlace} (h : DataW.TrodAll enc P w base spare held [t0, t1, t2, t3] args.toList ds ps) :
    ∃ v0 v1 v2 v3 d0 d1 d2 d3 p0 p1 p2 p3, args = #[v0, v1, v2, v3] ∧ ds = [d0, d1, d2, d3] ∧ DataW.Trod enc P w base spare held t0 v0 d0 p0 ∧ DataW.Trod enc P w base spare held t1 v1 d1 p1 ∧ DataW.Trod enc P w base spare held t2 v2 d2 p2 ∧ DataW.Trod enc P w base spare held t3 v3 d3 p3 := by
  obtain ⟨v0, vs, d0, ds0, p0, q0, hargs, rfl, -, h0, r0⟩ := trodAll_cons h
  obtain ⟨v1, vs1, d1, ds1, p1, q1, rfl, rfl, -, h1, r1⟩ := trodAll_cons r0
  obtain ⟨v2, vs2, d2, ds2, p2, q2, rfl, rfl, -, h2, r2⟩ := trodAll_cons r1
  obtain ⟨v3, vs3, d3, ds3, p3, q3, rfl, rfl, -, h3, r3⟩ := trodAll_cons r2
  obtain ⟨rfl, rfl, -⟩ := trodAll_nil r3
  exact ⟨v0, v1, v2, v3, d0, d1, d2, d3, p0, p1, p2, p3, by cases args; simp_all, rfl, h0, h1, h2, h3⟩
set_option maxRecDepth 100000 in
theorem lifted (os : Os) (started : os.Started) (H : Type) (enc : TypeId × Value → H) :
    ReturnsInHanded {} Tryz.checked os 3 .any (fun w args => (Rows.rowsInsertSpec.pre enc Tryz.prog Tryz.f3 [] false w args ∧ laidMetH Tryz.prog Rows.rowsInsertRow.laid w) ∧ sizedMet enc Tryz.prog Tryz.f3 (OpenSpec.ofChange Rows.rowsInsertSpec) false w args)
      (Rows.rowsInsertSpec.post enc Tryz.prog Tryz.f3 false true false false) := by
  refine out.returnsInHanded_shaped (C := Tryz.checked) (X := fun w _ => laidMetH Tryz.prog Rows.rowsInsertRow.laid w) (fun _ _ _ hh h => h.of_heap hh) own started (by kernel_rfl) Tryz.func3
    (ChangeSpec.witness_shaped (enc := enc) (C := Tryz.checked) (os := os) (X := fun w _ => laidMetH Tryz.prog Rows.rowsInsertRow.laid w) false (WL os) #[.slice none 0 0, .bool false, .int .i64 0, .int .i64 0] 8 (WL_os os) (World.shaped_of_ZipB (by kernel_rfl) (by kernel_rfl)) (by kernel_rfl) (by kernel_rfl) (by kernel_rfl) (door_met os _)) ?_
  intro W base args ds gs before hval0 hW _ _ hL hsh _
  have hval : ∀ (j : Nat) t v, Tryz.f3.params[j]? = some t → args[j]? = some v → Value.okWide Tryz.prog W .any base t v := hval0
  have hW' := hW
  obtain ⟨p, q, hA0, hV, rfl, hfz, hnd⟩ := hW
  have hAft : ∀ W', Below W.heap.size W W' → DataW.TrodAll enc Tryz.prog W' 0 (fun b => decide (b < W.heap.size)) true Tryz.f3.params.toList args.toList ds p := fun W' hb => out.trodAll_after laid_out maps_rowed slices_full params_in hA0 hb
  have hA : DataW.TrodAll enc Tryz.prog W 0 (fun _ => true) true Tryz.f3.params.toList args.toList ds p := hA0
  rw [Tryz.params3] at hA hval
  obtain ⟨v0, v1, v2, v3, d0, d1, d2, d3, p0, p1, p2, p3, rfl, rfl, h0, h1, h2, h3⟩ := trodAll_4 hA
  obtain ⟨rfl, rfl⟩ := trodVars_none hV
  obtain ⟨p, xs, cap, rfl, hx, -⟩ := ps.open_fills (hval 0 22 v0 rfl rfl) h0
  obtain ⟨row, rfl, rfl, rfl⟩ := open_bool Tryz.underlying4 (hval 1 4 v1 rfl rfl) h1
  obtain ⟨a, rfl, rfl, rfl, -⟩ := open_int Tryz.underlying3 (hval 2 3 v2 rfl rfl) h2
  obtain ⟨b, rfl, rfl, rfl, -⟩ := open_int Tryz.underlying3 (hval 3 3 v3 rfl rfl) h3
  clear hA0 hval0
  simp only [List.append_nil] at hW'
  obtain ⟨hE, hT⟩ := repl_env (size_of hsh) hL
  have key : Calls Tryz.prog 3 #[.slice p xs.length cap, .bool row, .int .i64 a, .int .i64 b] W fun e w' => e = .returned (.bool true) ∧ Below W.heap.size W w' := ps.rowsInsert_law p cap xs row a b W hx hE ⟨hE.full hE.size, max_of hsh⟩ hT
  refine key.mono fun e W' ⟨he, hg⟩ => ?_
  subst he
  exact ⟨_, rfl, _, _, _, [], _, [], hW', trodAll_mk1 (shut_bool Tryz.underlying4 _), hAft W' hg, rfl, hg.frame _, fun h => by cases h⟩
set_option maxRecDepth 100000 in
set_option maxHeartbeats 40000000 in
theorem joined_facts : joinedFacts Tryz.checked.prog 3 Tryz.f3 Rows.rowsInsertSpec Rows.rowsInsertRow = true := by
  unfold joinedFacts
  simp only [Bool.and_eq_true]
  repeat' apply And.intro
  all_goals (as_aux_lemma => kernel_rfl)
theorem func_named : Tryz.checked.prog.funcNamed Rows.rowsInsertRow.func = some 3 := by kernel_rfl
theorem is_instance : Tryz.f3.isInstance Tryz.checked.prog Rows.rowsInsertRow.origin Rows.rowsInsertRow.targs := of_decide_eq_true (by kernel_rfl)
theorem is_wrapper : Tryz.f3.isWrapper Tryz.checked.prog Rows.rowsInsertRow.wrapper Rows.rowsInsertRow.mainSum := by
  unfold Func.isWrapper; first | (rw [if_pos (by decide +kernel)]; kernel_rfl) | (rw [if_neg (by decide +kernel)]; exact ⟨rfl, rfl⟩) -- jcl
theorem row_holds : Rows.RowsInsertSaid :=
  OpenClaim.holds_of_wide 3 Tryz.f3 rfl rfl rfl rfl rfl rfl rfl ⟨rfl, rfl, rfl, rfl, rfl⟩ rfl rfl rfl rfl rfl func_named Tryz.func3 joined_facts is_instance is_wrapper
    (fun os started H enc _ => lifted os started H enc)
theorem card_holds : Rows.RowsInsertCardSaid :=
  Claim7.holds_tied_plain_at .later [] [.data, .data, .data, .data, .handle, .sentinel, .sentinel, .data, .data, .pinned] true Rows.rowsInsertCard.stood.harness true
    row_holds (fun _ h => by cases h) (by kernel_rfl) (fun _ h => by cases h) rowsInsert_row_tie rfl ⟨rfl, rfl⟩ (by kernel_rfl) rfl
    (fun f fn hf hfn => by
      obtain rfl : f = 3 := Option.some.inj ((show Tryz.prog.funcNamed "sccsettle/scclaw3.RowsInsert" = some 3 by kernel_rfl).symm.trans hf) |>.symm
      obtain rfl : fn = Tryz.f3 := (Option.some.inj (Tryz.func3.symm.trans hfn)).symm
      exact ⟨by kernel_rfl, fun j t ht => by
        rw [Tryz.params3] at ht
        have hm : t ∈ [22, 4, 3, 3] := by simpa using Array.mem_of_getElem? ht
        have hall : ([22, 4, 3, 3].all fun u => !Tryz.prog.wantsStandIn u) = true := by kernel_rfl
        exact (show Tryz.prog.wantsStandIn t = false by simpa using List.all_eq_true.1 hall t hm)⟩)
    (by kernel_rfl)
#print axioms card_holds
end Go.Proofs.YtgifkepklnhddaaGreatDoor.crowin

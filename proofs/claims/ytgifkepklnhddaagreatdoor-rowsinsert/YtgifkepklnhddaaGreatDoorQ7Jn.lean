import Derived.Test.YtgifkepklnhddaaGreatDoorQ7Jc
import Derived.Test.YtgifkepklnhddaaGreatDoorQ7As
import Derived.Test.YtgifkepklnhddaaGreatDoorTie
import Derived.Test.YtgifkepklnhddaaGreatDoorCards
import Derived.ProofKit
import Derived.Shelf.Vars
import Derived.LaidMore
import Derived.LaidSub
import Derived.OpenShut
import Derived.Stop.Joined
import Derived.SevenTiedAt
import Derived.Lib.SmallJoins
import Derived.Stop.LaidErr
import Derived.Lib.LaidTab
import Derived.ReadAgain
import Derived.ChangeOld
import Derived.Handed
import Derived.Below
import Derived.SizedLaws
namespace Go.Proofs.YtgifkepklnhddaaGreatDoor
open Go.ChangeShapes Go.WideShapes Go.ChangeAt Go.RowKit Go.Joins
theorem gSynT:(Tryz.prog.globals[9]?).map (·.type)=some 26:=by kernel_rfl
theorem gRanT:(Tryz.prog.globals[10]?).map (·.type)=some 26:=by kernel_rfl
theorem gPowT:(Tryz.prog.globals[3]?).map (·.type)=some 306:=by kernel_rfl
theorem gBadT:(Tryz.prog.globals[2]?).map (·.type)=some 293:=by kernel_rfl
theorem cells112:Tryz.prog.cellsOf 333=1:=by kernel_rfl
theorem cells9:Tryz.prog.cellsOf 9=1:=by kernel_rfl
theorem cells105:Tryz.prog.cellsOf 306=20:=by kernel_rfl
theorem cells51:Tryz.prog.cellsOf 293=6:=by kernel_rfl
theorem star : "*" ++ "errors.errorString" = "*errors.errorString":=by decide
theorem row110 (u:TypeId) (h:Tryz.prog.typeName? 3 u=some "*errors.errorString"):u=331 :=
 typeName_ptr_named (nm := "errors.errorString") (by rw [star];kernel_rfl) (by kernel_rfl) (by decide) u (by rw [star];exact h)
theorem bytes_eq {s t:ByteArray} (h:s.data.toList=t.data.toList):s=t:=by
 obtain⟨⟨l⟩⟩:=s
 obtain⟨⟨m⟩⟩:=t
 simp at h
 rw [h]
theorem six {α:Type} {l:List α} (h:l.length=6):∃ a b c d e f,l=[a,b,c,d,e,f]:=by
 match l,h with
 | [a,b,c,d,e,f],_=>exact⟨a,b,c,d,e,f,rfl⟩
theorem own:ownKnob Tryz.prog.godebug=none:=by kernel_rfl
theorem gOpsT:(Tryz.prog.globals[1]?).map (·.type)=some 251:=by kernel_rfl
theorem cells3:Tryz.prog.cellsOf 3=1:=by kernel_rfl
theorem cells120:Tryz.prog.cellsOf 250=2:=by kernel_rfl
theorem cells121:Tryz.prog.cellsOf 251=24:=by kernel_rfl
theorem list2 {α:Type} {l:List α} (h:l.length=2):∃ a b,l=[a,b]:=by
 match l,h with
 | [a,b],_=>exact⟨a,b,rfl⟩
theorem list12 {α:Type} {l:List α} (h:l.length=12):∃ x0 x1 x2 x3 x4 x5 x6 x7 x8 x9 x10 x11,l=[x0,x1,x2,x3,x4,x5,x6,x7,x8,x9,x10,x11]:=by
 match l,h with
 | [x0,x1,x2,x3,x4,x5,x6,x7,x8,x9,x10,x11],_=>exact⟨x0,x1,x2,x3,x4,x5,x6,x7,x8,x9,x10,x11,rfl⟩
theorem list24 {α:Type} {l:List α} (h:l.length=24):∃ c0 c1 c2 c3 c4 c5 c6 c7 c8 c9 c10 c11 c12 c13 c14 c15 c16 c17 c18 c19 c20 c21 c22 c23,l=[c0,c1,c2,c3,c4,c5,c6,c7,c8,c9,c10,c11,c12,c13,c14,c15,c16,c17,c18,c19,c20,c21,c22,c23]:=by
 match l,h with
 | [c0,c1,c2,c3,c4,c5,c6,c7,c8,c9,c10,c11,c12,c13,c14,c15,c16,c17,c18,c19,c20,c21,c22,c23],_=>exact⟨c0,c1,c2,c3,c4,c5,c6,c7,c8,c9,c10,c11,c12,c13,c14,c15,c16,c17,c18,c19,c20,c21,c22,c23,rfl⟩
set_option maxRecDepth 100000 in
theorem op_trod {H:Type} {enc:TypeId×Value→H} {W:World} {base:Nat} {spare:Nat→Bool} {held:Bool} {fuel:Nat} {cs:List Value} {x:DataW H×List MemPlace} (h:DataW.trod enc Tryz.prog W base spare held fuel 250 cs=some x) :
  ∃ (s:ByteArray) (n:Int),cs=[.string s,.int .i64 n]∧x.1=.agg [.lit (.string s.data.toList),.lit (.int .i64 n)]:=by
 obtain⟨y0,y1,n,rfl,hl,h0,h1⟩:=trod_struct2 Tryz.underlying250 h
 obtain⟨a,b,rfl⟩:=list2 (hl.trans cells120)
 simp only [cells3,cells9,List.drop_zero,List.drop_succ_cons,List.take_succ_cons,List.take_zero] at h0 h1
 obtain⟨s,e0,rfl,w0⟩:=DataW.trod_string Tryz.underlying9 h0
 obtain⟨r,e1,rfl,w1⟩:=DataW.trod_int Tryz.underlying3 h1
 simp at e0 e1
 subst e0 e1
 exact⟨s,r,rfl,rfl⟩
set_option maxRecDepth 100000 in
set_option maxHeartbeats 2000000 in
theorem ops_of {W:World} {r:List (String×DataW Unit)} (h:laidMet Tryz.prog (("sccsettle/formula.operators",Rows.laid_sccsettle_formula_operators)::r) W) :
  W.var? Tryz.prog "sccsettle/formula.operators"=some fm.opTab:=by
 obtain⟨ps,⟨g,t,c,fuel,p,q,hg,ht,hv,hd,_,_⟩,_,_⟩:=h
 obtain rfl:=Option.some.inj (fm.gOps.symm.trans hg)
 obtain rfl:=Option.some.inj (gOpsT.symm.trans ht)
 obtain⟨xs,m,rfl,hx,hlen,hn,hel⟩:=DataW.trod_array Tryz.underlying251 hd
 rw [cells121] at hlen
 rw [cells120] at hel
 obtain⟨l⟩:=c
 simp only [Prod.mk.injEq,Rows.laid_sccsettle_formula_operators,DataW.agg.injEq] at hx
 obtain⟨x0,x1,x2,x3,x4,x5,x6,x7,x8,x9,x10,x11,rfl⟩:=list12 hn
 obtain⟨c0,c1,c2,c3,c4,c5,c6,c7,c8,c9,c10,c11,c12,c13,c14,c15,c16,c17,c18,c19,c20,c21,c22,c23,rfl⟩:=list24 (show l.length=24 from hlen)
 obtain⟨s0,n0,e0,f0⟩:=op_trod (show DataW.trod _ Tryz.prog W 0 _ _ m 250 _=some x0 from hel 0 (by decide))
 obtain⟨s1,n1,e1,f1⟩:=op_trod (show DataW.trod _ Tryz.prog W 0 _ _ m 250 _=some x1 from hel 1 (by decide))
 obtain⟨s2,n2,e2,f2⟩:=op_trod (show DataW.trod _ Tryz.prog W 0 _ _ m 250 _=some x2 from hel 2 (by decide))
 obtain⟨s3,n3,e3,f3⟩:=op_trod (show DataW.trod _ Tryz.prog W 0 _ _ m 250 _=some x3 from hel 3 (by decide))
 obtain⟨s4,n4,e4,f4⟩:=op_trod (show DataW.trod _ Tryz.prog W 0 _ _ m 250 _=some x4 from hel 4 (by decide))
 obtain⟨s5,n5,e5,f5⟩:=op_trod (show DataW.trod _ Tryz.prog W 0 _ _ m 250 _=some x5 from hel 5 (by decide))
 obtain⟨s6,n6,e6,f6⟩:=op_trod (show DataW.trod _ Tryz.prog W 0 _ _ m 250 _=some x6 from hel 6 (by decide))
 obtain⟨s7,n7,e7,f7⟩:=op_trod (show DataW.trod _ Tryz.prog W 0 _ _ m 250 _=some x7 from hel 7 (by decide))
 obtain⟨s8,n8,e8,f8⟩:=op_trod (show DataW.trod _ Tryz.prog W 0 _ _ m 250 _=some x8 from hel 8 (by decide))
 obtain⟨s9,n9,e9,f9⟩:=op_trod (show DataW.trod _ Tryz.prog W 0 _ _ m 250 _=some x9 from hel 9 (by decide))
 obtain⟨s10,n10,e10,f10⟩:=op_trod (show DataW.trod _ Tryz.prog W 0 _ _ m 250 _=some x10 from hel 10 (by decide))
 obtain⟨s11,n11,e11,f11⟩:=op_trod (show DataW.trod _ Tryz.prog W 0 _ _ m 250 _=some x11 from hel 11 (by decide))
 simp at e0 e1 e2 e3 e4 e5 e6 e7 e8 e9 e10 e11
 obtain⟨rfl,rfl⟩:=e0
 obtain⟨rfl,rfl⟩:=e1
 obtain⟨rfl,rfl⟩:=e2
 obtain⟨rfl,rfl⟩:=e3
 obtain⟨rfl,rfl⟩:=e4
 obtain⟨rfl,rfl⟩:=e5
 obtain⟨rfl,rfl⟩:=e6
 obtain⟨rfl,rfl⟩:=e7
 obtain⟨rfl,rfl⟩:=e8
 obtain⟨rfl,rfl⟩:=e9
 obtain⟨rfl,rfl⟩:=e10
 obtain⟨rfl,rfl⟩:=e11
 simp only [List.map_cons,List.map_nil,f0,f1,f2,f3,f4,f5,f6,f7,f8,f9,f10,f11,List.cons.injEq,DataW.agg.injEq,DataW.lit.injEq,Lit.string.injEq,Lit.int.injEq,and_true,true_and] at hx
 obtain⟨⟨⟨g0,i0⟩,⟨g1,i1⟩,⟨g2,i2⟩,⟨g3,i3⟩,⟨g4,i4⟩,⟨g5,i5⟩,⟨g6,i6⟩,⟨g7,i7⟩,⟨g8,i8⟩,⟨g9,i9⟩,⟨g10,i10⟩,⟨g11,i11⟩⟩,_⟩:=hx
 subst i0
 subst i1
 subst i2
 subst i3
 subst i4
 subst i5
 subst i6
 subst i7
 subst i8
 subst i9
 subst i10
 subst i11
 rw [hv,bytes_eq (s:=s0) (t:=⟨#[]⟩) g0.symm,bytes_eq (s:=s1) (t:=⟨#[61]⟩) g1.symm,bytes_eq (s:=s2) (t:=⟨#[60,62]⟩) g2.symm,bytes_eq (s:=s3) (t:=⟨#[60]⟩) g3.symm,bytes_eq (s:=s4) (t:=⟨#[60,61]⟩) g4.symm,bytes_eq (s:=s5) (t:=⟨#[62]⟩) g5.symm,bytes_eq (s:=s6) (t:=⟨#[62,61]⟩) g6.symm,bytes_eq (s:=s7) (t:=⟨#[38]⟩) g7.symm,bytes_eq (s:=s8) (t:=⟨#[43]⟩) g8.symm,bytes_eq (s:=s9) (t:=⟨#[45]⟩) g9.symm,bytes_eq (s:=s10) (t:=⟨#[42]⟩) g10.symm,bytes_eq (s:=s11) (t:=⟨#[47]⟩) g11.symm]
 rfl
set_option maxRecDepth 100000 in
theorem bads_of {W:World} {r:List (String×DataW Unit)} (h:laidMet Tryz.prog (("sccsettle/value.badTexts",Rows.laid_sccsettle_value_badTexts)::r) W) :
  W.var? Tryz.prog "sccsettle/value.badTexts"=some #[.string bt0,.string bt1,.string bt2,.string bt3,.string bt4,.string bt5]:=by
 obtain⟨ps,⟨g,t,c,fuel,p,q,hg,ht,hv,hd,_,_⟩,_,_⟩:=h
 obtain rfl:=Option.some.inj (gBad.symm.trans hg)
 obtain rfl:=Option.some.inj (gBadT.symm.trans ht)
 obtain⟨xs,m,rfl,hx,hlen,hn,hel⟩:=DataW.trod_array Tryz.underlying293 hd
 rw [cells51] at hlen
 rw [cells9] at hel
 obtain⟨l⟩:=c
 simp only [Prod.mk.injEq,Rows.laid_sccsettle_value_badTexts,DataW.agg.injEq] at hx
 obtain⟨x0,x1,x2,x3,x4,x5,rfl⟩:=six hn
 obtain⟨c0,c1,c2,c3,c4,c5,rfl⟩:=six (show l.length=6 from hlen)
 obtain⟨s0,e0,f0,_⟩:=DataW.trod_string Tryz.underlying9 (show DataW.trod _ Tryz.prog W 0 _ _ m 9 _=some x0 from hel 0 (by decide))
 obtain⟨s1,e1,f1,_⟩:=DataW.trod_string Tryz.underlying9 (show DataW.trod _ Tryz.prog W 0 _ _ m 9 _=some x1 from hel 1 (by decide))
 obtain⟨s2,e2,f2,_⟩:=DataW.trod_string Tryz.underlying9 (show DataW.trod _ Tryz.prog W 0 _ _ m 9 _=some x2 from hel 2 (by decide))
 obtain⟨s3,e3,f3,_⟩:=DataW.trod_string Tryz.underlying9 (show DataW.trod _ Tryz.prog W 0 _ _ m 9 _=some x3 from hel 3 (by decide))
 obtain⟨s4,e4,f4,_⟩:=DataW.trod_string Tryz.underlying9 (show DataW.trod _ Tryz.prog W 0 _ _ m 9 _=some x4 from hel 4 (by decide))
 obtain⟨s5,e5,f5,_⟩:=DataW.trod_string Tryz.underlying9 (show DataW.trod _ Tryz.prog W 0 _ _ m 9 _=some x5 from hel 5 (by decide))
 simp at e0 e1 e2 e3 e4 e5
 subst e0 e1 e2 e3 e4 e5
 simp only [List.map_cons,List.map_nil,f0,f1,f2,f3,f4,f5,List.cons.injEq,DataW.lit.injEq,Lit.string.injEq,and_true] at hx
 obtain⟨⟨g0,g1,g2,g3,g4,g5⟩,_⟩:=hx
 rw [hv,bytes_eq (s:=s0) (t:=bt0) g0.symm,bytes_eq (s:=s1) (t:=bt1) g1.symm,bytes_eq (s:=s2) (t:=bt2) g2.symm,bytes_eq (s:=s3) (t:=bt3) g3.symm,bytes_eq (s:=s4) (t:=bt4) g4.symm,bytes_eq (s:=s5) (t:=bt5) g5.symm]
theorem size_of_var {W:World} {n:String} {g:Nat} {c:Array Value} (hg:Tryz.prog.globalNamed n=some g) (h:W.var? Tryz.prog n=some c):g<W.heap.size:=by
 unfold World.var? at h
 rw [hg] at h
 simp only [Option.bind_some] at h
 by_cases hh:g<W.heap.size
 ·exact hh
 ·rw [Array.getElem?_eq_none (by omega)] at h
  cases h
theorem gErr:Tryz.prog.globalNamed "errors.errorType"=some 0:=by kernel_rfl
theorem rtErr:(Tryz.prog.cutTypes.find? (·.1 == "internal/reflectlite.rtype")).map (·.2)=some 212:=by kernel_rfl
theorem oneErr:((List.range 361).filter fun t=>Tryz.prog.rowNamed t [101,114,114,111,114])=[26]:=by kernel_rfl
theorem sizeErr:Tryz.prog.types.size=361:=by kernel_rfl
theorem err_of_handle {W:World} (h:handlesMet Tryz.prog [("errors.errorType",Rows.laid_errors_errorType)] W):ErrTy W:=by
 obtain⟨name,u,ty,e1,e2,e3,e4,e5⟩:=h _ (List.mem_singleton.2 rfl)
 have en:name=[101,114,114,111,114]:=(Option.some.inj e1).symm
 subst en
 obtain rfl:=Option.some.inj (rtErr.symm.trans e2)
 have hm:ty∈(List.range 361).filter fun t=>Tryz.prog.rowNamed t [101,114,114,111,114]:=List.mem_filter.2 ⟨List.mem_range.2 (by rw [← sizeErr];exact e3),e4⟩
 rw [oneErr] at hm
 obtain rfl:=List.mem_singleton.1 hm
 have hh:typeHandle Tryz.prog 26=.pointer (some ⟨11,26,none⟩):=by kernel_rfl
 rw [hh] at e5
 exact⟨size_of_var gErr e5,by simpa using World.var?_cell gErr e5 0⟩
theorem max_of {W:World} (h:W.ShapedOpen Tryz.prog):∃ m,W.cell? ⟨4,0,none⟩=some (.int .i64 m) :=
 cell_of_shapedOpen_int (P:=Tryz.prog) (g:=4) (t:=3) (zero:=#[.int .i64 0]) h (of_decide_eq_true (by kernel_rfl)) (by kernel_rfl) rfl (by kernel_rfl) (by kernel_rfl) Tryz.underlying3
theorem size_of {W:World} (h:W.ShapedOpen Tryz.prog):10<W.heap.size:=by
 obtain⟨o,o0,h1,-,-⟩:=h.2 11 (of_decide_eq_true (by kernel_rfl)) (of_decide_eq_true (by kernel_rfl))
 have:=(Array.getElem?_eq_some_iff.1 h1).1
 omega
end Go.Proofs.YtgifkepklnhddaaGreatDoor
namespace Go.Proofs.YtgifkepklnhddaaGreatDoor.out
open Go.RowKit
section
variable {H:Type} {enc:TypeId×Value→H} {P:Program}
theorem trodAll_carry {w w':World} {base:Nat} {spare:Nat→Bool} {held:Bool}:∀ {ts:List TypeId} {vs:List Value} {ds:List (DataW H)} {ps:List MemPlace},
  DataW.TrodAll enc P w base spare held ts vs ds ps→(∀ p∈ps,w.sameAt w' p)→DataW.TrodAll enc P w' base spare held ts vs ds ps
 | [],[],[],_,h,_=>h
 | _::_,_::_,_::_,_,⟨p,q,⟨n,h1⟩,h2,e⟩,hs =>
  ⟨p,q,⟨n,DataW.trod_carry n _ _ _ h1 (fun x hx=>hs x (by rw [e];exact List.mem_append_left _ hx))⟩,trodAll_carry h2 (fun x hx=>hs x (by rw [e];exact List.mem_append_right _ hx)),e⟩
theorem sameAt_below {w w':World} (hb:Below w.heap.size w w') (p:MemPlace) (hp:p.block<w.heap.size):w.sameAt w' p:=by
 cases p with
 | cell b off=>exact hb.cell (p:=⟨b,off,none⟩) hp
 | map b=>exact hb.block b hp
theorem trodAll_after (hl:laidOutB P=true) (hm:mapsRowed P=true) (hz:((List.range P.types.size).all fun t=>match P.underlying t with | some (.slice e)=>decide (0<P.cellsOf e) | _=>true)=true)
  {w w':World} {ts:List TypeId} {vs:List Value} {ds:List (DataW H)} {ps:List MemPlace} (hts:∀ t∈ts,t<P.types.size)
  (h:DataW.TrodAll enc P w 0 (fun _=>true) true ts vs ds ps) (hb:Below w.heap.size w w'):DataW.TrodAll enc P w' 0 (fun b=>decide (b<w.heap.size)) true ts vs ds ps :=
 trodAll_carry (DataW.TrodAll.respare (kids_rows hl hm) (slices_full_of P hz) hts h (fun p hp=>decide_eq_true (h.lt p hp))) (fun p hp=>sameAt_below hb p (h.lt p hp))
theorem returnsInHanded_shaped {a:Assume} {C:Checked} {os:Os} {f:FuncId} {fn:Func} {s:ChangeSpec} {conds:List PathCond} {apart fresh handsOn again:Bool} {X:World→Array Value→Prop}
  (hX:∀ (w w':World) (args:Array Value),w.heap=w'.heap→X w args→X w' args)
  (own:ownKnob C.prog.godebug=none) (started:os.Started) (noInit:C.prog.inits.idxOf? f=none) (hfn:C.prog.funcs[f]?=some fn)
  (witness:∃ (w:World) (tape:Tape) (i:Input),w.os=os∧(w.forCall tape i).Shaped C.prog∧i.vars=[]∧Input.okWide C.prog (w.forCall tape i) .any w.heap.size f i ∧
   ((s.pre enc C.prog fn conds apart (w.forCall tape i).memory i.args∧X (w.forCall tape i).memory i.args)∧sizedMet enc C.prog fn (OpenSpec.ofChange s) apart (w.forCall tape i).memory i.args)∧a.holds C.prog (lone (Frame.enter C.prog f i.args .normal) [] (w.forCall tape i)))
  (contract:∀ (W:World) (base:Nat) (args:Array Value) (ds gs:List (DataW H)) (before:List MemPlace),
   (∀ (j:Nat) t v,fn.params[j]?=some t→args[j]?=some v→Value.okWide C.prog W .any base t v) →
   DataW.Whole enc C.prog fn.params.toList s.vars apart W args.toList ds gs before →
   conds.all (PathCond.test C.prog ⟨fn.params.toList,ds,s.plain.varTypes C.prog,gs⟩)=true →
   (DataW.weightsEach C.prog (fn.params.toList++s.plain.varTypes C.prog) (ds++gs)).all (·≤reachBytes)=true→X W args→W.ShapedOpen C.prog →
   a.holds C.prog (lone (Frame.enter C.prog f args .normal) [] W) →
   Calls C.prog f args W fun e W'=>∃ v,e=.returned v∧s.post enc C.prog fn apart fresh handsOn again W args v W') :
  ReturnsInHanded a C os f .any (fun w args=>(s.pre enc C.prog fn conds apart w args∧X w args)∧sizedMet enc C.prog fn (OpenSpec.ofChange s) apart w args) (s.post enc C.prog fn apart fresh handsOn again):=by
 refine returnsInHanded_of_calls own started noInit witness ?_
 intro w tape i _ hsh _ hok hpre hholds
 obtain⟨_,_,_,fn',hfn',_,_,_,_,hval⟩:=hok
 have e:fn'=fn:=Option.some.inj (hfn'.symm.trans hfn)
 subst e
 obtain⟨⟨⟨ds,gs,before,hw,hc⟩,hx⟩,hz⟩:=hpre
 have hw':=DataW.Whole.of_heap (w':=w.forCall tape i) (by rfl) hw
 refine (contract (w.forCall tape i) w.heap.size i.args ds gs before hval hw' hc (hz.weights hw) (hX _ _ _ (by rfl) hx) hsh hholds).mono fun e W' ⟨v,he,hp⟩=>?_
 subst he
 exact ChangeSpec.post_blind hp
end
end Go.Proofs.YtgifkepklnhddaaGreatDoor.out

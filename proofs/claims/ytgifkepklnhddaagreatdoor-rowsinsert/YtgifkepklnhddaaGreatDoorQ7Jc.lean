import Derived.Test.YtgifkepklnhddaaGreatDoorQ7Zd
import Derived.Test.YtgifkepklnhddaaGreatDoorQ7Jb
import Derived.BigQuiet
import Derived.Test.YtgifkepklnhddaaGreatDoorQ7Qb
import Derived.OwnWalk
import Derived.Laws.IdiomStrings
import Derived.Deep.QuietTactic
namespace Go.Proofs.YtgifkepklnhddaaGreatDoor.ps
open Go.RowKit
open adr (C isC ckc)
theorem eqIn30 (a b c d:Int) (m:Nat) (W:World):(Op.equalIn (m+2) 32 (.agg #[.int .i64 a,.int .i64 b]) (.agg #[.int .i64 c,.int .i64 d])).run Tryz.prog W=.ok (decide (a=c) && decide (b=d)) W:=by
 have hS:Tryz.prog.underlying 32=some (.struct (Tryz.prog.fieldsOf 32)):=by kernel_rfl
 have hp:Tryz.prog.stoodInHeld 32=false:=by kernel_rfl
 rw [run_equalIn_struct W (m+1) 32 _ _ hS hp]
 simp only [Program.fieldsOf,Tryz.underlying32]
 by_cases h1:a=c
 ·by_cases h2:b=d
  ·subst h1 h2;simp [Op.eqFields,go_sem]
  ·subst h1;simp [Op.eqFields,go_sem,h2]
 ·simp [Op.eqFields,go_sem,h1]
theorem FM.some {w:World} {p:Option Addr} {x:Fl} {l:List Fl} (h:FM w p (x::l)):∃ gx ox,p=.some ⟨gx,ox,none⟩∧gx<w.heap.size:=by
 rcases h with h | ⟨g,o,h1,h2,-⟩
 ·cases h
 ·exact⟨g,o,h1,h2⟩
theorem fm_new (W:World) (x:Fl):FM (W.alloc (.cells #[.int .i64 x.c,.int .i64 x.r,.string x.s] 44)) (.some ⟨W.heap.size,0,none⟩) [x]:=by
 have h:=heap_alloc_new W (.cells #[.int .i64 x.c,.int .i64 x.r,.string x.s] 44)
 refine .inr ⟨W.heap.size,0,rfl,fm.lt_blk h,fun t u hu=>?_⟩
 obtain⟨b0,b1,b2⟩:=cells3 h
 have hu':(fl3 x)[t]?=.some u:=by simpa [flF] using hu
 match t,hu' with
 | 0,e=>simp at e;subst e;exact b0
 | 1,e=>simp at e;subst e;exact b1
 | 2,e=>simp at e;subst e;exact b2
 | t+3,e=>simp at e
theorem emp_yes {s:ByteArray} (h:s.toList.isEmpty=true):s.size=0:=by
 rw [toList_nil h];rfl
theorem emp_no {s:ByteArray} (h:s.toList.isEmpty=false):s.size≠0:=fun e=>by
 rw [size_nul e] at h
 have:(nul.toList.isEmpty)=true:=by decide +kernel
 rw [this] at h
 cases h
theorem drewN_below (W:World) (k:Nat):Below W.heap.size W (W.drewN k):=⟨rfl,rfl,rfl,Nat.le_refl _,fun _ _=>rfl⟩
theorem FM.at {w:World} {p:Option Addr} {xs:List Fl} (h:FM w p xs) {i:Nat} {x:Fl} (hx:xs[i]?=.some x):∃ g o,p=.some ⟨g,o,none⟩∧g<w.heap.size:=by
 rcases h with h | ⟨g,o,h1,h2,-⟩
 ·subst h;simp at hx
 ·exact⟨g,o,h1,h2⟩
theorem srt_get {xs:List Fl} (hs:Srt xs) {a b:Nat} {x y:Fl} (hx:xs[a]?=some x) (hy:xs[b]?=some y) (h:a<b):lt x y.c y.r=true:=by
 obtain⟨h1,rfl⟩:=List.getElem?_eq_some_iff.1 hx
 obtain⟨h2,rfl⟩:=List.getElem?_eq_some_iff.1 hy
 exact List.pairwise_iff_getElem.1 hs a b h1 h2 h
theorem froz {W:World} {b:Nat} {cs:Array Value} {t:TypeId} (h:W.heap[b]?=some (.cells cs t (0,0))) (o:Nat):W.frozen? ⟨b,o,none⟩=false:=by simp [World.frozen?,h]
structure EnvP (w:World):Prop where
 size:10<w.heap.size
 tab:Lib.TabIs Tryz.prog w "internal/strconv.uint64pow10" .u64 Lib.pow10Tab
 syn:∃ (tp:TypeId) (p:Value),w.var? Tryz.prog "strconv.ErrSyntax"=some #[.iface tp p]
 ran:∃ (tp:TypeId) (p:Value),w.var? Tryz.prog "strconv.ErrRange"=some #[.iface tp p]
 bads:w.var? Tryz.prog "sccsettle/value.badTexts"=some #[.string bt0,.string bt1,.string bt2,.string bt3,.string bt4,.string bt5]
 ops:w.var? Tryz.prog "sccsettle/formula.operators"=some fm.opTab
theorem EnvP.below {w w':World} {B:Nat} (h:EnvP w) (hb:Below B w w') (hB:10<B):EnvP w' :=
 ⟨Nat.lt_of_lt_of_le h.size hb.size,var?_below hb gPow (by omega) h.tab,
  h.syn.elim fun tp e=>e.elim fun p e=>⟨tp,p,var?_below hb gSyn (by omega) e⟩,
  h.ran.elim fun tp e=>e.elim fun p e=>⟨tp,p,var?_below hb gRan (by omega) e⟩,
  var?_below hb gBad (by omega) h.bads,var?_below hb fm.gOps (by omega) h.ops⟩
theorem EnvP.full {w:World} (h:EnvP w) (hz:10<w.heap.size):fm.EnvF w:=⟨⟨hz,h.tab,h.syn,h.ran,h.bads⟩,h.ops⟩
def eqS (s:ByteArray):Bool:=(s.extract 0 1).toList == [61]
set_option maxHeartbeats 1600000 in
theorem slite_any (s:ByteArray) (w:World) (hs:1≤s.size) (hz:s.size≤200):Calls Tryz.prog 149 #[.string s,.string ⟨#[61]⟩] w fun e w'=>e=.returned (.bool (eqS s))∧w'=w:=by
 have h1:(1:Int)≤(s.size:Int):=by omega
 have h2:(s.size:Int)≤200:=by omega
 obtain⟨b,hb⟩:∃ b,eqS s=b:=⟨_,rfl⟩
 have hb':((s.extract 0 1).toList == [61])=b:=hb
 rw [hb]
 clear hb
 go_enter Tryz.func149,Tryz.ntmps149
 go_wp2_with fail
 go_ret
 exact⟨rfl,rfl⟩
set_option maxHeartbeats 1600000 in
theorem prefix_any (s:ByteArray) (w:World) (hs:1≤s.size) (hz:s.size≤200):Calls Tryz.prog 127 #[.string s,.string ⟨#[61]⟩] w fun e w'=>e=.returned (.bool (eqS s))∧w'=w:=by
 have H:Hid (Calls Tryz.prog 149 #[.string s,.string ⟨#[61]⟩] w fun e w'=>e=.returned (.bool (eqS s))∧w'=w):=slite_any s w hs hz
 go_enter Tryz.func127,Tryz.ntmps127
 go_wp2_with fail
 refine H.out.mono ?_
 rintro e w1 ⟨rfl,rfl⟩
 go_wp2_with fail
 go_ret
 exact⟨rfl,rfl⟩
set_option maxHeartbeats 1600000 in
theorem constant_any (s:ByteArray) (w:World) (hs:1≤s.size) (hz:s.size≤200):Calls Tryz.prog 91 #[.string s] w fun e w'=>e=.returned (.bool (!eqS s))∧w'=w:=by
 have H:Hid (Calls Tryz.prog 127 #[.string s,.string ⟨#[61]⟩] w fun e w'=>e=.returned (.bool (eqS s))∧w'=w):=prefix_any s w hs hz
 go_enter Tryz.func91,Tryz.ntmps91
 go_wp2_with fail
 refine H.out.mono ?_
 rintro e w1 ⟨rfl,rfl⟩
 go_wp2_with fail
 go_ret
 exact⟨rfl,rfl⟩
theorem lt_trans {x y:Fl} {c r:Int} (h1:lt x y.c y.r=true) (h2:lt y c r=true):lt x c r=true:=by
 rw [lt_iff] at *
 omega
theorem srt_snoc {l:List Fl} {x:Fl} (hs:Srt l) (h:∀ y,l.getLast?=some y→lt y x.c x.r=true):Srt (l++[x]):=by
 refine List.pairwise_append.2 ⟨hs,by simp,fun a ha b hb=>?_⟩
 have e:b=x:=by simpa using hb
 subst e
 obtain⟨i,hi⟩:=List.getElem?_of_mem ha
 have hl:l.length≠0:=fun e=>by rw [List.length_eq_zero_iff.1 e] at ha;cases ha
 have hlast:l.getLast?=l[l.length - 1]?:=by rw [List.getLast?_eq_getElem?]
 obtain⟨y,hy⟩:∃ y,l[l.length - 1]?=some y:=⟨_,List.getElem?_eq_getElem (by omega)⟩
 have hy':=h y (by rw [hlast,hy])
 have hlt:=(List.getElem?_eq_some_iff.1 hi).1
 by_cases e:i=l.length - 1
 ·subst e
  rw [hi] at hy
  injection hy with hy
  subst hy
  exact hy'
 ·exact lt_trans (srt_get hs hi hy (by omega)) hy'
theorem srt_take {xs:List Fl} {i:Nat} {x:Fl} (hs:Srt (xs.take i)) (hx:xs[i]?=some x) (h:∀ y,0<i→xs[i - 1]?=some y→lt y x.c x.r=true):Srt (xs.take (i+1)):=by
 have hlt:=(List.getElem?_eq_some_iff.1 hx).1
 rw [List.take_add_one,hx]
 refine srt_snoc hs (fun y hy=>?_)
 rw [List.getLast?_eq_getElem?,List.length_take,Nat.min_eq_left (by omega)] at hy
 by_cases e:i=0
 ·subst e;simp at hy
 ·exact h y (by omega) (by rw [List.getElem?_take] at hy;rw [if_pos (by omega)] at hy;exact hy)
def zr12 (n:Nat):Array Value:=madeCells fm.NZ (n*12)
theorem zr12_size (n:Nat):(zr12 n).size=n*12:=by
 unfold zr12
 simp [madeCells]
theorem info65:(Tryz.prog.info? 57).map (fun i=>(i.zero,i.size,i.bytes))=some (some (.agg fm.NZ),12,104):=by kernel_rfl
theorem make65 (n:Nat) (hn:n≤100000) (w:World):(Instr.makeSlice 55 (.int .i64 (n:Int)) (.int .i64 (n:Int))).run Tryz.prog w=.ok (.slice (some ⟨w.heap.size,0,none⟩) n n) (w.alloc (.cells (zr12 n) 57)):=by
 obtain⟨i0,hi,hz0,hz1,hz2⟩:=info_parts info65
 have:=run_make (P:=Tryz.prog) w 55 57 i0 _ Tryz.underlying55 hi hz0 .i64 .i64 (n:Int) (n:Int) (by omega) (by omega) (by rw [hz2];omega) (by omega)
 rw [this,hz1]
 simp [zr12,Value.cells]
def LW (w:World) (n:Nat) (wr:World):Prop:=Below w.heap.size w wr∧∃ cs,wr.heap[w.heap.size]?=some (.cells cs 57 (0,0))∧cs.size=n*12
theorem LW.next {w:World} {n:Nat} {wr wx:World} (h:LW w n wr) (hb:Below wr.heap.size wr wx):LW w n wx:=by
 obtain⟨h1,cs,h2,h3⟩:=h
 exact⟨bnext h1 hb h1.size,cs,(hb.block _ (fm.lt_blk h2)).trans h2,h3⟩
theorem LW.at {w:World} {n:Nat} {wr:World} (h:LW w n wr) {i j:Nat} (hi:i<n) (hj:j<12):(∃ u,wr.cell? ⟨w.heap.size,i*12+j,none⟩=some u)∧wr.frozen? ⟨w.heap.size,i*12+j,none⟩=false:=by
 obtain⟨h1,cs,h2,h3⟩:=h
 refine⟨⟨cs[i*12+j]'(by omega),?_⟩,froz h2 _⟩
 rw [fm.cell_blk h2]
 exact Array.getElem?_eq_getElem _
theorem LW.make (w:World) (n:Nat):LW w n (w.alloc (.cells (zr12 n) 57)):=⟨(Below.refl _ _).alloc (Nat.le_refl _) _,_,heap_alloc_new _ _,zr12_size n⟩
theorem LW.ahead {w:World} {n:Nat} {wr:World} (h:LW w n wr):Below w.heap.size w wr:=h.1
def isE:fm.Rs fm.T→Bool
 | .ok _ _=>false
 | .err _ _=>true
def isBadF (s:ByteArray):Bool:=isE (fm.parse fm.lexP s)
def ckT (s:ByteArray):Int:=if s.size=0 then 3 else if 200<s.size then 4 else if eqS s=true then (if isBadF s=true then 2 else 0) else 0
theorem ckT_emp {s:ByteArray} (h:s.size=0):ckT s=3:=if_pos h
theorem ckT_long {s:ByteArray} (h:200<s.size):ckT s=4:=by unfold ckT;rw [if_neg (by omega),if_pos h]
theorem ckT_const {s:ByteArray} (h:s.size≠0) (h2:s.size≤200) (h3:eqS s=false):ckT s=0:=by unfold ckT;rw [if_neg h,if_neg (by omega),if_neg (by simp [h3])]
theorem ckT_good {s:ByteArray} (h:s.size≠0) (h2:s.size≤200) (h3:eqS s=true) (h4:isBadF s=false):ckT s=0:=by unfold ckT;rw [if_neg h,if_neg (by omega),if_pos h3,if_neg (by simp [h4])]
theorem ckT_bad {s:ByteArray} (h:s.size≠0) (h2:s.size≤200) (h3:eqS s=true) (h4:isBadF s=true):ckT s=2:=by unfold ckT;rw [if_neg h,if_neg (by omega),if_pos h3,if_pos h4]
theorem ckT_zero {s:ByteArray} (h:ckT s=0):s.size≠0∧s.size≤200:=by
 unfold ckT at h
 split at h
 ·cases h
 ·split at h
  ·cases h
  ·exact⟨by assumption,by omega⟩
def errV (e:Int):Value:=if e=0 then .nilIface else .iface 100 (.int .i64 e)
theorem errV_some {e:Int} (h:e≠0):errV e=.iface 100 (.int .i64 e):=if_neg h
end Go.Proofs.YtgifkepklnhddaaGreatDoor.ps
namespace Go.Proofs.YtgifkepklnhddaaGreatDoor.ps
open Go.RowKit
open adr (C isC ckc)
def ordB (xs:List Fl) (i:Nat) (x:Fl):Bool:=match i with
 | 0=>false
 | k+1=>match xs[k]? with
  | some y=>!lt y x.c x.r
  | none=>false
def cd (xs:List Fl) (i:Nat):Int:=match xs[i]? with
 | none=>0
 | some x=>if isC x.c x.r=false then 1 else if ordB xs i x=true then 5 else ckT x.s
theorem cd_range {xs:List Fl} {i:Nat} {x:Fl} (h:xs[i]?=some x) (h1:isC x.c x.r=false):cd xs i=1:=by unfold cd;rw [h];exact if_pos h1
theorem cd_order {xs:List Fl} {i:Nat} {x:Fl} (h:xs[i]?=some x) (h1:isC x.c x.r=true) (h2:ordB xs i x=true):cd xs i=5:=by unfold cd;rw [h];show (if _ then _ else _)=_;rw [if_neg (by simp [h1]),if_pos h2]
theorem cd_text {xs:List Fl} {i:Nat} {x:Fl} (h:xs[i]?=some x) (h1:isC x.c x.r=true) (h2:ordB xs i x=false):cd xs i=ckT x.s:=by unfold cd;rw [h];show (if _ then _ else _)=_;rw [if_neg (by simp [h1]),if_neg (by simp [h2])]
theorem cd_zero {xs:List Fl} {i:Nat} {x:Fl} (h:xs[i]?=some x) (h0:cd xs i=0):isC x.c x.r=true∧ordB xs i x=false∧ckT x.s=0:=by
 cases h1:isC x.c x.r with
 | false=>rw [cd_range h h1] at h0;cases h0
 | true =>
  cases h2:ordB xs i x with
  | true=>rw [cd_order h h1 h2] at h0;cases h0
  | false=>rw [cd_text h h1 h2] at h0;exact⟨rfl,rfl,h0⟩
def Told (xs:List Fl) (e:Int):Prop:=(200<xs.length∧e=4)∨(xs.length≤200∧((e=0∧∀ i,i<xs.length→cd xs i=0)∨(e≠0∧∃ i,i<xs.length∧cd xs i=e∧∀ j,j<i→cd xs j=0)))
theorem Told.one {xs:List Fl} {e e':Int} (h:Told xs e) (h':Told xs e'):e=e':=by
 rcases h with ⟨h1,h2⟩ | ⟨h1,h2⟩
 ·rcases h' with ⟨g1,g2⟩ | ⟨g1,g2⟩
  ·omega
  ·omega
 ·rcases h' with ⟨g1,g2⟩ | ⟨g1,g2⟩
  ·omega
  ·rcases h2 with ⟨rfl,h3⟩ | ⟨h3,i,h4,h5,h6⟩
   ·rcases g2 with ⟨g,-⟩ | ⟨g3,i,g4,g5,g6⟩
    ·exact g.symm
    ·exact absurd (g5.symm.trans (h3 i g4)) g3
   ·rcases g2 with ⟨rfl,g3⟩ | ⟨g3,k,g4,g5,g6⟩
    ·exact absurd (h5.symm.trans (g3 i h4)) h3
    ·rcases Nat.lt_trichotomy i k with hk | hk | hk
     ·exact absurd (h5.symm.trans (g6 i hk)) h3
     ·subst hk;exact h5.symm.trans g5
     ·exact absurd (g5.symm.trans (h6 k hk)) g3
structure Fine (xs:List Fl):Prop where
 len:xs.length≤200
 srt:Srt xs
 cell:∀ x∈xs,isC x.c x.r=true∧x.s.size≠0∧x.s.size≤200
theorem Told.fine {xs:List Fl} (h:Told xs 0):Fine xs:=by
 rcases h with ⟨_,h2⟩ | ⟨h1,h2⟩
 ·cases h2
 ·rcases h2 with ⟨-,h3⟩ | ⟨h3,-⟩
  ·have key:∀ i,i≤xs.length→Srt (xs.take i):=by
    intro i
    induction i with
    | zero=>intro _;simp [Srt]
    | succ i ih =>
     intro hi
     obtain⟨x,hx⟩:∃ x,xs[i]?=some x:=⟨_,List.getElem?_eq_getElem (by omega)⟩
     refine srt_take (ih (by omega)) hx (fun y hy hy'=>?_)
     have:=(cd_zero hx (h3 i (by omega))).2.1
     obtain⟨k,rfl⟩:∃ k,i=k+1:=⟨i - 1,by omega⟩
     unfold ordB at this
     rw [show k+1 - 1=k from rfl] at hy'
     simp only [hy'] at this
     simpa using this
   refine⟨h1,by have:=key xs.length (Nat.le_refl _);rwa [List.take_length] at this,fun x hx=>?_⟩
   obtain⟨i,hi⟩:=List.getElem?_of_mem hx
   have:=cd_zero hi (h3 i (List.getElem?_eq_some_iff.1 hi).1)
   exact⟨this.1,ckT_zero this.2.2⟩
  ·exact absurd rfl h3
def FK (xs:List Fl) (i:Nat):Prop:=∀ j,j<i→cd xs j=0
theorem FK.snoc {xs:List Fl} {i:Nat} (h:FK xs i) (h1:cd xs i=0):FK xs (i+1):=fun j hj=>by
 by_cases e:j=i
 ·subst e;exact h1
 ·exact h j (by omega)
theorem FK.found {xs:List Fl} {i:Nat} {x:Fl} (h:FK xs i) (hl:xs.length≤200) (hx:xs[i]?=some x) {e:Int} (h1:cd xs i=e) (h2:e≠0):Told xs e :=
 .inr ⟨hl,.inr ⟨h2,i,(List.getElem?_eq_some_iff.1 hx).1,h1,h⟩⟩
theorem FK.none {xs:List Fl} (h:FK xs xs.length) (hl:xs.length≤200):Told xs 0:=.inr ⟨hl,.inl ⟨rfl,h⟩⟩
abbrev FG (w1:World) (gx oy bb:Nat) (y x:Fl) (wx:World):Prop:=wx.cell? ⟨gx,oy,none⟩=some (.int .i64 y.c)∧wx.cell? ⟨gx,oy+1,none⟩=some (.int .i64 y.r)∧wx.cell? ⟨bb,0,none⟩=some (.int .i64 x.c)∧wx.cell? ⟨bb,1,none⟩=some (.int .i64 x.r)∧Below w1.heap.size w1 wx
theorem fgb {w1:World} {gx oy bb:Nat} {y x:Fl} {wx:World} (h:FG w1 gx oy bb y x wx):Below w1.heap.size w1 wx:=h.2.2.2.2
end Go.Proofs.YtgifkepklnhddaaGreatDoor.ps
namespace Go.Proofs.YtgifkepklnhddaaGreatDoor.fm
open Go.RowKit
theorem kd_chg {C:Chg} {t:T} (h:t.kd≠6):(chg C t).kd≠6:=by
 cases t with
 | nd k n s r t ts =>
  have h:k≠6:=h
  rw [chg_eq]
  unfold chgN
  split
  ·split
   ·show (4:Int)≠6;decide
   ·exact h
  ·exact h
theorem bd_cnt {t:T} (hO:Ok t) {N:Nat}:t.cnt≤N→Bd N t:=by
 induction hO with
 | @mk k n s r u ts hn hl hs ih =>
  intro h
  rw [cnt_eq] at h
  have h1:=cntL_len ts
  exact .mk (by omega) (fun i v hv=>ih i v hv (by have:=cntL_kid ts i v hv;omega))
theorem lst_ex {α β:Type} (P:Nat→α→β→Prop):∀ (la:List α),(∀ (i:Nat) a,la[i]?=some a→∃ b,P i a b)→∃ lb:List β,lb.length=la.length∧∀ (i:Nat) a b,la[i]?=some a→lb[i]?=some b→P i a b:=by
 intro la
 induction la generalizing P with
 | nil=>exact fun _=>⟨[],rfl,fun i a b h=>by simp at h⟩
 | cons a la ih =>
  intro h
  obtain⟨b,hb⟩:=h 0 a rfl
  obtain⟨bs,hl,hp⟩:=ih (fun i=>P (i+1)) (fun i a' ha=>h (i+1) a' (by simpa using ha))
  refine⟨b::bs,by simp [hl],fun i a' b' h1 h2=>?_⟩
  cases i with
  | zero=>simp at h1 h2;subst h1;subst h2;exact hb
  | succ i=>exact hp i a' b' (by simpa using h1) (by simpa using h2)
theorem w_chg {C:Chg} (hr:∀ r r',isK r→C.ref r=some r'→isK r') (hb:∀ r t x,isK r→isK t→C.box r t=some x→isK x.1∧isK x.2) {t:T} {x:List UInt8} {d:Nat} (h:W ink t x d):∃ x1 d1,W ink (chg C t) x1 d1:=by
 have hbad:∃ x1 d1,W ink badN x1 d1:=⟨_,_,W.bad (K:=ink) (n:=3) (by decide) (by decide)⟩
 induction h with
 | num h0 h1=>exact⟨_,_,.num h0 h1⟩
 | text h=>exact⟨_,_,.text h⟩
 | truth h=>exact⟨_,_,.truth h⟩
 | bad h h6=>exact⟨_,_,.bad h h6⟩
 | @ref r h =>
  rw [chg_eq];unfold chgN;rw [if_pos rfl]
  cases hc:C.ref r with
  | none=>exact hbad
  | some r'=>exact⟨_,_,.ref (hr r r' h hc)⟩
 | @box r t h h2 =>
  rw [chg_eq];unfold chgN;rw [if_neg (by decide),if_pos rfl]
  cases hc:C.box r t with
  | none=>exact hbad
  | some x=>exact⟨_,_,.box (hb r t x h h2 hc).1 (hb r t x h h2 hc).2⟩
 | @neg a x d ha h ih =>
  obtain⟨x1,d1,h1⟩:=ih
  exact⟨_,_,.neg (kd_chg ha) h1⟩
 | @two op a b x y d e h1 h11 ha hb hx hy ihx ihy =>
  obtain⟨x1,d1,g1⟩:=ihx
  obtain⟨y1,e1,g2⟩:=ihy
  exact⟨_,_,.two h1 h11 (kd_chg ha) (kd_chg hb) g1 g2⟩
 | @call name ts xs ds hn hx hd h ih =>
  obtain⟨ps,hl,hp⟩:=lst_ex (fun (i:Nat) (t:T) (p:List UInt8×Nat)=>W ink (chg C t) p.1 p.2) ts (fun i t hi=>by
   have hi':=(List.getElem?_eq_some_iff.1 hi).1
   obtain⟨x1,d1,g⟩:=ih i t _ _ hi (List.getElem?_eq_getElem (by omega)) (List.getElem?_eq_getElem (by omega))
   exact⟨(x1,d1),g⟩)
  refine⟨_,_,.call (ts:=chgL C ts) (xs:=ps.map (·.1)) (ds:=ps.map (·.2)) hn (by rw [chgL_len];simp [hl]) (by rw [chgL_len];simp [hl]) (fun i t x d g1 g2 g3=>?_)⟩
  rw [chgL_at] at g1
  obtain⟨v,hv,rfl⟩:=Option.map_eq_some_iff.1 g1
  rw [List.getElem?_map] at g2 g3
  obtain⟨p,hp1,rfl⟩:=Option.map_eq_some_iff.1 g2
  obtain⟨p',hp2,rfl⟩:=Option.map_eq_some_iff.1 g3
  rw [hp1] at hp2
  cases hp2
  exact hp i v p hv hp1
inductive Gp:T→Prop
 | mk {k n:Int} {s:ByteArray} {r t:Rf} {ts:List T} (h5:k=5→n=0∧s=nul∧t=.z∧ts=[]∧isK r) (h6:k=6→n=0∧s=nul∧ts=[]∧isK r∧isK t) (hs:∀ (i:Nat) u,ts[i]?=some u→Gp u):Gp (.nd k n s r t ts)
theorem gp_of {t:T} {x:List UInt8} {d:Nat} (h:W ink t x d):Gp t:=by
 induction h with
 | num h0 h1=>exact .mk (fun e=>by cases e) (fun e=>by cases e) (fun i u h=>by simp at h)
 | text h=>exact .mk (fun e=>by cases e) (fun e=>by cases e) (fun i u h=>by simp at h)
 | truth h=>exact .mk (fun e=>by cases e) (fun e=>by cases e) (fun i u h=>by simp at h)
 | bad h h6=>exact .mk (fun e=>by cases e) (fun e=>by cases e) (fun i u h=>by simp at h)
 | ref h=>exact .mk (fun _=>⟨rfl,rfl,rfl,rfl,h⟩) (fun e=>by cases e) (fun i u h=>by simp at h)
 | box h h2=>exact .mk (fun e=>by cases e) (fun _=>⟨rfl,rfl,rfl,h,h2⟩) (fun i u h=>by simp at h)
 | neg ha h ih=>exact .mk (fun e=>by cases e) (fun e=>by cases e) (fun i u hu=>by
   have:=List.mem_of_getElem? hu;rw [List.mem_singleton] at this;rw [this];exact ih)
 | two h1 h11 ha hb hx hy ihx ihy=>exact .mk (fun e=>by cases e) (fun e=>by cases e) (fun i u hu=>by
   rcases List.mem_cons.1 (List.mem_of_getElem? hu) with rfl | hu
   ·exact ihx
   ·rw [List.mem_singleton] at hu;rw [hu];exact ihy)
 | @call name ts xs ds hn hx hd h ih=>exact .mk (fun e=>by cases e) (fun e=>by cases e) (fun i u hu=>by
   have hi:=(List.getElem?_eq_some_iff.1 hu).1
   exact ih i _ _ _ hu (List.getElem?_eq_getElem (by omega)) (List.getElem?_eq_getElem (by omega)))
def RwS (C:Chg) (s:ByteArray) (o:Option ByteArray):Prop:=(ps.eqS s=false∧o=some s) ∨
 (ps.eqS s=true∧∃ T0 k x d x1 d1,parse lexP s=.ok T0 k∧W ink T0 x d∧T0.kd≠6∧T0.cnt≤200∧Ok T0∧(x.length+1≤200∧d≤30)∧W ink (chg C T0) x1 d1 ∧
  ((chg C T0=T0∧x1=x∧d1=d∧o=some s)∨(chg C T0≠T0∧(x1.length+1≤200∧d1≤30)∧x1≠x∧o=some ⟨(61::x1).toArray⟩)∨(chg C T0≠T0∧¬ (x1.length+1≤200∧d1≤30)∧o=none)))
theorem rw_ex {C:Chg} (hr:∀ r r',isK r→C.ref r=some r'→isK r') (hb:∀ r t x,isK r→isK t→C.box r t=some x→isK x.1∧isK x.2) (s:ByteArray) (hs:ps.eqS s=true→∃ T0 k,parse lexP s=.ok T0 k):∃ o,RwS C s o:=by
 cases he:ps.eqS s with
 | false=>exact⟨_,.inl ⟨he,rfl⟩⟩
 | true =>
  obtain⟨T0,k,hp⟩:=hs he
  obtain⟨x,d,hW,h6,hc,hO,hl1,-,hl2⟩:=back_two hp
  by_cases hT:chg C T0=T0
  ·exact⟨some s,.inr ⟨he,T0,k,x,d,x,d,hp,hW,h6,hc,hO,⟨hl1,hl2⟩,by rw [hT];exact hW,.inl ⟨hT,rfl,rfl,rfl⟩⟩⟩
  ·obtain⟨x1,d1,hW1⟩:=w_chg hr hb hW
   by_cases hsm:x1.length+1≤200∧d1≤30
   ·refine⟨some ⟨(61::x1).toArray⟩,.inr ⟨he,T0,k,x,d,x1,d1,hp,hW,h6,hc,hO,⟨hl1,hl2⟩,hW1,.inr (.inl ⟨hT,hsm,fun e=>?_,rfl⟩)⟩⟩
    subst e
    have e1:=back_one hW h6 hl1 hl2
    have e2:=back_one hW1 (kd_chg h6) hsm.1 hsm.2
    rw [e1] at e2
    injection e2 with e3
    exact hT e3.symm
   ·exact⟨none,.inr ⟨he,T0,k,x,d,x1,d1,hp,hW,h6,hc,hO,⟨hl1,hl2⟩,hW1,.inr (.inr ⟨hT,hsm,rfl⟩)⟩⟩
theorem in_keep (row:Bool) (at' many:Int) (h0:0≤many) (r r':Rf) (h:isK r) (hm:(Cw (inR row at' many)).ref r=some r'):isK r':=(in_back row at' many h0 r r' h hm).1
theorem cw_box {f:Rf→Rf×Bool} (h:∀ r r',isK r→(Cw f).ref r=some r'→isK r') (r t:Rf) (x:Rf×Rf) (hr:isK r) (ht:isK t) (hm:(Cw f).box r t=some x):isK x.1∧isK x.2:=by
 obtain⟨h1,h2⟩:=opt_some (show opt (both f r t)=some x from hm)
 have h1':((f r).2 && (f t).2)=true:=h1
 rw [Bool.and_eq_true] at h1'
 subst h2
 exact⟨h r _ hr (opt_of h1'.1),h t _ ht (opt_of h1'.2)⟩
end Go.Proofs.YtgifkepklnhddaaGreatDoor.fm
namespace Go.Proofs.YtgifkepklnhddaaGreatDoor.fm
open Go.RowKit
abbrev KV (kind at' end':Int) (t:ByteArray):Value:=.agg #[.int .i64 kind,.int .i64 at',.int .i64 end',.string t]
abbrev KZ:Array Value:=#[.int .i64 0,.int .i64 0,.int .i64 0,.string nul]
theorem wordly_any (c:Nat) (w:World):Calls Tryz.prog 113 #[.int .u8 c] w fun e w'=>e=.returned (.bool (isW c))∧w'=w:=by
 go_enter Tryz.func113,Tryz.ntmps113
 go_wp2
 all_goals
  go_ret
  refine⟨retB ?_,rfl⟩
  rw [Bool.eq_iff_iff]
  simp [isW]
  omega
set_option maxRecDepth 100000 in
set_option maxHeartbeats 4000000 in
theorem token_end (s:ByteArray) (k:Nat) (w:World) (hs:s.size≤200) (hk:k≤s.size) (he:skip s k=s.size) :
  Calls Tryz.prog 81 #[.string s,.int .i64 k] w fun e w'=>e=.returned (KV 0 (skip s k:Nat) (skip s k:Nat) nul)∧Below w.heap.size w w':=by
 have hb0:Below w.heap.size w (w.alloc (.cells KZ 137)):=(Below.refl _ _).alloc (Nat.le_refl _) _
 have hk1:=(skip_spec s k).2.2 hk
 have HE:Hid (skip s k=s.size):=he
 clear he
 go_enter Tryz.func81,Tryz.ntmps81
 go_wp2_with fail
 go_loopw [1] (fun i wr=>∃ j:Nat,i=.int .i64 j∧j≤s.size∧skip s j=skip s k∧wr=w.alloc (.cells KZ 137)) (fun i _=>s.size - (intOf i).toNat)
 case atStart=>exact⟨k,rfl,hk,rfl,rfl⟩
 case round =>
  obtain⟨j,rfl,hj,hsk,rfl⟩:=hrel
  by_cases c32:nx s j=32
  ·have hlt:=nx_lt (s:=s) (k:=j) (by omega)
   have hq:((s[j].toNat:Nat):Int)=32:=by rw [nx_in hlt] at c32;omega
   have hq':(((s[j].toNat:Nat):Int) == 32)=true:=by rw [beq_iff_eq];exact hq
   have HS:Hid (skip s j=skip s k):=hsk
   have HC:Hid (nx s j=32):=c32
   clear hsk c32 hq
   go_wp2_with fail
   exact⟨⟨j+1,by simp,hlt,by rw [← HS.out,skip_blank HC.out],trivial⟩,by simp [intOf];omega⟩
  ·have hja:j=skip s k:=by rw [← hsk,skip_else c32]
   subst hja
   clear hsk
   have hn:¬ ((skip s k:Nat):Int)<(s.size:Int):=by rw [HE.out];omega
   have hq:(((skip s k:Nat):Int) == (s.size:Int))=true:=by rw [beq_iff_eq,HE.out]
   go_wp2_with fail
   exact bodyPost_ret (v:=KV 0 (skip s k:Nat) (skip s k:Nat) nul) (by simp [results,Tryz.results81,go_sem]) rfl ⟨rfl,by (repeat (first | exact Below.refl _ _ | assumption | (refine Below.setCell ?_ (by first | omega | (simp<;>omega)) _) | (refine Below.alloc ?_ (by first | omega | (simp<;>omega)) _) | (refine Below.drew ?_)))⟩
set_option maxRecDepth 100000 in
set_option maxHeartbeats 4000000 in
theorem token_word (s:ByteArray) (k:Nat) (w:World) (hs:s.size≤200) (hk:k≤s.size) (hw:isW (nx s (skip s k))=true) :
  Calls Tryz.prog 81 #[.string s,.int .i64 k] w fun e w'=>e=.returned (KV 1 (skip s k:Nat) (tokEnd s (skip s k):Nat) (tok s (skip s k)))∧Below w.heap.size w w':=by
 have hb0:Below w.heap.size w (w.alloc (.cells KZ 137)):=(Below.refl _ _).alloc (Nat.le_refl _) _
 have hk1:=(skip_spec s k).2.2 hk
 have hlt0:=nx_lt (s:=s) (k:=skip s k) (by have:=isW_pos hw;omega)
 have HW:Hid (isW (nx s (skip s k))=true):=hw
 clear hw
 unfold tok
 go_enter Tryz.func81,Tryz.ntmps81
 go_wp2_with fail
 go_loopw [1] (fun i wr=>∃ j:Nat,i=.int .i64 j∧j≤s.size∧skip s j=skip s k∧wr=w.alloc (.cells KZ 137)) (fun i _=>s.size - (intOf i).toNat)
 case atStart=>exact⟨k,rfl,hk,rfl,rfl⟩
 case round =>
  obtain⟨j,rfl,hj,hsk,rfl⟩:=hrel
  by_cases c32:nx s j=32
  ·have hlt:=nx_lt (s:=s) (k:=j) (by omega)
   have hq:((s[j].toNat:Nat):Int)=32:=by rw [nx_in hlt] at c32;omega
   have hq':(((s[j].toNat:Nat):Int) == 32)=true:=by rw [beq_iff_eq];exact hq
   have HS:Hid (skip s j=skip s k):=hsk
   have HC:Hid (nx s j=32):=c32
   clear hsk c32 hq
   go_wp2_with fail
   exact⟨⟨j+1,by simp,hlt,by rw [← HS.out,skip_blank HC.out],trivial⟩,by simp [intOf];omega⟩
  ·have hja:j=skip s k:=by rw [← hsk,skip_else c32]
   subst hja
   clear hsk
   have hq:¬ (((skip s k:Nat):Int) == (s.size:Int))=true:=by rw [beq_iff_eq];omega
   have hq2:(((skip s k:Nat):Int) == (s.size:Int))=false:=by simpa using hq
   have hb:(((s[skip s k].toNat:Nat):Int) == 32)=false:=by rw [beq_eq_false_iff_ne,← nx_in hlt0];omega
   clear hq c32
   go_wp2_with fail
   rw [← nx_in hlt0]
   refine (wordly_any _ _).mono ?_
   rintro e w1 ⟨rfl,rfl⟩
   rw [HW.out]
   have ht:=tok_spec s (skip s k)
   have hte:=ht.2.2.1 hk1
   have hlo:=ht.1
   clear ht
   go_wp2_with fail
   go_loopw [7] (fun i wr=>∃ j:Nat,i=.int .i64 j∧j≤s.size∧skip s k≤j∧tokEnd s j=tokEnd s (skip s k)∧wr=w.alloc (.cells KZ 137)) (fun i _=>s.size - (intOf i).toNat)
   case atStart=>exact⟨skip s k,rfl,hk1,Nat.le_refl _,rfl,rfl⟩
   case round =>
    obtain⟨j,rfl,hj,hkj,hsk,rfl⟩:=hrel
    have HS:Hid (tokEnd s j=tokEnd s (skip s k)):=hsk
    clear hsk
    by_cases hlt:j<s.size
    ·have hnx:=nx_in hlt
     go_wp2_with fail
     rw [← hnx]
     refine (wordly_any _ _).mono ?_
     rintro e w2 ⟨rfl,rfl⟩
     cases hw:isW (nx s j)
     ·have HT:=tok_out hw
      have hjj:j=tokEnd s (skip s k):=by rw [← HS.out,HT]
      clear HT hw HS
      subst hjj
      go_wp2_with fail
      exact bodyPost_ret (v:=KV 1 (skip s k:Nat) (tokEnd s (skip s k):Nat) (s.extract (skip s k) (tokEnd s (skip s k)))) (by simp [results,Tryz.results81,go_sem]) rfl ⟨rfl,by (repeat (first | exact Below.refl _ _ | assumption | (refine Below.setCell ?_ (by first | omega | (simp<;>omega)) _) | (refine Below.alloc ?_ (by first | omega | (simp<;>omega)) _) | (refine Below.drew ?_)))⟩
     ·go_wp2_with fail
      exact⟨⟨j+1,by simp,hlt,by omega,tokEnd_step HS.out hw,trivial⟩,by simp [intOf];omega⟩
    ·have hjj:j=tokEnd s (skip s k):=by rw [← HS.out,tok_out (by rw [nx_out hlt];rfl)]
     clear HS
     subst hjj
     go_wp2_with fail
     exact bodyPost_ret (v:=KV 1 (skip s k:Nat) (tokEnd s (skip s k):Nat) (s.extract (skip s k) (tokEnd s (skip s k)))) (by simp [results,Tryz.results81,go_sem]) rfl ⟨rfl,by (repeat (first | exact Below.refl _ _ | assumption | (refine Below.setCell ?_ (by first | omega | (simp<;>omega)) _) | (refine Below.alloc ?_ (by first | omega | (simp<;>omega)) _) | (refine Below.drew ?_)))⟩
end Go.Proofs.YtgifkepklnhddaaGreatDoor.fm
namespace Go.Proofs.YtgifkepklnhddaaGreatDoor.fm
open Go.RowKit
theorem ext2 (s:ByteArray) (a:Nat) (h:a+2≤s.size):(s.extract a (a+2)).toList=[s[a],s[a+1]]:=by
 rw [ByteArray.toList_eq]
 have h1:=drop_cons s a (by omega)
 have h2:=drop_cons s (a+1) (by omega)
 simp
 rw [h1,h2]
 rfl
theorem u8_eq (c:UInt8) (n:Nat) (h:n<256):c=UInt8.ofNat n↔c.toNat=n:=by
 constructor
 ·intro e;rw [e,UInt8.toNat_ofNat'];omega
 ·intro e;rw [← e];simp
theorem two_is (s:ByteArray) (a x y:Nat) (h:a+2≤s.size) (hx:x<256) (hy:y<256):((s.extract a (a+2)).toList == [UInt8.ofNat x,UInt8.ofNat y])=(decide (nx s a=x) && decide (nx s (a+1)=y)):=by
 rw [ext2 s a h,nx_in (by omega:a<s.size),nx_in (by omega:a+1<s.size),Bool.eq_iff_iff]
 simp [u8_eq _ _ hx,u8_eq _ _ hy]
set_option maxRecDepth 100000 in
set_option maxHeartbeats 4000000 in
theorem token_sign_ne (s:ByteArray) (k:Nat) (w:World) (hs:s.size≤200) (hk:k≤s.size) (hlt0:skip s k<s.size) (hxy:nx s (skip s k)=60∧nx s (skip s k+1)=62) :
  Calls Tryz.prog 81 #[.string s,.int .i64 k] w fun e w'=>e=.returned (KV 4 (skip s k:Nat) ((skip s k:Nat)+2) (s.extract (skip s k) (skip s k+2)))∧Below w.heap.size w w':=by
 have hb0:Below w.heap.size w (w.alloc (.cells KZ 137)):=(Below.refl _ _).alloc (Nat.le_refl _) _
 have hk1:=(skip_spec s k).2.2 hk
 have hle:skip s k+2≤s.size:=by have:=nx_lt (s:=s) (k:=skip s k+1) (by omega);omega
 have hleI:((skip s k:Nat):Int)+2≤(s.size:Int):=by omega
 have HXY:Hid (nx s (skip s k)=60∧nx s (skip s k+1)=62):=hxy
 have HG:Hid (isW (nx s (skip s k))=false∧nx s (skip s k)≠34∧nx s (skip s k)≠35):=by unfold Hid;rw [hxy.1];exact⟨by decide,by omega,by omega⟩
 clear hxy
 go_enter Tryz.func81,Tryz.ntmps81
 go_wp2_with fail
 go_loopw [1] (fun i wr=>∃ j:Nat,i=.int .i64 j∧j≤s.size∧skip s j=skip s k∧wr=w.alloc (.cells KZ 137)) (fun i _=>s.size - (intOf i).toNat)
 case atStart=>exact⟨k,rfl,hk,rfl,rfl⟩
 case round =>
  obtain⟨j,rfl,hj,hsk,rfl⟩:=hrel
  by_cases c32:nx s j=32
  ·have hlt:=nx_lt (s:=s) (k:=j) (by omega)
   have hq:((s[j].toNat:Nat):Int)=32:=by rw [nx_in hlt] at c32;omega
   have hq':(((s[j].toNat:Nat):Int) == 32)=true:=by rw [beq_iff_eq];exact hq
   have HS:Hid (skip s j=skip s k):=hsk
   have HC:Hid (nx s j=32):=c32
   clear hsk c32 hq
   go_wp2_with fail
   exact⟨⟨j+1,by simp,hlt,by rw [← HS.out,skip_blank HC.out],trivial⟩,by simp [intOf];omega⟩
  ·have hja:j=skip s k:=by rw [← hsk,skip_else c32]
   subst hja
   clear hsk
   have hq2:(((skip s k:Nat):Int) == (s.size:Int))=false:=by rw [beq_eq_false_iff_ne];omega
   have hb:(((s[skip s k].toNat:Nat):Int) == 32)=false:=by rw [beq_eq_false_iff_ne,← nx_in hlt0];omega
   have h34:(((nx s (skip s k):Nat):Int) == 34)=false:=by rw [beq_eq_false_iff_ne];have:=HG.out.2.1;omega
   have h35:(((nx s (skip s k):Nat):Int) == 35)=false:=by rw [beq_eq_false_iff_ne];have:=HG.out.2.2;omega
   clear c32
   go_wp2_with fail
   rw [← nx_in hlt0]
   refine (wordly_any _ _).mono ?_
   rintro e w1 ⟨rfl,rfl⟩
   rw [HG.out.1]
   have t0:((s.extract (skip s k) (skip s k+2)).toList == [60,62])=true:=by rw [show ([60,62]:List UInt8)=[UInt8.ofNat 60,UInt8.ofNat 62] from rfl,two_is s _ 60 62 hle (by omega) (by omega),HXY.out.1,HXY.out.2];rfl
   clear HXY
   go_wp2_with fail
   exact bodyPost_ret (v:=KV 4 (skip s k:Nat) ((skip s k:Nat)+2) (s.extract (skip s k) (skip s k+2))) (by simp [results,Tryz.results81,go_sem]) rfl ⟨rfl,by (repeat (first | exact Below.refl _ _ | assumption | (refine Below.setCell ?_ (by first | omega | (simp<;>omega)) _) | (refine Below.alloc ?_ (by first | omega | (simp<;>omega)) _) | (refine Below.drew ?_)))⟩
set_option maxRecDepth 100000 in
set_option maxHeartbeats 4000000 in
theorem token_sign_le (s:ByteArray) (k:Nat) (w:World) (hs:s.size≤200) (hk:k≤s.size) (hlt0:skip s k<s.size) (hxy:nx s (skip s k)=60∧nx s (skip s k+1)=61) :
  Calls Tryz.prog 81 #[.string s,.int .i64 k] w fun e w'=>e=.returned (KV 4 (skip s k:Nat) ((skip s k:Nat)+2) (s.extract (skip s k) (skip s k+2)))∧Below w.heap.size w w':=by
 have hb0:Below w.heap.size w (w.alloc (.cells KZ 137)):=(Below.refl _ _).alloc (Nat.le_refl _) _
 have hk1:=(skip_spec s k).2.2 hk
 have hle:skip s k+2≤s.size:=by have:=nx_lt (s:=s) (k:=skip s k+1) (by omega);omega
 have hleI:((skip s k:Nat):Int)+2≤(s.size:Int):=by omega
 have HXY:Hid (nx s (skip s k)=60∧nx s (skip s k+1)=61):=hxy
 have HG:Hid (isW (nx s (skip s k))=false∧nx s (skip s k)≠34∧nx s (skip s k)≠35):=by unfold Hid;rw [hxy.1];exact⟨by decide,by omega,by omega⟩
 clear hxy
 go_enter Tryz.func81,Tryz.ntmps81
 go_wp2_with fail
 go_loopw [1] (fun i wr=>∃ j:Nat,i=.int .i64 j∧j≤s.size∧skip s j=skip s k∧wr=w.alloc (.cells KZ 137)) (fun i _=>s.size - (intOf i).toNat)
 case atStart=>exact⟨k,rfl,hk,rfl,rfl⟩
 case round =>
  obtain⟨j,rfl,hj,hsk,rfl⟩:=hrel
  by_cases c32:nx s j=32
  ·have hlt:=nx_lt (s:=s) (k:=j) (by omega)
   have hq:((s[j].toNat:Nat):Int)=32:=by rw [nx_in hlt] at c32;omega
   have hq':(((s[j].toNat:Nat):Int) == 32)=true:=by rw [beq_iff_eq];exact hq
   have HS:Hid (skip s j=skip s k):=hsk
   have HC:Hid (nx s j=32):=c32
   clear hsk c32 hq
   go_wp2_with fail
   exact⟨⟨j+1,by simp,hlt,by rw [← HS.out,skip_blank HC.out],trivial⟩,by simp [intOf];omega⟩
  ·have hja:j=skip s k:=by rw [← hsk,skip_else c32]
   subst hja
   clear hsk
   have hq2:(((skip s k:Nat):Int) == (s.size:Int))=false:=by rw [beq_eq_false_iff_ne];omega
   have hb:(((s[skip s k].toNat:Nat):Int) == 32)=false:=by rw [beq_eq_false_iff_ne,← nx_in hlt0];omega
   have h34:(((nx s (skip s k):Nat):Int) == 34)=false:=by rw [beq_eq_false_iff_ne];have:=HG.out.2.1;omega
   have h35:(((nx s (skip s k):Nat):Int) == 35)=false:=by rw [beq_eq_false_iff_ne];have:=HG.out.2.2;omega
   clear c32
   go_wp2_with fail
   rw [← nx_in hlt0]
   refine (wordly_any _ _).mono ?_
   rintro e w1 ⟨rfl,rfl⟩
   rw [HG.out.1]
   have t0:((s.extract (skip s k) (skip s k+2)).toList == [60,62])=false:=by rw [show ([60,62]:List UInt8)=[UInt8.ofNat 60,UInt8.ofNat 62] from rfl,two_is s _ 60 62 hle (by omega) (by omega),HXY.out.1,HXY.out.2];rfl
   have t1:((s.extract (skip s k) (skip s k+2)).toList == [60,61])=true:=by rw [show ([60,61]:List UInt8)=[UInt8.ofNat 60,UInt8.ofNat 61] from rfl,two_is s _ 60 61 hle (by omega) (by omega),HXY.out.1,HXY.out.2];rfl
   clear HXY
   go_wp2_with fail
   exact bodyPost_ret (v:=KV 4 (skip s k:Nat) ((skip s k:Nat)+2) (s.extract (skip s k) (skip s k+2))) (by simp [results,Tryz.results81,go_sem]) rfl ⟨rfl,by (repeat (first | exact Below.refl _ _ | assumption | (refine Below.setCell ?_ (by first | omega | (simp<;>omega)) _) | (refine Below.alloc ?_ (by first | omega | (simp<;>omega)) _) | (refine Below.drew ?_)))⟩
set_option maxRecDepth 100000 in
set_option maxHeartbeats 4000000 in
theorem token_sign_ge (s:ByteArray) (k:Nat) (w:World) (hs:s.size≤200) (hk:k≤s.size) (hlt0:skip s k<s.size) (hxy:nx s (skip s k)=62∧nx s (skip s k+1)=61) :
  Calls Tryz.prog 81 #[.string s,.int .i64 k] w fun e w'=>e=.returned (KV 4 (skip s k:Nat) ((skip s k:Nat)+2) (s.extract (skip s k) (skip s k+2)))∧Below w.heap.size w w':=by
 have hb0:Below w.heap.size w (w.alloc (.cells KZ 137)):=(Below.refl _ _).alloc (Nat.le_refl _) _
 have hk1:=(skip_spec s k).2.2 hk
 have hle:skip s k+2≤s.size:=by have:=nx_lt (s:=s) (k:=skip s k+1) (by omega);omega
 have hleI:((skip s k:Nat):Int)+2≤(s.size:Int):=by omega
 have HXY:Hid (nx s (skip s k)=62∧nx s (skip s k+1)=61):=hxy
 have HG:Hid (isW (nx s (skip s k))=false∧nx s (skip s k)≠34∧nx s (skip s k)≠35):=by unfold Hid;rw [hxy.1];exact⟨by decide,by omega,by omega⟩
 clear hxy
 go_enter Tryz.func81,Tryz.ntmps81
 go_wp2_with fail
 go_loopw [1] (fun i wr=>∃ j:Nat,i=.int .i64 j∧j≤s.size∧skip s j=skip s k∧wr=w.alloc (.cells KZ 137)) (fun i _=>s.size - (intOf i).toNat)
 case atStart=>exact⟨k,rfl,hk,rfl,rfl⟩
 case round =>
  obtain⟨j,rfl,hj,hsk,rfl⟩:=hrel
  by_cases c32:nx s j=32
  ·have hlt:=nx_lt (s:=s) (k:=j) (by omega)
   have hq:((s[j].toNat:Nat):Int)=32:=by rw [nx_in hlt] at c32;omega
   have hq':(((s[j].toNat:Nat):Int) == 32)=true:=by rw [beq_iff_eq];exact hq
   have HS:Hid (skip s j=skip s k):=hsk
   have HC:Hid (nx s j=32):=c32
   clear hsk c32 hq
   go_wp2_with fail
   exact⟨⟨j+1,by simp,hlt,by rw [← HS.out,skip_blank HC.out],trivial⟩,by simp [intOf];omega⟩
  ·have hja:j=skip s k:=by rw [← hsk,skip_else c32]
   subst hja
   clear hsk
   have hq2:(((skip s k:Nat):Int) == (s.size:Int))=false:=by rw [beq_eq_false_iff_ne];omega
   have hb:(((s[skip s k].toNat:Nat):Int) == 32)=false:=by rw [beq_eq_false_iff_ne,← nx_in hlt0];omega
   have h34:(((nx s (skip s k):Nat):Int) == 34)=false:=by rw [beq_eq_false_iff_ne];have:=HG.out.2.1;omega
   have h35:(((nx s (skip s k):Nat):Int) == 35)=false:=by rw [beq_eq_false_iff_ne];have:=HG.out.2.2;omega
   clear c32
   go_wp2_with fail
   rw [← nx_in hlt0]
   refine (wordly_any _ _).mono ?_
   rintro e w1 ⟨rfl,rfl⟩
   rw [HG.out.1]
   have t0:((s.extract (skip s k) (skip s k+2)).toList == [60,62])=false:=by rw [show ([60,62]:List UInt8)=[UInt8.ofNat 60,UInt8.ofNat 62] from rfl,two_is s _ 60 62 hle (by omega) (by omega),HXY.out.1,HXY.out.2];rfl
   have t1:((s.extract (skip s k) (skip s k+2)).toList == [60,61])=false:=by rw [show ([60,61]:List UInt8)=[UInt8.ofNat 60,UInt8.ofNat 61] from rfl,two_is s _ 60 61 hle (by omega) (by omega),HXY.out.1,HXY.out.2];rfl
   have t2:((s.extract (skip s k) (skip s k+2)).toList == [62,61])=true:=by rw [show ([62,61]:List UInt8)=[UInt8.ofNat 62,UInt8.ofNat 61] from rfl,two_is s _ 62 61 hle (by omega) (by omega),HXY.out.1,HXY.out.2];rfl
   clear HXY
   go_wp2_with fail
   exact bodyPost_ret (v:=KV 4 (skip s k:Nat) ((skip s k:Nat)+2) (s.extract (skip s k) (skip s k+2))) (by simp [results,Tryz.results81,go_sem]) rfl ⟨rfl,by (repeat (first | exact Below.refl _ _ | assumption | (refine Below.setCell ?_ (by first | omega | (simp<;>omega)) _) | (refine Below.alloc ?_ (by first | omega | (simp<;>omega)) _) | (refine Below.drew ?_)))⟩
set_option maxRecDepth 100000 in
set_option maxHeartbeats 4000000 in
theorem token_sign_one (s:ByteArray) (k:Nat) (w:World) (hs:s.size≤200) (hk:k≤s.size) (hlt0:skip s k<s.size) (hg:isW (nx s (skip s k))=false∧nx s (skip s k)≠34∧nx s (skip s k)≠35) (hn:¬ (nx s (skip s k)=60∧nx s (skip s k+1)=62)∧¬ (nx s (skip s k)=60∧nx s (skip s k+1)=61)∧¬ (nx s (skip s k)=62∧nx s (skip s k+1)=61)) :
  Calls Tryz.prog 81 #[.string s,.int .i64 k] w fun e w'=>e=.returned (KV 4 (skip s k:Nat) ((skip s k:Nat)+1) (s.extract (skip s k) (skip s k+1)))∧Below w.heap.size w w':=by
 have hb0:Below w.heap.size w (w.alloc (.cells KZ 137)):=(Below.refl _ _).alloc (Nat.le_refl _) _
 have hk1:=(skip_spec s k).2.2 hk
 have HG:Hid (isW (nx s (skip s k))=false∧nx s (skip s k)≠34∧nx s (skip s k)≠35):=hg
 clear hg
 have HN:Hid (¬ (nx s (skip s k)=60∧nx s (skip s k+1)=62)∧¬ (nx s (skip s k)=60∧nx s (skip s k+1)=61)∧¬ (nx s (skip s k)=62∧nx s (skip s k+1)=61)):=hn
 clear hn
 go_enter Tryz.func81,Tryz.ntmps81
 go_wp2_with fail
 go_loopw [1] (fun i wr=>∃ j:Nat,i=.int .i64 j∧j≤s.size∧skip s j=skip s k∧wr=w.alloc (.cells KZ 137)) (fun i _=>s.size - (intOf i).toNat)
 case atStart=>exact⟨k,rfl,hk,rfl,rfl⟩
 case round =>
  obtain⟨j,rfl,hj,hsk,rfl⟩:=hrel
  by_cases c32:nx s j=32
  ·have hlt:=nx_lt (s:=s) (k:=j) (by omega)
   have hq:((s[j].toNat:Nat):Int)=32:=by rw [nx_in hlt] at c32;omega
   have hq':(((s[j].toNat:Nat):Int) == 32)=true:=by rw [beq_iff_eq];exact hq
   have HS:Hid (skip s j=skip s k):=hsk
   have HC:Hid (nx s j=32):=c32
   clear hsk c32 hq
   go_wp2_with fail
   exact⟨⟨j+1,by simp,hlt,by rw [← HS.out,skip_blank HC.out],trivial⟩,by simp [intOf];omega⟩
  ·have hja:j=skip s k:=by rw [← hsk,skip_else c32]
   subst hja
   clear hsk
   have hq2:(((skip s k:Nat):Int) == (s.size:Int))=false:=by rw [beq_eq_false_iff_ne];omega
   have hb:(((s[skip s k].toNat:Nat):Int) == 32)=false:=by rw [beq_eq_false_iff_ne,← nx_in hlt0];omega
   have h34:(((nx s (skip s k):Nat):Int) == 34)=false:=by rw [beq_eq_false_iff_ne];have:=HG.out.2.1;omega
   have h35:(((nx s (skip s k):Nat):Int) == 35)=false:=by rw [beq_eq_false_iff_ne];have:=HG.out.2.2;omega
   clear c32
   go_wp2_with fail
   rw [← nx_in hlt0]
   refine (wordly_any _ _).mono ?_
   rintro e w1 ⟨rfl,rfl⟩
   rw [HG.out.1]
   by_cases hle:skip s k+2≤s.size
   ·have hleI:((skip s k:Nat):Int)+2≤(s.size:Int):=by omega
    have t0:((s.extract (skip s k) (skip s k+2)).toList == [60,62])=false:=by rw [show ([60,62]:List UInt8)=[UInt8.ofNat 60,UInt8.ofNat 62] from rfl,two_is s _ 60 62 hle (by omega) (by omega)];have:=HN.out;simp;omega
    have t1:((s.extract (skip s k) (skip s k+2)).toList == [60,61])=false:=by rw [show ([60,61]:List UInt8)=[UInt8.ofNat 60,UInt8.ofNat 61] from rfl,two_is s _ 60 61 hle (by omega) (by omega)];have:=HN.out;simp;omega
    have t2:((s.extract (skip s k) (skip s k+2)).toList == [62,61])=false:=by rw [show ([62,61]:List UInt8)=[UInt8.ofNat 62,UInt8.ofNat 61] from rfl,two_is s _ 62 61 hle (by omega) (by omega)];have:=HN.out;simp;omega
    clear HN
    go_wp2_with fail
    exact bodyPost_ret (v:=KV 4 (skip s k:Nat) ((skip s k:Nat)+1) (s.extract (skip s k) (skip s k+1))) (by simp [results,Tryz.results81,go_sem]) rfl ⟨rfl,by (repeat (first | exact Below.refl _ _ | assumption | (refine Below.setCell ?_ (by first | omega | (simp<;>omega)) _) | (refine Below.alloc ?_ (by first | omega | (simp<;>omega)) _) | (refine Below.drew ?_)))⟩
   ·have hleI:¬ ((skip s k:Nat):Int)+2≤(s.size:Int):=by omega
    clear HN
    go_wp2_with fail
    exact bodyPost_ret (v:=KV 4 (skip s k:Nat) ((skip s k:Nat)+1) (s.extract (skip s k) (skip s k+1))) (by simp [results,Tryz.results81,go_sem]) rfl ⟨rfl,by (repeat (first | exact Below.refl _ _ | assumption | (refine Below.setCell ?_ (by first | omega | (simp<;>omega)) _) | (refine Below.alloc ?_ (by first | omega | (simp<;>omega)) _) | (refine Below.drew ?_)))⟩
end Go.Proofs.YtgifkepklnhddaaGreatDoor.fm
namespace Go.Proofs.YtgifkepklnhddaaGreatDoor.fm
open Go.RowKit
theorem fin4 {w:World} {b:Nat} {a0 a1 a2 a3 u0 u1 u2 u3:Value} {t:TypeId} (h:w.heap[b]?=some (.cells #[a0,a1,a2,a3] t (0,0))) {Q:World→Prop}
  (hq:∀ w2,w2.heap[b]?=some (.cells #[u0,u1,u2,u3] t (0,0))→Kp (·=b) w w2→Q w2):Q ((((w.setCell ⟨b,0,none⟩ u0).setCell ⟨b,1,none⟩ u1).setCell ⟨b,2,none⟩ u2).setCell ⟨b,3,none⟩ u3):=by
 refine hq _ ?_ (((((Kp.refl (·=b) w).setCell (Or.inl rfl) u0).setCell (Or.inl rfl) u1).setCell (Or.inl rfl) u2).setCell (Or.inl rfl) u3)
 have h0:(w.setCell ⟨b,0,none⟩ u0).heap[b]?=some (.cells #[u0,a1,a2,a3] t (0,0)):=by rw [blk_set h];rfl
 have h1:((w.setCell ⟨b,0,none⟩ u0).setCell ⟨b,1,none⟩ u1).heap[b]?=some (.cells #[u0,u1,a2,a3] t (0,0)):=by rw [blk_set h0];rfl
 have h2:(((w.setCell ⟨b,0,none⟩ u0).setCell ⟨b,1,none⟩ u1).setCell ⟨b,2,none⟩ u2).heap[b]?=some (.cells #[u0,u1,u2,a3] t (0,0)):=by rw [blk_set h1];rfl
 rw [blk_set h2];rfl
def u8s (l:List UInt8):List Value:=l.map fun b=>.int .u8 (b.toNat:Int)
theorem info5r:(Tryz.prog.info? 5).map (fun i=>(i.zero,i.size,i.bytes))=some (some (.int .u8 0),1,1):=by kernel_rfl
theorem info5:∃ i,Tryz.prog.info? 5=some i∧i.zero=some (.int .u8 0)∧i.size=1∧i.bytes=1:=by
 have h:=info5r
 rw [Option.map_eq_some_iff] at h
 obtain⟨i,h1,h2⟩:=h
 simp only [Prod.mk.injEq] at h2
 exact⟨i,h1,h2.1,h2.2.1,h2.2.2⟩
theorem conv_bytes {w:World} {B:Nat} {v:Value} {acc:List UInt8} (h:w.ownsRow B 5 1 v acc.length (u8s acc)):(convert 155 9 v).run Tryz.prog w=.ok (.string ⟨acc.toArray⟩) w:=by
 rcases h.2 with ⟨rfl,h0⟩ | ⟨g,cap,cur,rfl,hb,hg,hc,hm,hz,ht⟩
 ·obtain rfl:acc=[]:=List.eq_nil_of_length_eq_zero h0
  rw [run_convert_bytes_string w 155 9 5 none 0 0 Tryz.underlying155 Tryz.underlying5 Tryz.underlying9]
  simp [Conv.bytesToString]
  rfl
 ·refine run_convert_bytes_back (P:=Tryz.prog) w 155 9 5 ⟨g,0,none⟩ cap acc Tryz.underlying155 Tryz.underlying5 Tryz.underlying9 fun j hj=>?_
  refine World.ownsRow.cells h (g:=g) rfl j _ ?_
  unfold u8s
  rw [List.getElem?_map,List.getElem?_eq_getElem hj]
  rfl
set_option maxRecDepth 100000 in
set_option maxHeartbeats 4000000 in
theorem token_quote (s:ByteArray) (k:Nat) (w:World) (hs:s.size≤200) (hk:k≤s.size) (hlt0:skip s k<s.size) (hx:nx s (skip s k)=34) (RK:Value) (hRK:RK=match quote s (skip s k+1) [] with | none=>KV 9 (skip s k:Nat) (skip s k:Nat) nul | some (l,e)=>KV 2 (skip s k:Nat) (e:Nat) ⟨l.toArray⟩) :
  Calls Tryz.prog 81 #[.string s,.int .i64 k] w fun e w'=>e=.returned (RK)∧Below w.heap.size w w':=by
 have hb0:Below w.heap.size w (w.alloc (.cells KZ 137)):=(Below.refl _ _).alloc (Nat.le_refl _) _
 have hk1:=(skip_spec s k).2.2 hk
 have HRK:Hid (RK=match quote s (skip s k+1) [] with | none=>KV 9 (skip s k:Nat) (skip s k:Nat) nul | some (l,e)=>KV 2 (skip s k:Nat) (e:Nat) ⟨l.toArray⟩):=hRK
 have HX:Hid (nx s (skip s k)=34):=hx
 clear hRK hx
 obtain⟨i0,hi,hz0,hz1,hz2⟩:=info5
 go_enter Tryz.func81,Tryz.ntmps81
 go_wp2_with fail
 go_loopw [1] (fun i wr=>∃ j:Nat,i=.int .i64 j∧j≤s.size∧skip s j=skip s k∧wr=w.alloc (.cells KZ 137)) (fun i _=>s.size - (intOf i).toNat)
 case atStart=>exact⟨k,rfl,hk,rfl,rfl⟩
 case round =>
  obtain⟨j,rfl,hj,hsk,rfl⟩:=hrel
  by_cases c32:nx s j=32
  ·have hlt:=nx_lt (s:=s) (k:=j) (by omega)
   have hq:((s[j].toNat:Nat):Int)=32:=by rw [nx_in hlt] at c32;omega
   have hq':(((s[j].toNat:Nat):Int) == 32)=true:=by rw [beq_iff_eq];exact hq
   have HS:Hid (skip s j=skip s k):=hsk
   have HC:Hid (nx s j=32):=c32
   clear hsk c32 hq
   go_wp2_with fail
   exact⟨⟨j+1,by simp,hlt,by rw [← HS.out,skip_blank HC.out],trivial⟩,by simp [intOf];omega⟩
  ·have hja:j=skip s k:=by rw [← hsk,skip_else c32]
   subst hja
   clear hsk
   have hq2:(((skip s k:Nat):Int) == (s.size:Int))=false:=by rw [beq_eq_false_iff_ne];omega
   have hb:(((s[skip s k].toNat:Nat):Int) == 32)=false:=by rw [beq_eq_false_iff_ne,← nx_in hlt0];omega
   have h34:(((nx s (skip s k):Nat):Int) == 34)=true:=by rw [beq_iff_eq,HX.out];rfl
   clear c32
   go_wp2_with fail
   rw [← nx_in hlt0]
   refine (wordly_any _ _).mono ?_
   rintro e w1 ⟨rfl,rfl⟩
   rw [HX.out,show isW 34=false from rfl]
   clear h34
   go_wp2_with fail
   have hqz:=blk_new w (.cells KZ 137)
   have hs0:w.heap.size+1≤(w.alloc (.cells KZ 137)).heap.size:=by simp
   generalize w.alloc (.cells KZ 137)=wz at *
   go_loopw [8,9] (fun v i wr=>∃ (acc:List UInt8) (j:Nat),i=.int .i64 j∧wr.ownsRow (w.heap.size+1) 5 1 v acc.length (u8s acc)∧j≤s.size∧acc.length≤j∧quote s (skip s k+1) []=quote s j acc∧wr.heap[w.heap.size]?=some (.cells KZ 137 (0,0))∧Below w.heap.size w wr∧w.heap.size+1≤wr.heap.size) (fun _ i _=>s.size - (intOf i).toNat)
   case atStart=>exact⟨[],skip s k+1,by simp,World.ownsRow_nil _ _ _ _,hlt0,Nat.zero_le _,rfl,hqz,hb0,hs0⟩
   case round =>
    clear hqz hs0 hb0
    obtain⟨acc,j,rfl,hown,hj,hal,hqq,hq,hB,hs1⟩:=hrel
    have HQQ:Hid (quote s (skip s k+1) []=quote s j acc):=hqq
    clear hqq
    by_cases hlt:j<s.size
    ·have hbl:s[j].toNat<256:=UInt8.toNat_lt s[j]
     by_cases c34:s[j].toNat=34
     ·have e34:(((s[j].toNat:Nat):Int) == 34)=true:=by rw [beq_iff_eq];omega
      have es:s[j]=34:=UInt8.toNat.inj (by rw [c34];rfl)
      by_cases cn:nx s (j+1)=34
      ·have hlt2:=nx_lt (s:=s) (k:=j+1) (by omega)
       have en:(((s[j+1].toNat:Nat):Int) == 34)=true:=by rw [beq_iff_eq,← nx_in hlt2];omega
       have hltI:((j:Nat):Int)+1<(s.size:Int):=by omega
       have HQ2:Hid (quote s (skip s k+1) []=quote s (j+2) (acc++[34])):=by
        unfold Hid
        rw [HQQ.out,quote,dif_pos hlt,if_pos es,if_pos cn]
       clear c34 es cn HQQ
       go_wp2_with (first | (at_builtin;refine wpList_append_own _ rfl _ _ 155 rfl (w.heap.size+1) 5 i0 (.int .u8 0) 1 1 Tryz.underlying155 hi hz0 hz1 hz2 rfl (by decide) _ _ _ rfl (hown.alloc _) ⟨wr.heap.size,0,none⟩ 1 1 [.int .u8 34] rfl rfl ?c1 ?c2 ?c3 ?c4 ?c5 ?_))
       case c1 =>
        intro q u hj
        match q,hj with
        | 0,hj=>simp at hj;subst hj;simp [Addr.add]
       case c2=>intro u hu;simp at hu;subst hu;rfl
       case c3=>unfold maxLen;omega
       case c4=>omega
       case c5=>simp;omega
       ·intro v' w3 hown' hgrow _
        have hb3:Below w.heap.size w w3:=(hB.alloc hB.size _).grown hgrow (by simp;omega) (fun q hq=>by have:=hown.lt q hq;omega)
        have hq3:w3.heap[w.heap.size]?=some (.cells KZ 137 (0,0)):=by
         rw [hgrow.block _ (by simp;omega) (fun e=>by have:=hown.lt _ e.symm;omega),Below.heap_alloc _ _ _ (by omega)];exact hq
        have hown3:w3.ownsRow (w.heap.size+1) 5 1 v' (acc++[34]).length (u8s (acc++[34])):=by
         rw [List.length_append]
         unfold u8s at hown' ⊢
         rw [List.map_append]
         exact hown'
        have hs3:w.heap.size+1≤w3.heap.size:=by have:=hgrow.size;simp at this;omega
        clear hown'
        go_wp2_with fail
        exact⟨⟨acc++[34],j+2,by simp,hown3,by omega,by simp;omega,HQ2.out,hq3,hb3,hs3⟩,by simp [intOf];omega⟩
      ·have HRT:Hid (RK=KV 2 (skip s k:Nat) (j+1:Nat) ⟨acc.toArray⟩):=by
        have h1:=HRK.out
        rw [HQQ.out,quote,dif_pos hlt,if_pos es,if_neg cn] at h1
        exact h1
       have hcv:=conv_bytes hown
       obtain⟨z0,z1,z2,z3⟩:=cells4 hq
       have zf:∀ o,wr.frozen? ⟨w.heap.size,o,none⟩=false:=fun o=>by simp [World.frozen?,hq]
       have HCN:Hid (¬ nx s (j+1)=34):=cn
       clear c34 es cn HQQ HRK
       by_cases hlt2:j+1<s.size
       ·have hltI:((j:Nat):Int)+1<(s.size:Int):=by omega
        have en:(((s[j+1].toNat:Nat):Int) == 34)=false:=by rw [beq_eq_false_iff_ne,← nx_in hlt2];have:=HCN.out;omega
        go_wp2_with fail
        refine fin4 hq (Q:=bodyPost _ _ _ _ _) ?_
        intro w9 hq9 hk9
        clear z0 z1 z2 z3 zf
        obtain⟨z0,z1,z2,z3⟩:=cells4 hq9
        exact bodyPost_ret (v:=KV 2 (skip s k:Nat) ((j:Nat)+1) ⟨acc.toArray⟩) (by simp [results,Tryz.results81,go_sem,z0,z1,z2,z3]) rfl ⟨by rw [HRT.out];rfl,hB.trans (hk9.toBelow hB.size (fun n hn e=>by omega))⟩
       ·have hltI:¬ ((j:Nat):Int)+1<(s.size:Int):=by omega
        go_wp2_with fail
        refine fin4 hq (Q:=bodyPost _ _ _ _ _) ?_
        intro w9 hq9 hk9
        clear z0 z1 z2 z3 zf
        obtain⟨z0,z1,z2,z3⟩:=cells4 hq9
        exact bodyPost_ret (v:=KV 2 (skip s k:Nat) ((j:Nat)+1) ⟨acc.toArray⟩) (by simp [results,Tryz.results81,go_sem,z0,z1,z2,z3]) rfl ⟨by rw [HRT.out];rfl,hB.trans (hk9.toBelow hB.size (fun n hn e=>by omega))⟩
     ·have e34:(((s[j].toNat:Nat):Int) == 34)=false:=by rw [beq_eq_false_iff_ne];omega
      have es:¬ s[j]=34:=fun e=>c34 (by rw [e];rfl)
      have HQ2:Hid (quote s (skip s k+1) []=quote s (j+1) (acc++[s[j]])):=by
       unfold Hid
       rw [HQQ.out,quote,dif_pos hlt,if_neg es]
      clear c34 es HQQ
      go_wp2_with (first | (at_builtin;refine wpList_append_own _ rfl _ _ 155 rfl (w.heap.size+1) 5 i0 (.int .u8 0) 1 1 Tryz.underlying155 hi hz0 hz1 hz2 rfl (by decide) _ _ _ rfl (hown.alloc _) ⟨wr.heap.size,0,none⟩ 1 1 [.int .u8 (s[j].toNat:Int)] rfl rfl ?c1 ?c2 ?c3 ?c4 ?c5 ?_))
      case c1 =>
       intro q u hj
       match q,hj with
       | 0,hj=>simp at hj;subst hj;simp [Addr.add]
      case c2=>intro u hu;simp at hu;subst hu;rfl
      case c3=>unfold maxLen;omega
      case c4=>omega
      case c5=>simp;omega
      ·intro v' w3 hown' hgrow _
       have hb3:Below w.heap.size w w3:=(hB.alloc hB.size _).grown hgrow (by simp;omega) (fun q hq=>by have:=hown.lt q hq;omega)
       have hq3:w3.heap[w.heap.size]?=some (.cells KZ 137 (0,0)):=by
        rw [hgrow.block _ (by simp;omega) (fun e=>by have:=hown.lt _ e.symm;omega),Below.heap_alloc _ _ _ (by omega)];exact hq
       have hown3:w3.ownsRow (w.heap.size+1) 5 1 v' (acc++[s[j]]).length (u8s (acc++[s[j]])):=by
        rw [List.length_append]
        unfold u8s at hown' ⊢
        rw [List.map_append]
        exact hown'
       have hs3:w.heap.size+1≤w3.heap.size:=by have:=hgrow.size;simp at this;omega
       clear hown'
       go_wp2_with fail
       exact⟨⟨acc++[s[j]],j+1,by simp,hown3,by omega,by simp;omega,HQ2.out,hq3,hb3,hs3⟩,by simp [intOf];omega⟩
    ·have HRT:Hid (RK=KV 9 (skip s k:Nat) (skip s k:Nat) nul):=by
      have h1:=HRK.out
      rw [HQQ.out,quote,dif_neg hlt] at h1
      exact h1
     obtain⟨z0,z1,z2,z3⟩:=cells4 hq
     have zf:∀ o,wr.frozen? ⟨w.heap.size,o,none⟩=false:=fun o=>by simp [World.frozen?,hq]
     clear HQQ HRK
     go_wp2_with fail
     refine fin4 hq (Q:=bodyPost _ _ _ _ _) ?_
     intro w9 hq9 hk9
     clear z0 z1 z2 z3 zf
     obtain⟨z0,z1,z2,z3⟩:=cells4 hq9
     exact bodyPost_ret (v:=KV 9 (skip s k:Nat) (skip s k:Nat) nul) (by simp [results,Tryz.results81,go_sem,z0,z1,z2,z3]) rfl ⟨by rw [HRT.out],hB.trans (hk9.toBelow hB.size (fun n hn e=>by omega))⟩
end Go.Proofs.YtgifkepklnhddaaGreatDoor.fm
namespace Go.Proofs.YtgifkepklnhddaaGreatDoor.fm
open Go.RowKit
abbrev wrC:Array Value:=#[.string nul,.string bt0,.string bt1,.string bt2,.string bt3,.string bt4,.string bt5]
theorem wrongs_any (w:World) :
  Calls Tryz.prog 114 #[] w fun e w'=>e=.returned (.slice (some ⟨w.heap.size,0,none⟩) 7 7)∧w'=w.alloc (.cells wrC 9):=by
 go_enter Tryz.func114,Tryz.ntmps114
 go_wp2
 go_ret
 exact⟨rfl,rfl⟩
theorem wr_cell {w:World} {g:Nat} (h:w.heap[g]?=some (.cells wrC 9 (0,0))) (i:Nat) (h1:1≤i) (h6:i≤6):w.cell? ⟨g,i,none⟩=some (.string (sh 4 (i:Nat) YtgifkepklnhddaaGreatDoor.nul)):=by
 rw [cell_blk h]
 obtain⟨⟨e1,e2,e3⟩,e4,e5,e6⟩:=shBad
 match i,h1,h6 with
 | 1,_,_=>rw [e1];rfl
 | 2,_,_=>rw [e2];rfl
 | 3,_,_=>rw [e3];rfl
 | 4,_,_=>rw [e4];rfl
 | 5,_,_=>rw [e5];rfl
 | 6,_,_=>rw [e6];rfl
theorem shBad_le (i:Nat) (h1:1≤i) (h6:i≤6):(sh 4 (i:Nat) YtgifkepklnhddaaGreatDoor.nul).size≤7:=by
 obtain⟨⟨e1,e2,e3⟩,e4,e5,e6⟩:=shBad
 match i,h1,h6 with
 | 1,_,_=>rw [e1];decide
 | 2,_,_=>rw [e2];decide
 | 3,_,_=>rw [e3];decide
 | 4,_,_=>rw [e4];decide
 | 5,_,_=>rw [e5];decide
 | 6,_,_=>rw [e6];decide
theorem pre_cut (s t:ByteArray) (a:Nat):((s.extract a (a+t.size)).toList == t.toList)=pre s a t.data.toList:=by
 rw [ByteArray.toList_eq,ByteArray.toList_eq]
 unfold pre
 rw [Bool.eq_iff_iff,List.isPrefixOf_iff_prefix,beq_iff_eq]
 have e:(s.extract a (a+t.size)).data.toList=(s.data.toList.drop a).take t.size:=by
  simp
 rw [e]
 constructor
 ·intro h1;rw [← h1];exact List.take_prefix _ _
 ·intro h1;rw [List.prefix_iff_eq_take.1 h1];simp
set_option maxRecDepth 100000 in
set_option maxHeartbeats 4000000 in
theorem token_bad (s:ByteArray) (k:Nat) (w:World) (hs:s.size≤200) (hk:k≤s.size) (hlt0:skip s k<s.size) (hx:nx s (skip s k)=35) (RK:Value) (hRK:RK=match badAt s (skip s k) with | none=>KV 9 (skip s k:Nat) (skip s k:Nat) nul | some (n,len)=>KV 3 (skip s k:Nat) (skip s k+len:Nat) (sh 4 (n:Nat) YtgifkepklnhddaaGreatDoor.nul)) :
  Calls Tryz.prog 81 #[.string s,.int .i64 k] w fun e w'=>e=.returned (RK)∧Below w.heap.size w w':=by
 have hb0:Below w.heap.size w (w.alloc (.cells KZ 137)):=(Below.refl _ _).alloc (Nat.le_refl _) _
 have hk1:=(skip_spec s k).2.2 hk
 rw [badAt_from] at hRK
 have HRK:Hid (RK=match badFrom s (skip s k) 6 1 with | none=>KV 9 (skip s k:Nat) (skip s k:Nat) nul | some (n,len)=>KV 3 (skip s k:Nat) (skip s k+len:Nat) (sh 4 (n:Nat) YtgifkepklnhddaaGreatDoor.nul)):=hRK
 have HX:Hid (nx s (skip s k)=35):=hx
 clear hRK hx
 go_enter Tryz.func81,Tryz.ntmps81
 go_wp2_with fail
 go_loopw [1] (fun i wr=>∃ j:Nat,i=.int .i64 j∧j≤s.size∧skip s j=skip s k∧wr=w.alloc (.cells KZ 137)) (fun i _=>s.size - (intOf i).toNat)
 case atStart=>exact⟨k,rfl,hk,rfl,rfl⟩
 case round =>
  obtain⟨j,rfl,hj,hsk,rfl⟩:=hrel
  by_cases c32:nx s j=32
  ·have hlt:=nx_lt (s:=s) (k:=j) (by omega)
   have hq:((s[j].toNat:Nat):Int)=32:=by rw [nx_in hlt] at c32;omega
   have hq':(((s[j].toNat:Nat):Int) == 32)=true:=by rw [beq_iff_eq];exact hq
   have HS:Hid (skip s j=skip s k):=hsk
   have HC:Hid (nx s j=32):=c32
   clear hsk c32 hq
   go_wp2_with fail
   exact⟨⟨j+1,by simp,hlt,by rw [← HS.out,skip_blank HC.out],trivial⟩,by simp [intOf];omega⟩
  ·have hja:j=skip s k:=by rw [← hsk,skip_else c32]
   subst hja
   clear hsk
   have hq2:(((skip s k:Nat):Int) == (s.size:Int))=false:=by rw [beq_eq_false_iff_ne];omega
   have hb:(((s[skip s k].toNat:Nat):Int) == 32)=false:=by rw [beq_eq_false_iff_ne,← nx_in hlt0];omega
   clear c32
   go_wp2_with fail
   rw [← nx_in hlt0]
   refine (wordly_any _ _).mono ?_
   rintro e w1 ⟨rfl,rfl⟩
   rw [HX.out,show isW 35=false from rfl]
   go_wp2_with fail
   refine (wrongs_any _).mono ?_
   rintro e w2 ⟨rfl,rfl⟩
   have hqz:((w.alloc (.cells KZ 137)).alloc (.cells wrC 9)).heap[w.heap.size]?=some (.cells KZ 137 (0,0)):=by rw [Below.heap_alloc _ _ _ (by simp)];exact blk_new _ _
   have hgz:=blk_new (w.alloc (.cells KZ 137)) (.cells wrC 9)
   have hbz:=hb0.alloc hb0.size (.cells wrC 9)
   generalize (w.alloc (.cells KZ 137)).heap.size=g at *
   generalize (w.alloc (.cells KZ 137)).alloc (.cells wrC 9)=wz at *
   go_wp2_with fail
   go_loopw [11] (fun a wr=>∃ i:Nat,a=.int .i64 i∧1≤i∧i≤7∧badFrom s (skip s k) 6 1=badFrom s (skip s k) (7 - i) i∧wr.heap[g]?=some (.cells wrC 9 (0,0))∧wr.heap[w.heap.size]?=some (.cells KZ 137 (0,0))∧Below w.heap.size w wr) (fun a _=>7 - (intOf a).toNat)
   case atStart=>exact⟨1,rfl,by omega,by omega,rfl,hgz,hqz,hbz⟩
   case round =>
    clear hgz hqz hbz hb0
    obtain⟨i,rfl,h1,h7,hbf,hg,hq,hB⟩:=hrel
    have HBF:Hid (badFrom s (skip s k) 6 1=badFrom s (skip s k) (7 - i) i):=hbf
    clear hbf
    by_cases h6:i≤6
    ·have hle:(i:Int)<7:=by omega
     have hwc:=wr_cell hg i h1 h6
     have hl7:=shBad_le i h1 h6
     have HST:Hid (badFrom s (skip s k) (7 - i) i=if pre s (skip s k) (sh 4 (i:Nat) YtgifkepklnhddaaGreatDoor.nul).data.toList=true then some (i,(sh 4 (i:Nat) YtgifkepklnhddaaGreatDoor.nul).size) else badFrom s (skip s k) (7 - (i+1)) (i+1)):=by
      unfold Hid
      rw [show 7 - i=(7 - (i+1))+1 from by omega,badFrom]
     have HRT0:Hid (pre s (skip s k) (sh 4 (i:Nat) YtgifkepklnhddaaGreatDoor.nul).data.toList=true→RK=KV 3 (skip s k:Nat) (skip s k+(sh 4 (i:Nat) YtgifkepklnhddaaGreatDoor.nul).size:Nat) (sh 4 (i:Nat) YtgifkepklnhddaaGreatDoor.nul)):=fun hp=>by
      have h1:=HRK.out
      rw [HBF.out,HST.out,if_pos hp] at h1
      exact h1
     have HB0:Hid (pre s (skip s k) (sh 4 (i:Nat) YtgifkepklnhddaaGreatDoor.nul).data.toList=false→badFrom s (skip s k) 6 1=badFrom s (skip s k) (7 - (i+1)) (i+1)):=fun hp=>by
      rw [HBF.out,HST.out,if_neg (by simp [hp])]
     have HPC:Hid (((s.extract (skip s k) (skip s k+(sh 4 (i:Nat) YtgifkepklnhddaaGreatDoor.nul).size)).toList == (sh 4 (i:Nat) YtgifkepklnhddaaGreatDoor.nul).toList)=pre s (skip s k) (sh 4 (i:Nat) YtgifkepklnhddaaGreatDoor.nul).data.toList):=pre_cut s _ _
     have hne:=shBad_ne i h1 h6
     have HLE:Hid (pre s (skip s k) (sh 4 (i:Nat) YtgifkepklnhddaaGreatDoor.nul).data.toList=true→skip s k+(sh 4 (i:Nat) YtgifkepklnhddaaGreatDoor.nul).size≤s.size):=fun e=>by
      have:=pre_le e hne
      simpa using this
     clear hne HST HBF
     generalize (sh 4 (i:Nat) YtgifkepklnhddaaGreatDoor.nul)=st at *
     have hi7:i<7:=by omega
     have hsI:((skip s k:Nat):Int)+(st.size:Int)=((skip s k+st.size:Nat):Int):=by omega
     by_cases hfit:skip s k+st.size≤s.size
     ·have hfI:((skip s k:Nat):Int)+(st.size:Int)≤(s.size:Int):=by omega
      have hpc:=HPC.out
      cases hp:pre s (skip s k) st.data.toList with
      | true =>
       rw [hp] at hpc
       have HRT:Hid (RK=KV 3 (skip s k:Nat) (skip s k+st.size:Nat) st):=HRT0.out hp
       clear hp HRK HLE HPC HRT0 HB0 hsI
       go_wp2_with fail
       go_quiet (fail)
       replace hq:(wr.drewN nq).heap[w.heap.size]?=some (.cells KZ 137 (0,0)):=hq
       replace hwc:(wr.drewN nq).cell? ⟨g,i,none⟩=some (.string st):=hwc
       replace hB:Below w.heap.size w (wr.drewN nq):=below_drewN hB nq
       generalize wr.drewN nq=wr at *
       obtain⟨z0,z1,z2,z3⟩:=cells4 hq
       have zf:∀ o,wr.frozen? ⟨w.heap.size,o,none⟩=false:=fun o=>by simp [World.frozen?,hq]
       go_wp2_with fail
       refine fin4 hq (Q:=bodyPost _ _ _ _ _) ?_
       intro w9 hq9 hk9
       clear z0 z1 z2 z3 zf
       obtain⟨z0,z1,z2,z3⟩:=cells4 hq9
       exact bodyPost_ret (v:=KV 3 (skip s k:Nat) ((skip s k:Nat)+(st.size:Int)) st) (by simp [results,Tryz.results81,go_sem,z0,z1,z2,z3]) rfl ⟨by rw [HRT.out];rfl,hB.trans (hk9.toBelow hB.size (fun n hn e=>by omega))⟩
      | false =>
       rw [hp] at hpc
       have HB2:Hid (badFrom s (skip s k) 6 1=badFrom s (skip s k) (7 - (i+1)) (i+1)):=HB0.out hp
       clear hp HLE HPC HRT0 HB0 hsI
       go_wp2_with fail
       go_quiet (fail)
       go_wp2_with fail
       exact⟨⟨i+1,by simp,by omega,by omega,HB2.out,hg,hq,below_drewN hB nq⟩,by simp [intOf];omega⟩
     ·have hfI:¬ ((skip s k:Nat):Int)+(st.size:Int)≤(s.size:Int):=by omega
      have HB2:Hid (badFrom s (skip s k) 6 1=badFrom s (skip s k) (7 - (i+1)) (i+1)):=HB0.out (by
       cases hp:pre s (skip s k) st.data.toList with
       | true=>exact absurd (HLE.out hp) hfit
       | false=>rfl)
      clear HLE HPC HRT0 HB0 hsI
      have hfd:decide (((skip s k:Nat):Int)+(st.size:Int)≤(s.size:Int))=false:=by simpa using hfI
      go_wp2_with fail
      go_quiet (fail)
      go_wp2_with fail
      exact⟨⟨i+1,by simp,by omega,by omega,HB2.out,hg,hq,below_drewN hB nq⟩,by simp [intOf];omega⟩
    ·obtain rfl:i=7:=by omega
     have HRT:Hid (RK=KV 9 (skip s k:Nat) (skip s k:Nat) nul):=by
      have h1:=HRK.out
      rw [HBF.out] at h1
      exact h1
     obtain⟨z0,z1,z2,z3⟩:=cells4 hq
     have zf:∀ o,wr.frozen? ⟨w.heap.size,o,none⟩=false:=fun o=>by simp [World.frozen?,hq]
     clear HBF HRK
     go_wp2_with fail
     refine fin4 hq (Q:=bodyPost _ _ _ _ _) ?_
     intro w9 hq9 hk9
     clear z0 z1 z2 z3 zf
     obtain⟨z0,z1,z2,z3⟩:=cells4 hq9
     exact bodyPost_ret (v:=KV 9 (skip s k:Nat) (skip s k:Nat) nul) (by simp [results,Tryz.results81,go_sem,z0,z1,z2,z3]) rfl ⟨by rw [HRT.out],hB.trans (hk9.toBelow hB.size (fun n hn e=>by omega))⟩
end Go.Proofs.YtgifkepklnhddaaGreatDoor.fm

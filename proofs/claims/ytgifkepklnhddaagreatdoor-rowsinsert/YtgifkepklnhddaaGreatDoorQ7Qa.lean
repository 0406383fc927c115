import Derived.Test.YtgifkepklnhddaaGreatDoorQ7Fm3
namespace Go.Proofs.YtgifkepklnhddaaGreatDoor.fm
def T.kd:T→Int | .nd k _ _ _ _ _=>k
def T.nm:T→Int | .nd _ n _ _ _ _=>n
def opT:Nat→List UInt8
 | 1=>[61]
 | 2=>[60,62]
 | 3=>[60]
 | 4=>[60,61]
 | 5=>[62]
 | 6=>[62,61]
 | 7=>[38]
 | 8=>[43]
 | 9=>[45]
 | 10=>[42]
 | 11=>[47]
 | _=>[]
def dbl:List UInt8→List UInt8
 | []=>[]
 | c::l=>if c=34 then 34::34::dbl l else c::dbl l
def badT:Nat→List UInt8
 | 1=>[35,68,73,86,33]
 | 2=>[35,86,65,76,85,69,33]
 | 3=>[35,82,69,70,33]
 | 4=>[35,78,65,77,69,33]
 | 5=>[35,78,85,77,33]
 | 6=>[35,78,79,78,69,33]
 | _=>[]
def truT (n:Int):List UInt8:=if n=0 then [70,65,76,83,69] else [84,82,85,69]
def loose (l:Nat) (t:T):Bool:=decide (t.kd=8) && decide (lev t.nm.toNat<l)
def brk (l:Nat) (t:T) (x:List UInt8):List UInt8:=if loose l t=true then 40::(x++[41]) else x
def brd (l:Nat) (t:T) (d:Nat):Nat:=if loose l t=true then d+1 else d
def commas:List (List UInt8)→List UInt8
 | []=>[]
 | [x]=>x
 | x::y::xs=>x++44::commas (y::xs)
structure Ink where
 num:Int→List UInt8
 ref:Rf→List UInt8
 okR:Rf→Prop
section
variable (K:Ink)
inductive W:T→List UInt8→Nat→Prop
 | num {n:Int} (h0:0≤n) (h1:n≤9223372036854775807):W (.nd 1 n nul .z .z []) (K.num n) 0
 | text {s:ByteArray} (h:s.size≤200):W (.nd 2 0 s .z .z []) (34::(dbl s.data.toList++[34])) 0
 | truth {n:Int} (h:n=0∨n=1):W (.nd 3 n nul .z .z []) (truT n) 0
 | bad {n:Nat} (h:1≤n) (h6:n≤6):W (.nd 4 n nul .z .z []) (badT n) 0
 | ref {r:Rf} (h:K.okR r):W (.nd 5 0 nul r .z []) (K.ref r) 0
 | box {r t:Rf} (h:K.okR r) (h2:K.okR t):W (.nd 6 0 nul r t []) (K.ref r++58::K.ref t) 0
 | neg {a:T} {x:List UInt8} {d:Nat} (ha:a.kd≠6) (h:W a x d):W (.nd 7 0 nul .z .z [a]) (45::brk 5 a x) (brd 5 a d+1)
 | two {op:Nat} {a b:T} {x y:List UInt8} {d e:Nat} (h1:1≤op) (h11:op≤11) (ha:a.kd≠6) (hb:b.kd≠6) (hx:W a x d) (hy:W b y e) :
   W (.nd 8 op nul .z .z [a,b]) (brk (lev op) a x++opT op++brk (lev op+1) b y) (max (brd (lev op) a d) (brd (lev op+1) b e))
 | call {name:ByteArray} {ts:List T} {xs:List (List UInt8)} {ds:List Nat} (hn:isNm name=true) (hx:xs.length=ts.length) (hd:ds.length=ts.length)
   (h:∀ (i:Nat) t x d,ts[i]?=some t→xs[i]?=some x→ds[i]?=some d→W t x d) :
   W (.nd 9 0 name .z .z ts) (name.data.toList++40::(commas xs++[41])) (ds.foldr max 0+1)
end
def At (s:ByteArray) (k:Nat) (x:List UInt8):Prop:=∃ a b,s.data.toList=a++(x++b)∧a.length=k
theorem At.le {s:ByteArray} {k:Nat} {x:List UInt8} (h:At s k x):k+x.length≤s.size:=by
 obtain⟨a,b,h,rfl⟩:=h
 have:=congrArg List.length h
 simp at this
 have e:s.size=s.data.size:=rfl
 omega
theorem At.app {s:ByteArray} {k:Nat} {x y:List UInt8} (h:At s k (x++y)):At s k x∧At s (k+x.length) y:=by
 obtain⟨a,b,h,rfl⟩:=h
 exact⟨⟨a,y++b,by rw [h];simp,rfl⟩,⟨a++x,b,by rw [h];simp,by simp⟩⟩
theorem At.cons {s:ByteArray} {k:Nat} {c:UInt8} {y:List UInt8} (h:At s k (c::y)):nx s k=c.toNat∧At s (k+1) y:=by
 have h2:=(At.app (x:=[c]) h).2
 obtain⟨a,b,h,rfl⟩:=h
 have hl:a.length<s.size:=by
  have:=congrArg List.length h
  simp at this
  have e:s.size=s.data.size:=rfl
  omega
 refine⟨?_,h2⟩
 rw [nx_in hl]
 have e:s.data.toList[a.length]?=some c:=by rw [h];simp
 have:s[a.length]'hl=c:=by
  rw [Array.getElem?_toList] at e
  have e2:s.data[a.length]?=some (s.data[a.length]'hl):=Array.getElem?_eq_getElem hl
  rw [e2] at e
  exact Option.some.inj e
 rw [this]
theorem At.drop {s:ByteArray} {k:Nat} {x:List UInt8} (h:At s k x):∃ b,s.data.toList.drop k=x++b:=by
 obtain⟨a,b,h,rfl⟩:=h
 exact⟨b,by rw [h];simp⟩
structure St (s:ByteArray) (k:Nat):Prop where
 w:isW (nx s k)=false
 c:nx s k≠58
 b:nx s k≠32
 q:nx s k≠34
 p:nx s k≠40
def Hd (x:List UInt8):Prop:=∃ c r,x=c::r∧(isW c.toNat=true∨c=34∨c=35∨c=45∨c=40)
theorem Hd.ne {s:ByteArray} {k:Nat} {x:List UInt8} (h:Hd x) (ha:At s k x):nx s k≠32∧nx s k≠61∧nx s k≠62∧nx s k≠41∧nx s k≠58:=by
 obtain⟨c,r,rfl,hc⟩:=h
 have:=ha.cons.1
 rw [this]
 rcases hc with hc | rfl | rfl | rfl | rfl
 ·refine⟨?_,?_,?_,?_,?_⟩<;>intro e<;>rw [e] at hc<;>simp [isW] at hc
 all_goals decide
theorem tok_at {s:ByteArray} {k:Nat} {x:List UInt8} (h:At s k x) (hw:∀ c∈x,isW c.toNat=true) (he:isW (nx s (k+x.length))=false):tokEnd s k=k+x.length:=by
 induction x generalizing k with
 | nil=>exact tok_out he
 | cons c x ih =>
  have h1:=h.cons
  rw [tok_in (by rw [h1.1];exact hw c (by simp)),ih h1.2 (fun c h=>hw c (by simp [h])) (by rw [show k+1+x.length=k+(c::x).length from by simp;omega];exact he)]
  simp;omega
theorem extract_at {s:ByteArray} {k:Nat} {x:List UInt8} (h:At s k x):s.extract k (k+x.length)=⟨x.toArray⟩:=by
 obtain⟨a,b,h,rfl⟩:=h
 apply ByteArray.ext
 rw [ByteArray.data_extract]
 apply Array.ext'
 rw [Array.toList_extract]
 simp [List.extract,h]
theorem skip_at {s:ByteArray} {k:Nat} (h:nx s k≠32):skip s k=k:=skip_else h
theorem op_at {s:ByteArray} {k op:Nat} {y:List UInt8} (h1:1≤op) (h11:op≤11) (h:At s k (opT op++y)) (hy:Hd y):opAt s k=(op,(opT op).length):=by
 have hy2:=(hy.ne h.app.2)
 unfold opAt
 have hc:op=1∨op=2∨op=3∨op=4∨op=5∨op=6∨op=7∨op=8∨op=9∨op=10∨op=11:=by omega
 rcases hc with rfl | rfl | rfl | rfl | rfl | rfl | rfl | rfl | rfl | rfl | rfl
 all_goals (simp only [opT,List.cons_append,List.nil_append,List.length_cons,List.length_nil] at h hy2 ⊢)
 all_goals (have q1:=h.cons.1)
 all_goals (try have q2:=h.cons.2.cons.1)
 all_goals (rw [q1])
 all_goals (simp only [Nat.zero_add] at hy2)
 all_goals (first | (simp;done) | (rw [q2];simp;done) | (simp [hy2];done) | (rw [q2] at hy2 ⊢;simp at hy2 ⊢;simp [hy2];done) | skip)
end Go.Proofs.YtgifkepklnhddaaGreatDoor.fm
namespace Go.Proofs.YtgifkepklnhddaaGreatDoor.fm
structure Fit (L:Lex) (K:Ink):Prop where
 numM:∀ n:Int,0≤n→n≤9223372036854775807→L.mean ⟨(K.num n).toArray⟩=some (.nd 1 n nul .z .z [])
 numW:∀ n:Int,0≤n→∀ c∈K.num n,isW c.toNat=true
 numE:∀ n:Int,0≤n→K.num n≠[]
 refM:∀ r,K.okR r→L.mean ⟨(K.ref r).toArray⟩=some (tRef r)
 refR:∀ r,K.okR r→L.ref ⟨(K.ref r).toArray⟩=some r
 refW:∀ r,K.okR r→∀ c∈K.ref r,isW c.toNat=true
 refE:∀ r,K.okR r→K.ref r≠[]
 truM:∀ n:Int,n=0∨n=1→L.mean ⟨(truT n).toArray⟩=some (.nd 3 n nul .z .z [])
 back:∀ t u,(∀ c∈t.data.toList,isW c.toNat=true)→t.size≤200→L.mean t=some u→u.kd≠6∧u.kd≠8∧∃ x,W K u x 0∧x.length≤t.size
 rback:∀ t r,L.ref t=some r→K.okR r∧(K.ref r).length≤t.size
theorem quote_at (s:ByteArray) (l:List UInt8):∀ (k:Nat) (acc:List UInt8),At s k (dbl l++[34])→nx s (k+(dbl l).length+1)≠34→quote s k acc=some (acc++l,k+(dbl l).length+1):=by
 induction l with
 | nil =>
  intro k acc h hq
  have h1:=(At.cons (c:=34) (y:=[]) h).1
  have hl:=nx_lt (s:=s) (k:=k) (by rw [h1];decide)
  rw [nx_in hl] at h1
  have h2:s[k]=34:=UInt8.toNat_inj.1 h1
  rw [quote,dif_pos hl,if_pos h2,if_neg (by simpa [dbl] using hq)]
  simp [dbl]
 | cons c l ih =>
  intro k acc h hq
  unfold dbl at h hq ⊢
  by_cases hc:c=34
  ·subst hc
   rw [if_pos rfl] at h hq ⊢
   have h1:=(At.cons h).1
   have h2:=(At.cons (At.cons h).2).1
   have h3:=(At.cons (At.cons h).2).2
   have hl:=nx_lt (s:=s) (k:=k) (by rw [h1];decide)
   have h4:s[k]=34:=by rw [nx_in hl] at h1;exact UInt8.toNat_inj.1 h1
   rw [quote,dif_pos hl,if_pos h4,if_pos (by rw [h2];rfl),ih (k+2) _ h3 (by simp at hq;rw [show k+2+(dbl l).length+1=k+((dbl l).length+1+1)+1 from by omega];exact hq)]
   simp;omega
  ·rw [if_neg hc] at h hq ⊢
   have h1:=(At.cons h).1
   have h3:=(At.cons h).2
   have hl:k<s.size:=by have:=h.le;simp at this;omega
   have h4:s[k]=c:=by rw [nx_in hl] at h1;exact UInt8.toNat_inj.1 h1
   rw [quote,dif_pos hl,if_neg (by rw [h4];exact hc),h4,ih (k+1) _ h3 (by simp at hq;rw [show k+1+(dbl l).length+1=k+((dbl l).length+1)+1 from by omega];exact hq)]
   simp;omega
theorem bad_at (s:ByteArray) (k n:Nat) (h1:1≤n) (h6:n≤6) (h:At s k (badT n)):badAt s k=some (n,(badT n).length):=by
 obtain⟨b,hb⟩:=h.drop
 have hc:n=1∨n=2∨n=3∨n=4∨n=5∨n=6:=by omega
 rcases hc with rfl | rfl | rfl | rfl | rfl | rfl
 all_goals (simp only [badT] at hb ⊢;simp [badAt,badList,pre,hb,List.isPrefixOf])
def lv (t:T):Nat:=if t.kd=8 then lev t.nm.toNat else 5
section
variable (L:Lex)
def Cl (t:T) (x:List UInt8) (dp v:Nat):Prop:=∀ s k d,At s k x→St s (k+x.length)→d+dp≤30→lev (opAt s (k+x.length)).1≤v →
 nx s (tokEnd s k)≠58∧∀ l,1≤l→l≤v→Expr L s l d k=Chain L s l d t (k+x.length)
theorem lev_41 {s:ByteArray} {k:Nat} (h:nx s k=44∨nx s k=41∨nx s k=0):lev (opAt s k).1=0:=by
 unfold opAt
 rcases h with h | h | h<;>rw [h]<;>simp [lev]
theorem St.of {s:ByteArray} {k:Nat} (h:nx s k=44∨nx s k=41∨nx s k=0):St s k:=by
 rcases h with h | h | h<;>exact⟨by rw [h];decide,by rw [h];decide,by rw [h];decide,by rw [h];decide,by rw [h];decide⟩
theorem cl_operand {t:T} {x:List UInt8} {dp:Nat} (h:∀ s k d,At s k x→St s (k+x.length)→d+dp≤30→nx s (tokEnd s k)≠58∧Operand L s d k=.ok t (k+x.length)):Cl L t x dp 5:=by
 intro s k d ha hst hd hv
 have hx:=h s k d ha hst hd
 refine⟨hx.1,fun l h1 h5=>?_⟩
 have hle:=ha.le
 rw [Expr_chain L s _ l d k rfl h1 h5 (by omega),hx.2]
 rfl
theorem cl_ok {t:T} {x:List UInt8} {dp v:Nat} (h:Cl L t x dp v) {s:ByteArray} {k d l:Nat} (ha:At s k x) (hst:St s (k+x.length)) (hd:d+dp≤30) (h1:1≤l) (hl:l≤v) (hv:lev (opAt s (k+x.length)).1<l) :
  Expr L s l d k=.ok t (k+x.length):=by
 have hle:=ha.le
 rw [(h s k d ha hst hd (by omega)).2 l h1 hl,Chain_none L s _ l d t _ rfl h1 hle (by rw [skip_at hst.b];exact hv)]
 split
 ·rfl
 ·rw [skip_at hst.b]
theorem cl_bracket {t:T} {x:List UInt8} {dp v:Nat} (h:Cl L t x dp v) (hv:1≤v):Cl L t (40::(x++[41])) (dp+1) 5:=by
 refine cl_operand L fun s k d ha hst hd=>?_
 have h1:=ha.cons
 have h2:=h1.2.app
 have h3:=(At.cons (y:=[]) h2.2).1
 have e3:nx s (k+1+x.length)=41:=h3
 have hw:isW (nx s k)=false:=by rw [h1.1];decide
 have hle:=ha.le
 refine⟨by rw [tok_out hw,h1.1];decide,?_⟩
 have hsk:skip s k=k:=skip_at (by rw [h1.1];decide)
 have e1:nx s k=40:=h1.1
 have hr:=cl_ok L h (d:=d+1) (l:=1) h2.1 (St.of (.inr (.inl e3))) (by omega) (by omega) hv (by rw [lev_41 (.inr (.inl e3))];omega)
 rw [Operand_eq L s d k (by omega),hsk,if_neg (by omega),if_pos e1,if_neg (by omega),hr]
 show (if nx s (skip s (k+1+x.length))=41 then _ else _)=_
 rw [skip_at (by omega),if_pos e3]
 simp;omega
theorem lv_le (t:T):lv t≤5:=by unfold lv;split;have:=lev_le t.nm.toNat;omega;omega
theorem cl_opd {t:T} {x:List UInt8} {dp:Nat} (h:Cl L t x dp (lv t)) (hv:1≤lv t) (l0:Nat) (h5:l0≤5):∃ v,l0≤v∧Cl L t (brk l0 t x) (brd l0 t dp) v:=by
 unfold brk brd
 by_cases hl:loose l0 t=true
 ·rw [if_pos hl,if_pos hl];exact⟨5,h5,cl_bracket L h hv⟩
 ·rw [if_neg hl,if_neg hl]
  refine⟨lv t,?_,h⟩
  unfold loose at hl
  unfold lv
  split
  ·next c=>simp [c] at hl;exact hl
  ·exact h5
theorem hd_brk {l:Nat} {t:T} {x:List UInt8} (h:Hd x):Hd (brk l t x):=by
 unfold brk
 split
 ·exact⟨40,_,rfl,by simp⟩
 ·exact h
theorem tokAt58 {s:ByteArray} {k:Nat} {x:List UInt8} (ha:At s k x) (hw:∀ c∈x,isW c.toNat=true) (hst:St s (k+x.length)):nx s (tokEnd s k)≠58:=by
 rw [tok_at ha hw hst.w];exact hst.c
theorem word_read {s:ByteArray} {k d:Nat} {x:List UInt8} {t:T} (ha:At s k x) (hw:∀ c∈x,isW c.toNat=true) (hne:x≠[]) (hst:St s (k+x.length)) (hm:L.mean ⟨x.toArray⟩=some t):Operand L s d k=.ok t (k+x.length):=by
 cases x with
 | nil=>exact absurd rfl hne
 | cons c x =>
  have h1:=ha.cons
  have hc:=hw c (by simp)
  rw [← h1.1] at hc
  have hx:nx s k≠32∧nx s k≠45∧nx s k≠40∧nx s k≠34∧nx s k≠35:=by
   refine⟨?_,?_,?_,?_,?_⟩<;>intro e<;>rw [e] at hc<;>simp [isW] at hc
  have hle:=ha.le
  have ht:=tok_at ha hw hst.w
  rw [Operand_eq L s d k (by omega),skip_at hx.1,if_neg hx.2.1,if_neg hx.2.2.1,if_neg hx.2.2.2.1,if_neg hx.2.2.2.2,ht,if_neg (fun e=>hst.p e.2)]
  rw [show tok s k=⟨(c::x).toArray⟩ from by unfold tok;rw [ht];exact extract_at ha,hm]
theorem hd_word {x:List UInt8} (hw:∀ c∈x,isW c.toNat=true) (hne:x≠[]):Hd x:=by
 cases x with
 | nil=>exact absurd rfl hne
 | cons c x=>exact⟨c,x,rfl,.inl (hw c (by simp))⟩
def ArgOK (t:T) (x:List UInt8) (dp:Nat):Prop:=∀ s k d,At s k x→(nx s (k+x.length)=44∨nx s (k+x.length)=41)→d+dp≤30→Arg L s d k=.ok t (k+x.length)
theorem arg_cl {t:T} {x:List UInt8} {dp v:Nat} (h:Cl L t x dp v) (hv:1≤v) (hh:Hd x):ArgOK L t x dp:=by
 intro s k d ha hx hd
 have hx':nx s (k+x.length)=44∨nx s (k+x.length)=41∨nx s (k+x.length)=0:=by rcases hx with h | h<;>simp [h]
 have hle:=ha.le
 have h58:=(h s k d ha (St.of hx') hd (by rw [lev_41 hx'];omega)).1
 have hr:=cl_ok L h (l:=1) ha (St.of hx') hd (by omega) hv (by rw [lev_41 hx'];omega)
 rw [Arg_eq L s d k (by omega),skip_at (hh.ne ha).1]
 split
 ·exact hr
 ·rw [if_neg h58];exact hr
theorem argW_box {K:Ink} (F:Fit L K) {r t:Rf} (hr:K.okR r) (ht:K.okR t):ArgOK L (.nd 6 0 nul r t []) (K.ref r++58::K.ref t) 0:=by
 intro s k d ha hx hd
 have h1:=ha.app
 have h2:=h1.2.cons
 have hle:=ha.le
 have hw:isW (nx s (k+(K.ref r).length))=false:=by rw [h2.1];decide
 have e1:=tok_at h1.1 (F.refW r hr) hw
 have e2:tokEnd s (k+(K.ref r).length+1)=k+(K.ref r).length+1+(K.ref t).length:=tok_at h2.2 (F.refW t ht) (by
  rw [show k+(K.ref r).length+1+(K.ref t).length=k+(K.ref r++58::K.ref t).length from by simp;omega]
  rcases hx with h | h<;>rw [h]<;>decide)
 have hsk:=((hd_word (F.refW r hr) (F.refE r hr)).ne h1.1).1
 have t1:tok s k=⟨(K.ref r).toArray⟩:=by unfold tok;rw [e1];exact extract_at h1.1
 have t2:tok s (k+(K.ref r).length+1)=⟨(K.ref t).toArray⟩:=by unfold tok;rw [e2];exact extract_at h2.2
 rw [Arg_eq L s d k (by omega),skip_at hsk,t1,F.refR r hr]
 show (if nx s (tokEnd s k)=58 then _ else _)=_
 rw [e1,if_pos (by rw [h2.1];rfl),t2,F.refR t ht]
 show Rs.ok _ (tokEnd s _)=_
 rw [e2]
 simp [tBox];omega
theorem commas_cons (x:List UInt8) (xs:List (List UInt8)):commas (x::xs)=x++xs.flatMap (fun y=>44::y):=by
 induction xs generalizing x with
 | nil=>simp [commas]
 | cons y ys ih=>rw [commas,ih];simp
theorem more_at (s:ByteArray) (d:Nat):∀ (ts:List T) (xs:List (List UInt8)) (acc:List T) (k:Nat),xs.length=ts.length →
  (∀ (i:Nat) t x,ts[i]?=some t→xs[i]?=some x→∃ dp,d+dp≤30∧ArgOK L t x dp) →
  At s k (xs.flatMap (fun y=>44::y)++[41])→More L s d acc k=.ok (acc++ts) (k+(xs.flatMap (fun y=>44::y)).length+1):=by
 intro ts
 induction ts with
 | nil =>
  intro xs acc k hl _ ha
  cases xs with
  | cons=>simp at hl
  | nil =>
   have h1:nx s k=41:=(At.cons (y:=[]) ha).1
   have hle:=ha.le
   rw [More_eq L s d acc k (by omega),skip_at (by omega),if_neg (by omega),if_pos h1]
   simp
 | cons t ts ih =>
  intro xs acc k hl hA ha
  cases xs with
  | nil=>simp at hl
  | cons x xs =>
   simp only [List.flatMap_cons,List.cons_append,List.append_assoc] at ha
   have h1:=ha.cons
   have h2:=h1.2.app
   have hle:=ha.le
   have hn:nx s (k+1+x.length)=44∨nx s (k+1+x.length)=41:=by
    cases xs with
    | nil=>exact .inr (At.cons (y:=[]) h2.2).1
    | cons y ys=>simp only [List.flatMap_cons,List.cons_append] at h2;exact .inl h2.2.cons.1
   obtain⟨dp,hdp,hok⟩:=hA 0 t x (by simp) (by simp)
   have e1:nx s k=44:=h1.1
   rw [More_eq L s d acc k (by omega),skip_at (by omega),if_pos e1,hok s (k+1) d h2.1 hn hdp]
   show More L s d (acc++[t]) (k+1+x.length)=_
   rw [ih xs (acc++[t]) _ (by simpa using hl) (fun i t x h1 h2=>hA (i+1) t x (by simpa using h1) (by simpa using h2)) h2.2]
   simp;omega
theorem args_at (s:ByteArray) (d k:Nat) (ts:List T) (xs:List (List UInt8)) (hl:xs.length=ts.length)
  (hA:∀ (i:Nat) t x,ts[i]?=some t→xs[i]?=some x→Hd x∧∃ dp,d+dp≤30∧ArgOK L t x dp) (ha:At s k (commas xs++[41])) :
  Args L s d k=.ok ts (k+(commas xs).length+1):=by
 have hle:=ha.le
 cases xs with
 | nil =>
  cases ts with
  | cons=>simp at hl
  | nil =>
   have h1:nx s k=41:=(At.cons (y:=[]) ha).1
   rw [Args_eq L s d k (by omega),skip_at (by omega),if_pos h1]
   simp [commas]
 | cons x xs =>
  cases ts with
  | nil=>simp at hl
  | cons t ts =>
   rw [commas_cons] at ha ⊢
   simp only [List.append_assoc] at ha
   have h2:=ha.app
   have hn:nx s (k+x.length)=44∨nx s (k+x.length)=41:=by
    cases xs with
    | nil=>exact .inr (At.cons (y:=[]) h2.2).1
    | cons y ys=>simp only [List.flatMap_cons,List.cons_append] at h2;exact .inl h2.2.cons.1
   obtain⟨hh,dp,hdp,hok⟩:=hA 0 t x (by simp) (by simp)
   have hne:=hh.ne h2.1
   rw [Args_eq L s d k (by omega),skip_at hne.1,if_neg hne.2.2.2.1,hok s k d h2.1 hn hdp]
   show More L s d [t] (k+x.length)=_
   rw [more_at L s d ts xs [t] _ (by simpa using hl) (fun i t x h1 h2=>(hA (i+1) t x (by simpa using h1) (by simpa using h2)).2) h2.2]
   simp;omega
theorem lv_pos {K:Ink} {t:T} {x:List UInt8} {dp:Nat} (h:W K t x dp):1≤lv t:=by
 unfold lv
 split
 ·next c =>
  cases h<;>simp [T.kd] at c
  rename_i h1 h11 _ _ _ _
  exact lev_pos (by simp [T.nm];omega)
 ·omega
theorem foldr_max (ds:List Nat):∀ (i:Nat) d,ds[i]?=some d→d≤ds.foldr max 0:=by
 induction ds with
 | nil=>intro i d h;simp at h
 | cons a ds ih =>
  intro i d h
  cases i with
  | zero=>simp at h;subst h;simp;omega
  | succ i=>have:=ih i d (by simpa using h);simp;omega
theorem isNm_word {name:ByteArray} (h:isNm name=true):(∀ c∈name.data.toList,isW c.toNat=true)∧name.data.toList≠[]:=by
 unfold isNm at h
 rw [Bool.and_eq_true,Bool.and_eq_true,List.all_eq_true,decide_eq_true_eq,decide_eq_true_eq] at h
 refine⟨fun c hc=>?_,fun e=>?_⟩
 ·have:=h.2 c hc
  simp at this
  simp [isW];omega
 ·have:name.size=0:=by show name.data.size=0;rw [← Array.length_toList,e];rfl
  omega
theorem read_back {K:Ink} (F:Fit L K) {t:T} {x:List UInt8} {dp:Nat} (h:W K t x dp):Hd x∧(t.kd≠6→Cl L t x dp (lv t))∧ArgOK L t x dp:=by
 induction h with
 | @num n h0 h1 =>
  have hh:=hd_word (F.numW n h0) (F.numE n h0)
  have hc:Cl L (.nd 1 n nul .z .z []) (K.num n) 0 5:=cl_operand L fun s k d ha hst hd=>⟨tokAt58 ha (F.numW n h0) hst,word_read L ha (F.numW n h0) (F.numE n h0) hst (F.numM n h0 h1)⟩
  exact⟨hh,fun _=>hc,arg_cl L hc (by omega) hh⟩
 | @text s0 hs =>
  have hh:Hd (34::(dbl s0.data.toList++[34])):=⟨34,_,rfl,by simp⟩
  have hc:Cl L (.nd 2 0 s0 .z .z []) (34::(dbl s0.data.toList++[34])) 0 5:=cl_operand L fun s k d ha hst hd=>by
   have h1:=ha.cons
   have e1:nx s k=34:=h1.1
   have hle:=ha.le
   have hq:=quote_at s s0.data.toList (k+1) [] h1.2 (by
    have:=hst.q
    rw [show k+1+(dbl s0.data.toList).length+1=k+(34::(dbl s0.data.toList++[34])).length from by simp;omega]
    exact this)
   refine⟨by rw [tok_out (by rw [e1];decide),e1];decide,?_⟩
   rw [Operand_eq L s d k (by omega),skip_at (by omega),if_neg (by omega),if_neg (by omega),if_pos e1,hq]
   simp [tText];omega
  exact⟨hh,fun _=>hc,arg_cl L hc (by omega) hh⟩
 | @truth n hn =>
  have hw:∀ c∈truT n,isW c.toNat=true:=by rcases hn with rfl | rfl<;>decide
  have hne:truT n≠[]:=by rcases hn with rfl | rfl<;>decide
  have hh:=hd_word hw hne
  have hc:Cl L (.nd 3 n nul .z .z []) (truT n) 0 5:=cl_operand L fun s k d ha hst hd=>⟨tokAt58 ha hw hst,word_read L ha hw hne hst (F.truM n hn)⟩
  exact⟨hh,fun _=>hc,arg_cl L hc (by omega) hh⟩
 | @bad n h1 h6 =>
  have hb:∃ y,badT n=35::y:=by
   have hc:n=1∨n=2∨n=3∨n=4∨n=5∨n=6:=by omega
   rcases hc with rfl | rfl | rfl | rfl | rfl | rfl<;>exact⟨_,rfl⟩
  obtain⟨y,hy⟩:=hb
  have hh:Hd (badT n):=⟨35,y,hy,by simp⟩
  have hc:Cl L (.nd 4 n nul .z .z []) (badT n) 0 5:=cl_operand L fun s k d ha hst hd=>by
   have e1:nx s k=35:=by have:=ha;rw [hy] at this;exact this.cons.1
   have hle:=ha.le
   refine⟨by rw [tok_out (by rw [e1];decide),e1];decide,?_⟩
   rw [Operand_eq L s d k (by omega),skip_at (by omega),if_neg (by omega),if_neg (by omega),if_neg (by omega),if_pos e1,bad_at s k n h1 h6 ha]
   rfl
  exact⟨hh,fun _=>hc,arg_cl L hc (by omega) hh⟩
 | @ref r hr =>
  have hh:=hd_word (F.refW r hr) (F.refE r hr)
  have hc:Cl L (.nd 5 0 nul r .z []) (K.ref r) 0 5:=cl_operand L fun s k d ha hst hd=>⟨tokAt58 ha (F.refW r hr) hst,word_read L ha (F.refW r hr) (F.refE r hr) hst (F.refM r hr)⟩
  exact⟨hh,fun _=>hc,arg_cl L hc (by omega) hh⟩
 | @box r t hr ht =>
  refine⟨?_,fun h=>absurd rfl h,argW_box L F hr ht⟩
  obtain⟨c,y,e,hc⟩:=hd_word (F.refW r hr) (F.refE r hr)
  exact⟨c,y++58::K.ref t,by rw [e];rfl,hc⟩
 | @neg a x d ha h ih =>
  have hh:Hd (45::brk 5 a x):=⟨45,_,rfl,by simp⟩
  obtain⟨v,hv,hc0⟩:=cl_opd L (ih.2.1 ha) (lv_pos h) 5 (by omega)
  have hc:Cl L (.nd 7 0 nul .z .z [a]) (45::brk 5 a x) (brd 5 a d+1) 5:=cl_operand L fun s k e ha hst hd=>by
   have h1:=ha.cons
   have e1:nx s k=45:=h1.1
   have hle:=ha.le
   simp only [List.length_cons] at hle
   have hst':St s (k+1+(brk 5 a x).length):=by rw [show k+1+(brk 5 a x).length=k+(45::brk 5 a x).length from by simp;omega];exact hst
   have hr:=cl_ok L hc0 (d:=e+1) (l:=5) h1.2 hst' (by omega) (by omega) hv (by have:=lev_le (opAt s (k+1+(brk 5 a x).length)).1;omega)
   rw [Expr_five L s _ _ (by omega)] at hr
   refine⟨by rw [tok_out (by rw [e1];decide),e1];decide,?_⟩
   rw [Operand_eq L s e k (by omega),skip_at (by omega),if_pos e1,if_neg (by omega),hr]
   show Rs.ok (tNeg a) _=_
   simp [tNeg];omega
  exact⟨hh,fun _=>hc,arg_cl L hc (by omega) hh⟩
 | @two op a b x y d e h1 h11 ha hb hx hy ihx ihy =>
  have hle4:=lev_le op
  have hpos:=lev_pos (op:=op) (by omega)
  obtain⟨v1,hv1,c1⟩:=cl_opd L (ihx.2.1 ha) (lv_pos hx) (lev op) (by omega)
  obtain⟨v2,hv2,c2⟩:=cl_opd L (ihy.2.1 hb) (lv_pos hy) (lev op+1) (by omega)
  have hha:Hd (brk (lev op) a x):=hd_brk ihx.1
  have hhb:Hd (brk (lev op+1) b y):=hd_brk ihy.1
  have hh:Hd (brk (lev op) a x++opT op++brk (lev op+1) b y):=by
   obtain⟨c,r,e,hc⟩:=hha
   exact⟨c,r++opT op++brk (lev op+1) b y,by rw [e];simp,hc⟩
  have hlv:lv (.nd 8 op nul .z .z [a,b])=lev op:=by simp [lv,T.kd,T.nm]
  have hc:Cl L (.nd 8 op nul .z .z [a,b]) (brk (lev op) a x++opT op++brk (lev op+1) b y) (max (brd (lev op) a d) (brd (lev op+1) b e)) (lev op):=by
   intro s k d0 hat hst hd hv
   have hle:=hat.le
   have hat':At s k (brk (lev op) a x++(opT op++brk (lev op+1) b y)):=by rw [← List.append_assoc];exact hat
   have s1:=hat'.app
   have s2:=s1.2.app
   have ho:=op_at h1 h11 s1.2 hhb
   have hnx:St s (k+(brk (lev op) a x).length):=by
    have:=s1.2
    have hc:op=1∨op=2∨op=3∨op=4∨op=5∨op=6∨op=7∨op=8∨op=9∨op=10∨op=11:=by omega
    rcases hc with rfl | rfl | rfl | rfl | rfl | rfl | rfl | rfl | rfl | rfl | rfl
    all_goals (simp only [opT,List.cons_append] at this;have q:=this.cons.1;exact⟨by rw [q];decide,by rw [q];decide,by rw [q];decide,by rw [q];decide,by rw [q];decide⟩)
   have hlen:k+(brk (lev op) a x++opT op++brk (lev op+1) b y).length=k+(brk (lev op) a x).length+(opT op).length+(brk (lev op+1) b y).length:=by simp;omega
   rw [hlen] at hst hv ⊢
   have r1:=c1 s k d0 s1.1 hnx (by omega) (by rw [ho];exact hv1)
   refine⟨r1.1,fun l hl1 hl2=>?_⟩
   have r2:=cl_ok L c2 (d:=d0) (l:=lev op+1) s2.2 hst (by omega) (by omega) hv2 (by omega)
   have hsk:=skip_at hnx.b
   rw [r1.2 l hl1 (by omega),Chain_some L s _ l d0 a _ rfl hl1 (by have:=s1.1.le;omega) (by rw [hsk,ho];exact hl2),hsk,ho]
   show Rs.bind (Expr L s (lev op+1) d0 _) _=_
   rw [r2]
   rfl
  exact⟨hh,fun _=>by rw [hlv];exact hc,arg_cl L hc hpos hh⟩
 | @call name ts xs ds hn hx hd h ih =>
  have hwd:=isNm_word hn
  have hh:Hd (name.data.toList++40::(commas xs++[41])):=by
   obtain⟨c,r,e,hc⟩:=hd_word hwd.1 hwd.2
   exact⟨c,r++40::(commas xs++[41]),by rw [e];simp,hc⟩
  have hc:Cl L (.nd 9 0 name .z .z ts) (name.data.toList++40::(commas xs++[41])) (ds.foldr max 0+1) 5:=cl_operand L fun s k e ha hst hde=>by
   have s1:=ha.app
   have s2:=s1.2.cons
   have hle:=ha.le
   have e2:nx s (k+name.data.toList.length)=40:=s2.1
   have ht:=tok_at s1.1 hwd.1 (by rw [e2];decide)
   have htk:tok s k=name:=by unfold tok;rw [ht,extract_at s1.1]
   have hq:=hd_word hwd.1 hwd.2
   obtain⟨c,r,er,hcc⟩:=hq
   have hcw:=hwd.1 c (by rw [er];simp)
   have hk1:nx s k=c.toNat:=by have:=s1.1;rw [er] at this;exact this.cons.1
   rw [← hk1] at hcw
   have hx4:nx s k≠32∧nx s k≠45∧nx s k≠40∧nx s k≠34∧nx s k≠35:=by
    refine⟨?_,?_,?_,?_,?_⟩<;>intro e<;>rw [e] at hcw<;>simp [isW] at hcw
   refine⟨by rw [ht,e2];decide,?_⟩
   have hA:=args_at L s (e+1) (k+name.data.toList.length+1) ts xs hx (fun i t x h1 h2=>by
    have hi:i<ds.length:=by rw [hd];exact (List.getElem?_eq_some_iff.1 h1).1
    have h3:ds[i]?=some ds[i]:=List.getElem?_eq_getElem hi
    have:=ih i t x _ h1 h2 h3
    have hm:=foldr_max ds i _ h3
    exact⟨this.1,ds[i],by omega,this.2.2⟩) s2.2
   rw [Operand_eq L s e k (by omega),skip_at hx4.1,if_neg hx4.2.1,if_neg hx4.2.2.1,if_neg hx4.2.2.2.1,if_neg hx4.2.2.2.2,ht,htk,if_pos ⟨hn,e2⟩,if_neg (by omega),hA]
   show Rs.ok (tCall name ts) _=_
   simp [tCall];omega
  exact⟨hh,fun _=>hc,arg_cl L hc (by omega) hh⟩
theorem parse_back {K:Ink} (F:Fit L K) {t:T} {x:List UInt8} {dp:Nat} (h:W K t x dp) (hk:t.kd≠6) (hd:dp≤30) (hs:x.length+1≤200):parse L ⟨(61::x).toArray⟩=.ok t 0:=by
 have hb:=read_back L F h
 have hsz:(⟨(61::x).toArray⟩:ByteArray).size=x.length+1:=by show (61::x).toArray.size=_;simp
 have hat:At ⟨(61::x).toArray⟩ 0 (61::x):=⟨[],[],by simp,rfl⟩
 have h1:=hat.cons
 have hend:nx ⟨(61::x).toArray⟩ (1+x.length)=0:=nx_out (by rw [hsz];omega)
 have hr:=cl_ok L (hb.2.1 hk) (d:=0) (l:=1) h1.2 (St.of (.inr (.inr (by rw [Nat.zero_add];exact hend)))) (by omega) (by omega) (lv_pos h) (by rw [Nat.zero_add,lev_41 (.inr (.inr hend))];omega)
 unfold parse
 rw [if_neg (by omega),if_neg (by rw [h1.1];decide)]
 rw [Nat.zero_add] at hr
 rw [hr]
 show (if skip _ (1+x.length)<_ then _ else _)=_
 rw [skip_at (by omega),if_neg (by omega)]
end
end Go.Proofs.YtgifkepklnhddaaGreatDoor.fm
namespace Go.Proofs.YtgifkepklnhddaaGreatDoor.fm
theorem brk_len (l:Nat) (t:T) (x:List UInt8):x.length≤(brk l t x).length∧(brk l t x).length≤x.length+2:=by
 unfold brk;split<;>simp<;>omega
theorem brd_le (l:Nat) (t:T) (d:Nat):d≤brd l t d∧brd l t d≤d+1:=by
 unfold brd;split<;>omega
theorem brk_up {l m:Nat} (h:l≤m) (t:T) (x:List UInt8):(brk l t x).length≤(brk m t x).length:=by
 unfold brk
 by_cases h1:loose l t=true
 ·have:loose m t=true:=by unfold loose at h1 ⊢;simp at h1 ⊢;omega
  rw [if_pos h1,if_pos this];exact Nat.le_refl _
 ·rw [if_neg h1];split<;>simp<;>omega
theorem brd_up {l m:Nat} (h:l≤m) (t:T) (d:Nat):brd l t d≤brd m t d:=by
 unfold brd
 by_cases h1:loose l t=true
 ·have:loose m t=true:=by unfold loose at h1 ⊢;simp at h1 ⊢;omega
  rw [if_pos h1,if_pos this];exact Nat.le_refl _
 ·rw [if_neg h1];split<;>omega
theorem brk_not {l:Nat} {t:T} {x:List UInt8} (h:t.kd≠8):brk l t x=x:=by unfold brk loose;simp [h]
theorem brd_not {l:Nat} {t:T} {d:Nat} (h:t.kd≠8):brd l t d=d:=by unfold brd loose;simp [h]
theorem dbl_len (l:List UInt8):l.length≤(dbl l).length:=by
 induction l with
 | nil=>simp [dbl]
 | cons c l ih=>unfold dbl;split<;>simp<;>omega
theorem quoteW_len (s:ByteArray) (k:Nat) (acc:List UInt8):∀ l k',quote s k acc=some (l,k')→∃ l0,l=acc++l0∧k+(dbl l0).length+1=k':=by
 fun_induction quote s k acc with
 | case1 k acc h h1 h2 ih =>
  intro l k' e
  obtain⟨l0,rfl,h0⟩:=ih l k' e
  exact⟨34::l0,by simp,by simp [dbl];omega⟩
 | case2 k acc h h1 h2=>intro l k' e;cases e;exact⟨[],by simp,by simp [dbl]⟩
 | case3 k acc h h1 ih =>
  intro l k' e
  obtain⟨l0,rfl,h0⟩:=ih l k' e
  exact⟨s[k]::l0,by simp,by unfold dbl;rw [if_neg h1];simp;omega⟩
 | case4 k acc h=>intro l k' e;cases e
theorem badAt_len {s:ByteArray} {k n len:Nat} (h:badAt s k=some (n,len)):1≤n∧n≤6∧(badT n).length=len:=by
 unfold badAt at h
 rw [Option.map_eq_some_iff] at h
 obtain⟨p,hp,he⟩:=h
 have hm:=List.mem_of_find?_eq_some hp
 simp [badList] at hm
 cases he
 rcases hm with rfl | rfl | rfl | rfl | rfl | rfl<;>exact⟨by simp,by simp,rfl⟩
theorem opW_len (s:ByteArray) (k:Nat) (h:(opAt s k).1≠0):(opT (opAt s k).1).length=(opAt s k).2:=by
 revert h
 unfold opAt
 repeat' split
 all_goals simp [opT]
theorem commas_snoc (xs:List (List UInt8)) (x:List UInt8) (h:xs≠[]):(commas (xs++[x])).length=(commas xs).length+1+x.length:=by
 cases xs with
 | nil=>exact absurd rfl h
 | cons y ys=>rw [List.cons_append,commas_cons,commas_cons];simp;omega
theorem tok_isW (s:ByteArray) (k:Nat) (hk:k≤s.size):∀ c∈(tok s k).data.toList,isW c.toNat=true:=by
 intro c hc
 have ht:=tok_spec s k
 obtain⟨i,hi,e⟩:=List.getElem_of_mem hc
 unfold tok at e hi
 simp only [ByteArray.data_extract,Array.toList_extract,List.extract,List.getElem_take,List.getElem_drop] at e
 simp only [ByteArray.data_extract,Array.toList_extract,List.extract,List.length_take,List.length_drop] at hi
 have h1:=ht.2.2.2 (k+i) (by omega) (by omega)
 have hl:k+i<s.size:=by have:=ht.2.2.1 hk;omega
 rw [nx_in hl] at h1
 have e2:s[k+i]=c:=by rw [← e];rfl
 rw [← e2];exact h1
structure WL (K:Ink) (ts:List T) (xs:List (List UInt8)) (ds:List Nat):Prop where
 x:xs.length=ts.length
 d:ds.length=ts.length
 h:∀ (i:Nat) t x d,ts[i]?=some t→xs[i]?=some x→ds[i]?=some d→W K t x d
theorem WL.nil {K:Ink}:WL K [] [] []:=⟨rfl,rfl,fun i t x d h=>by simp at h⟩
theorem WL.snoc {K:Ink} {ts:List T} {xs:List (List UInt8)} {ds:List Nat} {t:T} {x:List UInt8} {d:Nat} (h:WL K ts xs ds) (ht:W K t x d):WL K (ts++[t]) (xs++[x]) (ds++[d]):=by
 refine⟨by simp [h.x],by simp [h.d],fun i u y e h1 h2 h3=>?_⟩
 by_cases hi:i<ts.length
 ·rw [List.getElem?_append_left (by omega)] at h1
  rw [List.getElem?_append_left (by rw [h.x];omega)] at h2
  rw [List.getElem?_append_left (by rw [h.d];omega)] at h3
  exact h.h i u y e h1 h2 h3
 ·rw [List.getElem?_append_right (by omega)] at h1
  rw [List.getElem?_append_right (by rw [h.x];omega),h.x] at h2
  rw [List.getElem?_append_right (by rw [h.d];omega),h.d] at h3
  cases hj:i - ts.length with
  | zero=>rw [hj] at h1 h2 h3;simp at h1 h2 h3;subst h1 h2 h3;exact ht
  | succ j=>rw [hj] at h1;simp at h1
theorem foldr_snoc (ds:List Nat) (d:Nat):(ds++[d]).foldr max 0=max (ds.foldr max 0) d:=by
 induction ds with
 | nil=>simp
 | cons a ds ih=>simp only [List.cons_append,List.foldr_cons,ih];omega
section
variable (L:Lex) (K:Ink) (s:ByteArray) (hs2:s.size≤200) (F:Fit L K)
def Pw (f:Nat):Prop :=
 (∀ d k t k',d≤30→k≤s.size→operand L s f d k=.ok t k'→∃ x dp,W K t x dp∧t.kd≠6∧k+(brk 5 t x).length≤k'∧d+brd 5 t dp≤30) ∧
 (∀ l d k t k',d≤30→1≤l→k≤s.size→expr L s f l d k=.ok t k'→∃ x dp,W K t x dp∧t.kd≠6∧k+(brk l t x).length≤k'∧d+brd l t dp≤30) ∧
 (∀ l d t k t' k' m x dp,d≤30→1≤l→k≤s.size→lev (opAt s (skip s k)).1<l+1→W K t x dp→t.kd≠6→m+(brk l t x).length≤k→d+brd l t dp≤30→rest L s f l d t k=.ok t' k'→∃ x dp,W K t' x dp∧t'.kd≠6∧m+(brk l t' x).length≤k'∧d+brd l t' dp≤30) ∧
 (∀ d k t k',d≤30→k≤s.size→args L s f d k=.ok t k'→∃ xs ds,WL K t xs ds∧k+(commas xs).length+1≤k'∧d+ds.foldr max 0≤30) ∧
 (∀ d a k t k' m xs ds,d≤30→k≤s.size→WL K a xs ds→xs≠[]→m+(commas xs).length≤k→d+ds.foldr max 0≤30→more L s f d a k=.ok t k'→∃ xs ds,WL K t xs ds∧m+(commas xs).length+1≤k'∧d+ds.foldr max 0≤30) ∧
 (∀ d k t k',d≤30→k≤s.size→arg L s f d k=.ok t k'→∃ x dp,W K t x dp∧k+x.length≤k'∧d+dp≤30)
include hs2 F
theorem short:∀ f,Pw L K s f:=by
 intro f
 induction f with
 | zero=>refine⟨?_,?_,?_,?_,?_,?_⟩<;>intros<;>simp_all [operand,expr,rest,args,more,arg]
 | succ f ih =>
  obtain⟨i1,i2,i3,i4,i5,i6⟩:=ih
  obtain⟨p1,p2,p3,p4,p5,p6⟩:=prog L s f
  refine⟨?_,?_,?_,?_,?_,?_⟩
  ·intro d k0 t k' hd hk h
   have hs:=skip_spec s k0
   have hk1:=hs.2.2 hk
   have ht:=tok_spec s (skip s k0)
   rw [operand] at h
   split at h
   ·next c =>
    have hlt:=nx_lt (s:=s) (k:=skip s k0) (by omega)
    split at h
    ·cases h
    ·obtain⟨a,k1,h1,h2⟩:=Rs.bind_ok h
     obtain⟨x,dp,hw,h6,hl,hdd⟩:=i1 _ _ _ _ (by omega) (by omega) h1
     cases h2
     refine⟨_,_,.neg h6 hw,by simp [tNeg,T.kd],?_,?_⟩
     ·rw [brk_not (by simp [tNeg,T.kd])];simp;omega
     ·rw [brd_not (by simp [tNeg,T.kd])];omega
   split at h
   ·next c =>
    have hlt:=nx_lt (s:=s) (k:=skip s k0) (by omega)
    split at h
    ·cases h
    ·obtain⟨a,k1,h1,h2⟩:=Rs.bind_ok h
     obtain⟨x,dp,hw,h6,hl,hdd⟩:=i2 _ _ _ _ _ (by omega) (Nat.le_refl _) (by omega) h1
     have e1:=p2 _ _ _ _ _ (Nat.le_refl _) (by omega) h1
     have hs1:=skip_spec s k1
     split at h2
     ·cases h2
      have b1:=brk_len 1 t x
      have b2:=brk_len 5 t x
      have b3:=brd_le 1 t dp
      have b4:=brd_le 5 t dp
      exact⟨x,dp,hw,h6,by omega,by omega⟩
     ·cases h2
   split at h
   ·next c =>
    have hlt:=nx_lt (s:=s) (k:=skip s k0) (by omega)
    split at h
    ·cases h
    ·next l k1 hq =>
     cases h
     obtain⟨l0,e0,e1⟩:=quoteW_len s _ _ _ _ hq
     simp at e0;subst e0
     have hq2:=quote_spec s _ _ _ _ hq
     have hdl:=dbl_len l
     have hsz:(⟨l.toArray⟩:ByteArray).size=l.length:=by show l.toArray.size=_;simp
     refine⟨_,_,.text (by omega),by exact (by decide:(2:Int)≠6),?_,?_⟩
     ·rw [brk_not (by exact (by decide:(2:Int)≠8))];simp;omega
     ·rw [brd_not (by exact (by decide:(2:Int)≠8))];omega
   split at h
   ·split at h
    ·cases h
    ·next n len hb =>
     cases h
     have hb2:=badAt_len hb
     refine⟨_,_,.bad hb2.1 hb2.2.1,by exact (by decide:(4:Int)≠6),?_,?_⟩
     ·rw [brk_not (by exact (by decide:(4:Int)≠8))];omega
     ·rw [brd_not (by exact (by decide:(4:Int)≠8))];omega
   split at h
   ·next c =>
    have hlt:=nx_lt (s:=s) (k:=tokEnd s (skip s k0)) (by omega)
    split at h
    ·cases h
    ·obtain⟨a,k1,h1,h2⟩:=Rs.bind_ok h
     obtain⟨xs,ds,hw,hl,hdd⟩:=i4 _ _ _ _ (by omega) (by omega) h1
     cases h2
     refine⟨_,_,.call c.1 hw.x hw.d hw.h,by exact (by decide:(9:Int)≠6),?_,?_⟩
     ·rw [brk_not (by exact (by decide:(9:Int)≠8))]
      have hsz:(tok s (skip s k0)).data.toList.length=tokEnd s (skip s k0) - skip s k0:=by
       have h3:=ht.2.2.1 hk1
       have:(tok s (skip s k0)).size=min (tokEnd s (skip s k0)) s.size - skip s k0:=by unfold tok;rw [ByteArray.size_extract]
       have e:(tok s (skip s k0)).size=(tok s (skip s k0)).data.toList.length:=by simp
       omega
      simp only [List.length_append,List.length_cons,List.length_nil]
      have h1:=ht.1
      omega
     ·rw [brd_not (by exact (by decide:(9:Int)≠8))];omega
   ·split at h
    ·cases h
    ·next t1 hm =>
     cases h
     have hsz:(tok s (skip s k0)).size=min (tokEnd s (skip s k0)) s.size - skip s k0:=by unfold tok;rw [ByteArray.size_extract]
     obtain⟨h6,h8,x,hw,hl⟩:=F.back _ _ (tok_isW s _ hk1) (by omega) hm
     have h3:=ht.2.2.1 hk1
     have h1:=ht.1
     exact⟨x,0,hw,h6,by rw [brk_not h8];omega,by rw [brd_not h8];omega⟩
  ·intro l d k t k' hd hl hk h
   rw [expr] at h
   split at h
   ·next c =>
    obtain⟨x,dp,hw,h6,hl2,hdd⟩:=i1 _ _ _ _ hd hk h
    have hv:∀ y,brk l t y=brk 5 t y:=fun y=>by
     unfold brk loose
     have e:decide (lev t.nm.toNat<l)=decide (lev t.nm.toNat<5):=by
      have:=lev_le t.nm.toNat
      rw [decide_eq_true (by omega),decide_eq_true (by omega)]
     rw [e]
    have hv2:∀ y,brd l t y=brd 5 t y:=fun y=>by
     unfold brd loose
     have e:decide (lev t.nm.toNat<l)=decide (lev t.nm.toNat<5):=by
      have:=lev_le t.nm.toNat
      rw [decide_eq_true (by omega),decide_eq_true (by omega)]
     rw [e]
    exact⟨x,dp,hw,h6,by rw [hv];exact hl2,by rw [hv2];exact hdd⟩
   ·obtain⟨a,k1,h1,h2⟩:=Rs.bind_ok h
    have e1:=p2 _ _ _ _ _ (by omega) hk h1
    obtain⟨x,dp,hw,h6,hl2,hdd⟩:=i2 _ _ _ _ _ hd (by omega) hk h1
    have u1:=brk_up (Nat.le_add_right l 1) a x
    have u2:=brd_up (Nat.le_add_right l 1) a dp
    exact i3 _ _ _ _ _ _ k x dp hd hl e1.2.1 e1.2.2 hw h6 (by omega) (by omega) h2
  ·intro l d t k t' k' m x dp hd hl hk hv hw h6 hm hdd h
   have hs:=skip_spec s k
   have hk1:=hs.2.2 hk
   rw [rest] at h
   split at h
   ·next c =>
    obtain⟨a,k1,h1,h2⟩:=Rs.bind_ok h
    have ho:=opAt_spec s (skip s k)
    have h0:(opAt s (skip s k)).1≠0:=by
     intro e
     rw [e] at c
     simp [lev] at c
     omega
    have hol:=opW_len s (skip s k) h0
    have hb2:skip s k+(opAt s (skip s k)).2≤s.size:=by omega
    have e1:=p2 _ _ _ _ _ (by omega) hb2 h1
    obtain⟨y,e,hy,hy6,hyl,hyd⟩:=i2 _ _ _ _ _ hd (by omega) hb2 h1
    have hnl:loose l (tTwo (opAt s (skip s k)).1 t a)=false:=by
     have e:¬ lev (tTwo (opAt s (skip s k)).1 t a).nm.toNat<l:=by show ¬ lev (((opAt s (skip s k)).1:Int)).toNat<l;rw [Int.toNat_natCast,c];omega
     unfold loose
     rw [decide_eq_false e,Bool.and_false]
    have W2:=W.two (K:=K) (op:=(opAt s (skip s k)).1) (by omega) (by omega) h6 hy6 hw hy
    rw [c] at W2
    refine i3 _ _ _ _ _ _ m _ _ hd hl e1.2.1 e1.2.2 W2 (by exact (by decide:(8:Int)≠6)) ?_ ?_ h2
    ·have:∀ X,brk l (.nd 8 ((opAt s (skip s k)).1:Int) nul .z .z [t,a]) X=X:=fun X=>by
      unfold brk
      rw [show loose l (.nd 8 ((opAt s (skip s k)).1:Int) nul .z .z [t,a])=false from hnl];rfl
     rw [this];simp only [List.length_append];omega
    ·have:brd l (.nd 8 ((opAt s (skip s k)).1:Int) nul .z .z [t,a]) (max (brd l t dp) (brd (l+1) a e))=max (brd l t dp) (brd (l+1) a e):=by
      conv=>lhs;unfold brd
      rw [show loose l (.nd 8 ((opAt s (skip s k)).1:Int) nul .z .z [t,a])=false from hnl];rfl
     rw [this];omega
   ·cases h;exact⟨x,dp,hw,h6,by omega,hdd⟩
  ·intro d k0 t k' hd hk h
   have hs:=skip_spec s k0
   have hk1:=hs.2.2 hk
   rw [args] at h
   split at h
   ·cases h;exact⟨[],[],.nil,by simp [commas];omega,by simp;omega⟩
   ·obtain⟨a,k1,h1,h2⟩:=Rs.bind_ok h
    have e1:=p6 _ _ _ _ hk1 h1
    obtain⟨x,dp,hw,hl,hdd⟩:=i6 _ _ _ _ hd hk1 h1
    exact i5 _ _ _ _ _ k0 [x] [dp] hd e1.2 (WL.nil.snoc hw) (by simp) (by simp [commas];omega) (by simp;omega) h2
  ·intro d a k0 t k' m xs ds hd hk hw hne hm hdd h
   have hs:=skip_spec s k0
   have hk1:=hs.2.2 hk
   rw [more] at h
   split at h
   ·next c =>
    have hlt:=nx_lt (s:=s) (k:=skip s k0) (by omega)
    obtain⟨a1,k1,h1,h2⟩:=Rs.bind_ok h
    have e1:=p6 _ _ _ _ (by omega) h1
    obtain⟨x,dp,hx,hl,hd2⟩:=i6 _ _ _ _ hd (by omega) h1
    exact i5 _ _ _ _ _ m (xs++[x]) (ds++[dp]) hd e1.2 (hw.snoc hx) (by simp) (by rw [commas_snoc xs x hne];omega) (by rw [foldr_snoc];omega) h2
   ·split at h
    ·cases h;exact⟨xs,ds,hw,by omega,hdd⟩
    ·cases h
  ·intro d k0 t k' hd hk h
   have hs:=skip_spec s k0
   have hk1:=hs.2.2 hk
   have ht:=tok_spec s (skip s k0)
   have hx:expr L s f 1 d (skip s k0)=.ok t k'→∃ x dp,W K t x dp∧k0+x.length≤k'∧d+dp≤30:=fun h=>by
    obtain⟨x,dp,hw,h6,hl,hdd⟩:=i2 _ _ _ _ _ hd (Nat.le_refl _) hk1 h
    have b1:=brk_len 1 t x
    have b3:=brd_le 1 t dp
    exact⟨x,dp,hw,by omega,by omega⟩
   rw [arg] at h
   split at h
   ·exact hx h
   ·next r1 hr1 =>
    split at h
    ·next c =>
     have hlt:=nx_lt (s:=s) (k:=tokEnd s (skip s k0)) (by omega)
     split at h
     ·cases h
     ·next r2 hr2 =>
      cases h
      have a1:=F.rback _ _ hr1
      have a2:=F.rback _ _ hr2
      have ht2:=tok_spec s (tokEnd s (skip s k0)+1)
      have s1:(tok s (skip s k0)).size=min (tokEnd s (skip s k0)) s.size - skip s k0:=by unfold tok;rw [ByteArray.size_extract]
      have s2:(tok s (tokEnd s (skip s k0)+1)).size=min (tokEnd s (tokEnd s (skip s k0)+1)) s.size - (tokEnd s (skip s k0)+1):=by unfold tok;rw [ByteArray.size_extract]
      have h3:=ht.2.2.1 hk1
      have h4:=ht2.2.2.1 (by omega)
      have h1:=ht.1
      have h5:=ht2.1
      refine⟨_,_,.box a1.1 a2.1,?_,by omega⟩
      simp only [List.length_append,List.length_cons]
      omega
    ·exact hx h
theorem parse_short {t:T} {k:Nat} (h:parse L s=.ok t k):∃ x dp,W K t x dp∧t.kd≠6∧x.length+1≤s.size∧dp≤30:=by
 unfold parse at h
 split at h
 ·cases h
 ·split at h
  ·cases h
  ·next c2 =>
   have hlt:=nx_lt (s:=s) (k:=0) (by omega)
   obtain⟨a,k1,h1,h2⟩:=Rs.bind_ok h
   obtain⟨x,dp,hw,h6,hl,hdd⟩:=(short L K s hs2 F _).2.1 _ _ _ _ _ (by omega) (Nat.le_refl _) (by omega) h1
   have e1:=Expr_prog L s (by omega) (by omega) h1
   have b1:=brk_len 1 a x
   have b3:=brd_le 1 a dp
   split at h2
   ·cases h2
   ·cases h2
    exact⟨x,dp,hw,h6,by omega,by omega⟩
end
mutual
def T.cnt:T→Nat
 | .nd _ _ _ _ _ ts=>cntL ts+1
def cntL:List T→Nat
 | []=>0
 | t::ts=>t.cnt+cntL ts
end
theorem cnt_eq (k n:Int) (s:ByteArray) (r t:Rf) (ts:List T):(T.nd k n s r t ts).cnt=cntL ts+1:=by rw [T.cnt]
theorem cnt_pos (t:T):1≤t.cnt:=by cases t;rw [cnt_eq];omega
theorem cntL_app (a b:List T):cntL (a++b)=cntL a+cntL b:=by
 induction a with
 | nil=>simp [cntL]
 | cons t a ih=>simp only [List.cons_append,cntL,ih];omega
theorem cntL_le (ts:List T):∀ (xs:List (List UInt8)),xs.length=ts.length→(∀ (i:Nat) t x,ts[i]?=some t→xs[i]?=some x→t.cnt≤x.length)→cntL ts≤(commas xs).length:=by
 induction ts with
 | nil=>intro xs _ _;simp [cntL]
 | cons t ts ih =>
  intro xs hl h
  cases xs with
  | nil=>simp at hl
  | cons x xs =>
   have h0:=h 0 t x (by simp) (by simp)
   have h1:=ih xs (by simpa using hl) (fun i t x h1 h2=>h (i+1) t x (by simpa using h1) (by simpa using h2))
   have h2:(commas xs).length≤(xs.flatMap (fun y=>44::y)).length:=by
    cases xs with
    | nil=>simp [commas]
    | cons y ys=>rw [commas_cons];simp
   rw [commas_cons]
   simp only [cntL,List.length_append]
   omega
theorem opT_pos {op:Nat} (h1:1≤op) (h11:op≤11):1≤(opT op).length:=by
 have hc:op=1∨op=2∨op=3∨op=4∨op=5∨op=6∨op=7∨op=8∨op=9∨op=10∨op=11:=by omega
 rcases hc with rfl | rfl | rfl | rfl | rfl | rfl | rfl | rfl | rfl | rfl | rfl<;>simp [opT]
theorem cnt_le {L:Lex} {K:Ink} (F:Fit L K) {t:T} {x:List UInt8} {dp:Nat} (h:W K t x dp):t.cnt≤x.length:=by
 have hd:∀ {t x dp},W K t x dp→1≤x.length:=fun h=>by
  obtain⟨c,r,rfl,_⟩:=(read_back L F h).1
  simp
 induction h with
 | num h0 h1=>have:=hd (W.num (K:=K) h0 h1);simp only [T.cnt,cntL];omega
 | text h=>have:=hd (W.text (K:=K) h);simp only [T.cnt,cntL];omega
 | truth h=>have:=hd (W.truth (K:=K) h);simp only [T.cnt,cntL];omega
 | bad h h6=>have:=hd (W.bad (K:=K) h h6);simp only [T.cnt,cntL];omega
 | ref h=>have:=hd (W.ref (K:=K) h);simp only [T.cnt,cntL];omega
 | box h h2=>have:=hd (W.box (K:=K) h h2);simp only [T.cnt,cntL];omega
 | @neg a x d ha h ih=>have:=brk_len 5 a x;simp only [T.cnt,cntL,List.length_cons];omega
 | @two op a b x y d e h1 h11 ha hb hx hy ihx ihy =>
  have:=brk_len (lev op) a x
  have:=brk_len (lev op+1) b y
  have:=opT_pos h1 h11
  simp only [T.cnt,cntL,List.length_append];omega
 | @call name ts xs ds hn hx hdl h ih =>
  have:=cntL_le ts xs hx (fun i t x h1 h2=>by
   have hi:i<ds.length:=by rw [hdl];exact (List.getElem?_eq_some_iff.1 h1).1
   exact ih i t x _ h1 h2 (List.getElem?_eq_getElem hi))
  rw [cnt_eq]
  simp only [List.length_append,List.length_cons,List.length_nil];omega
end Go.Proofs.YtgifkepklnhddaaGreatDoor.fm
namespace Go.Proofs.YtgifkepklnhddaaGreatDoor.fm
structure Chg where
 ref:Rf→Option Rf
 box:Rf→Rf→Option (Rf×Rf)
abbrev badN:T:=.nd 4 3 nul .z .z []
def chgN (C:Chg) (k n:Int) (s:ByteArray) (r t:Rf) (ts:List T):T :=
 if k=5 then match C.ref r with
  | none=>badN
  | some r'=>.nd k n s r' t ts
 else if k=6 then match C.box r t with
  | none=>badN
  | some x=>.nd k n s x.1 x.2 ts
 else .nd k n s r t ts
mutual
def chg (C:Chg):T→T
 | .nd k n s r t ts=>chgN C k n s r t (chgL C ts)
def chgL (C:Chg):List T→List T
 | []=>[]
 | t::ts=>chg C t::chgL C ts
end
mutual
def T.bads:T→Nat
 | .nd k n _ _ _ ts=>(if k=4∧n=3 then 1 else 0)+badsL ts
def badsL:List T→Nat
 | []=>0
 | t::ts=>t.bads+badsL ts
end
theorem chg_eq (C:Chg) (k n:Int) (s:ByteArray) (r t:Rf) (ts:List T):chg C (.nd k n s r t ts)=chgN C k n s r t (chgL C ts):=by rw [chg]
theorem chgL_map (C:Chg) (ts:List T):chgL C ts=ts.map (chg C):=by
 induction ts with
 | nil=>simp [chgL]
 | cons t ts ih=>simp [chgL,ih]
inductive Gd (K:Ink):T→Prop
 | mk {k n:Int} {s:ByteArray} {r t:Rf} {ts:List T} (h5:k=5→ts=[]∧K.okR r) (h6:k=6→ts=[]∧K.okR r∧K.okR t) (hs:∀ u∈ts,Gd K u):Gd K (.nd k n s r t ts)
theorem gd_of {K:Ink} {t:T} {x:List UInt8} {d:Nat} (h:W K t x d):Gd K t:=by
 induction h with
 | num h0 h1=>exact .mk (fun e=>by cases e) (fun e=>by cases e) (fun u h=>by cases h)
 | text h=>exact .mk (fun e=>by cases e) (fun e=>by cases e) (fun u h=>by cases h)
 | truth h=>exact .mk (fun e=>by cases e) (fun e=>by cases e) (fun u h=>by cases h)
 | bad h h6=>exact .mk (fun e=>by cases e) (fun e=>by cases e) (fun u h=>by cases h)
 | ref h=>exact .mk (fun _=>⟨rfl,h⟩) (fun e=>by cases e) (fun u h=>by cases h)
 | box h h2=>exact .mk (fun e=>by cases e) (fun _=>⟨rfl,h,h2⟩) (fun u h=>by cases h)
 | neg ha h ih=>exact .mk (fun e=>by cases e) (fun e=>by cases e) (fun u hu=>by rw [List.mem_singleton] at hu;rw [hu];exact ih)
 | two h1 h11 ha hb hx hy ihx ihy=>exact .mk (fun e=>by cases e) (fun e=>by cases e) (fun u hu=>by
   rcases List.mem_cons.1 hu with rfl | hu
   ·exact ihx
   ·rw [List.mem_singleton] at hu;rw [hu];exact ihy)
 | @call name ts xs ds hn hx hd h ih=>exact .mk (fun e=>by cases e) (fun e=>by cases e) (fun u hu=>by
   obtain⟨i,hi,rfl⟩:=List.getElem_of_mem hu
   exact ih i _ _ _ (List.getElem?_eq_getElem hi) (List.getElem?_eq_getElem (by omega)) (List.getElem?_eq_getElem (by omega)))
theorem chgL_len (C:Chg) (ts:List T):(chgL C ts).length=ts.length:=by rw [chgL_map];simp
theorem chgL_at (C:Chg) (ts:List T) (i:Nat):(chgL C ts)[i]?=(ts[i]?).map (chg C):=by rw [chgL_map];simp
end Go.Proofs.YtgifkepklnhddaaGreatDoor.fm

import Derived.Below
namespace Go.Proofs.YtgifkepklnhddaaGreatDoor.fm
structure Rf where
 c:Int
 r:Int
 fc:Bool
 fr:Bool
deriving DecidableEq
abbrev Rf.z:Rf:=⟨0,0,false,false⟩
inductive T where
 | nd (k n:Int) (s:ByteArray) (r t:Rf) (kids:List T)
inductive Rs (α:Type) where
 | ok (a:α) (k:Nat)
 | err (k:Nat) (e:Int)
def Rs.bind {α β:Type} (r:Rs α) (f:α→Nat→Rs β):Rs β :=
 match r with
 | .ok a k=>f a k
 | .err k e=>.err k e
abbrev nul:ByteArray:=⟨#[]⟩
def tNeg (t:T):T:=.nd 7 0 nul .z .z [t]
def tTwo (op:Nat) (a b:T):T:=.nd 8 op nul .z .z [a,b]
def tCall (name:ByteArray) (kids:List T):T:=.nd 9 0 name .z .z kids
def tText (s:ByteArray):T:=.nd 2 0 s .z .z []
def tBad (n:Int):T:=.nd 4 n nul .z .z []
def tRef (r:Rf):T:=.nd 5 0 nul r .z []
def tBox (r t:Rf):T:=.nd 6 0 nul r t []
def nx (s:ByteArray) (k:Nat):Nat:=if h:k<s.size then s[k].toNat else 0
theorem nx_lt {s:ByteArray} {k:Nat} (h:nx s k≠0):k<s.size:=by
 unfold nx at h
 split at h
 ·assumption
 ·exact absurd rfl h
theorem nx_in {s:ByteArray} {k:Nat} (h:k<s.size):nx s k=s[k].toNat:=by unfold nx;rw [dif_pos h]
theorem nx_out {s:ByteArray} {k:Nat} (h:¬ k<s.size):nx s k=0:=by unfold nx;rw [dif_neg h]
def skip (s:ByteArray) (k:Nat):Nat:=if nx s k=32 then skip s (k+1) else k
termination_by s.size - k
decreasing_by have:=nx_lt (s:=s) (k:=k) (by omega);omega
theorem skip_blank {s:ByteArray} {k:Nat} (h:nx s k=32):skip s k=skip s (k+1):=by rw [skip,if_pos h]
theorem skip_else {s:ByteArray} {k:Nat} (h:nx s k≠32):skip s k=k:=by rw [skip,if_neg h]
theorem skip_spec (s:ByteArray) (k:Nat):k≤skip s k∧nx s (skip s k)≠32∧(k≤s.size→skip s k≤s.size):=by
 fun_induction skip s k with
 | case1 k h ih=>exact⟨by omega,ih.2.1,fun _=>ih.2.2 (nx_lt (by omega))⟩
 | case2 k h=>exact⟨Nat.le_refl _,h,id⟩
theorem skip_skip (s:ByteArray) (k:Nat):skip s (skip s k)=skip s k:=skip_else (skip_spec s k).2.1
def isW (c:Nat):Bool:=c == 36 || (decide (48≤c) && decide (c≤57)) || (decide (65≤c) && decide (c≤90)) || (decide (97≤c) && decide (c≤122))
theorem isW_pos {c:Nat} (h:isW c=true):c≠0:=by rintro rfl;simp [isW] at h
def tokEnd (s:ByteArray) (k:Nat):Nat:=if isW (nx s k)=true then tokEnd s (k+1) else k
termination_by s.size - k
decreasing_by have:=nx_lt (s:=s) (k:=k) (isW_pos (by assumption));omega
theorem tok_in {s:ByteArray} {k:Nat} (h:isW (nx s k)=true):tokEnd s k=tokEnd s (k+1):=by rw [tokEnd,if_pos h]
theorem tok_out {s:ByteArray} {k:Nat} (h:isW (nx s k)=false):tokEnd s k=k:=by rw [tokEnd,if_neg (by simp [h])]
theorem tok_spec (s:ByteArray) (k:Nat):k≤tokEnd s k∧isW (nx s (tokEnd s k))=false∧(k≤s.size→tokEnd s k≤s.size)∧∀ i,k≤i→i<tokEnd s k→isW (nx s i)=true:=by
 fun_induction tokEnd s k with
 | case1 k h ih=>exact⟨by omega,ih.2.1,fun _=>ih.2.2.1 (nx_lt (isW_pos h)),fun i h1 h2=>by
   by_cases e:i=k
   ·subst e;exact h
   ·exact ih.2.2.2 i (by omega) h2⟩
 | case2 k h=>exact⟨Nat.le_refl _,by simpa using h,id,fun i h1 h2=>by omega⟩
def tok (s:ByteArray) (k:Nat):ByteArray:=s.extract k (tokEnd s k)
def quote (s:ByteArray) (k:Nat) (acc:List UInt8):Option (List UInt8×Nat) :=
 if h:k<s.size then
  if s[k]=34 then
   if nx s (k+1)=34 then quote s (k+2) (acc++[34]) else some (acc,k+1)
  else quote s (k+1) (acc++[s[k]])
 else none
termination_by s.size - k
theorem quote_spec (s:ByteArray) (k:Nat) (acc:List UInt8):∀ l k',quote s k acc=some (l,k')→k<k'∧k'≤s.size:=by
 fun_induction quote s k acc with
 | case1 k acc h h1 h2 ih=>intro l k' e;have:=ih l k' e;omega
 | case2 k acc h h1 h2=>intro l k' e;cases e;omega
 | case3 k acc h h1 ih=>intro l k' e;have:=ih l k' e;omega
 | case4 k acc h=>intro l k' e;cases e
def opAt (s:ByteArray) (k:Nat):Nat×Nat :=
 if nx s k=61 then (1,1)
 else if nx s k=60 then (if nx s (k+1)=62 then (2,2) else if nx s (k+1)=61 then (4,2) else (3,1))
 else if nx s k=62 then (if nx s (k+1)=61 then (6,2) else (5,1))
 else if nx s k=38 then (7,1)
 else if nx s k=43 then (8,1)
 else if nx s k=45 then (9,1)
 else if nx s k=42 then (10,1)
 else if nx s k=47 then (11,1)
 else (0,0)
def lev (op:Nat):Nat:=if op=0 then 0 else if op≤6 then 1 else if op=7 then 2 else if op≤9 then 3 else 4
theorem opAt_spec (s:ByteArray) (k:Nat):((opAt s k).1=0∧(opAt s k).2=0)∨(1≤(opAt s k).1∧(opAt s k).1≤11∧1≤(opAt s k).2∧k+(opAt s k).2≤s.size):=by
 have e0:nx s k≠0→k<s.size:=nx_lt
 have e1:nx s (k+1)≠0→k+1<s.size:=nx_lt
 unfold opAt
 repeat' split
 all_goals first | (left;exact⟨rfl,rfl⟩) | (right;refine⟨by simp,by simp,by simp,?_⟩;simp only;omega)
theorem lev_le (op:Nat):lev op≤4:=by unfold lev;(repeat' split);all_goals omega
theorem lev_pos {op:Nat} (h:op≠0):1≤lev op:=by unfold lev;(repeat' split);all_goals omega
def pre (s:ByteArray) (k:Nat) (l:List UInt8):Bool:=l.isPrefixOf (s.data.toList.drop k)
def badList:List (Nat×List UInt8):=[(1,[35,68,73,86,33]),(2,[35,86,65,76,85,69,33]),(3,[35,82,69,70,33]),(4,[35,78,65,77,69,33]),(5,[35,78,85,77,33]),(6,[35,78,79,78,69,33])]
def badAt (s:ByteArray) (k:Nat):Option (Nat×Nat):=(badList.find? (fun p=>pre s k p.2)).map (fun p=>(p.1,p.2.length))
theorem pre_le {s:ByteArray} {k:Nat} {l:List UInt8} (h:pre s k l=true) (hl:l≠[]):k+l.length≤s.size:=by
 unfold pre at h
 have h1:=List.isPrefixOf_iff_prefix.1 h
 have h2:=h1.length_le
 have:0<l.length:=List.length_pos_iff.2 hl
 simp at h2
 omega
theorem badAt_spec {s:ByteArray} {k n len:Nat} (h:badAt s k=some (n,len)):1≤n∧n≤6∧5≤len∧k+len≤s.size:=by
 unfold badAt at h
 rw [Option.map_eq_some_iff] at h
 obtain⟨p,hp,he⟩:=h
 have hm:=List.mem_of_find?_eq_some hp
 have hq:=List.find?_some hp
 simp [badList] at hm
 cases he
 rcases hm with rfl | rfl | rfl | rfl | rfl | rfl<;>exact⟨by simp,by simp,by simp,pre_le hq (by simp)⟩
def isNm (t:ByteArray):Bool:=decide (2≤t.size) && decide (t.size≤10) && t.data.toList.all (fun c=>decide (65≤c.toNat) && decide (c.toNat≤90))
structure Lex where
 ref:ByteArray→Option Rf
 mean:ByteArray→Option T
 empty:mean ⟨#[]⟩=none
 noref:ref ⟨#[]⟩=none
variable (L:Lex) (s:ByteArray)
mutual
def operand:Nat→Nat→Nat→Rs T
 | 0,_,k=>.err k 0
 | f+1,d,k0 =>
  let k:=skip s k0
  if nx s k=45 then (if d=30 then .err k 4 else (operand f (d+1) (k+1)).bind fun t k'=>.ok (tNeg t) k')
  else if nx s k=40 then (if d=30 then .err k 4 else (expr f 1 (d+1) (k+1)).bind fun t k1=>if nx s (skip s k1)=41 then .ok t (skip s k1+1) else .err (skip s k1) 2)
  else if nx s k=34 then (match quote s (k+1) [] with | none=>.err k 2 | some (l,k')=>.ok (tText ⟨l.toArray⟩) k')
  else if nx s k=35 then (match badAt s k with | none=>.err k 2 | some (n,len)=>.ok (tBad n) (k+len))
  else if isNm (tok s k)=true∧nx s (tokEnd s k)=40 then (if d=30 then .err k 4 else (args f (d+1) (tokEnd s k+1)).bind fun l k'=>.ok (tCall (tok s k) l) k')
  else (match L.mean (tok s k) with | none=>.err k 2 | some t=>.ok t (tokEnd s k))
def expr:Nat→Nat→Nat→Nat→Rs T
 | 0,_,_,k=>.err k 0
 | f+1,l,d,k=>if 4<l then operand f d k else (expr f (l+1) d k).bind fun t k'=>rest f l d t k'
def rest:Nat→Nat→Nat→T→Nat→Rs T
 | 0,_,_,_,k=>.err k 0
 | f+1,l,d,t,k0 =>
  let k:=skip s k0
  if lev (opAt s k).1=l then (expr f (l+1) d (k+(opAt s k).2)).bind fun u k'=>rest f l d (tTwo (opAt s k).1 t u) k' else .ok t k
def args:Nat→Nat→Nat→Rs (List T)
 | 0,_,k=>.err k 0
 | f+1,d,k0 =>
  let k:=skip s k0
  if nx s k=41 then .ok [] (k+1) else (arg f d k).bind fun t k'=>more f d [t] k'
def more:Nat→Nat→List T→Nat→Rs (List T)
 | 0,_,_,k=>.err k 0
 | f+1,d,acc,k0 =>
  let k:=skip s k0
  if nx s k=44 then (arg f d (k+1)).bind fun t k'=>more f d (acc++[t]) k' else if nx s k=41 then .ok acc (k+1) else .err k 2
def arg:Nat→Nat→Nat→Rs T
 | 0,_,k=>.err k 0
 | f+1,d,k0 =>
  let k:=skip s k0
  match L.ref (tok s k) with
  | none=>expr f 1 d k
  | some r=>if nx s (tokEnd s k)=58 then (match L.ref (tok s (tokEnd s k+1)) with | none=>.err (tokEnd s k+1) 2 | some r2=>.ok (tBox r r2) (tokEnd s (tokEnd s k+1))) else expr f 1 d k
end
end Go.Proofs.YtgifkepklnhddaaGreatDoor.fm
namespace Go.Proofs.YtgifkepklnhddaaGreatDoor.fm
theorem Rs.bind_ok {α β:Type} {r:Rs α} {f:α→Nat→Rs β} {b:β} {k:Nat} (h:r.bind f=.ok b k):∃ a k1,r=.ok a k1∧f a k1=.ok b k:=by
 cases r with
 | ok a k1=>exact⟨a,k1,rfl,h⟩
 | err k1 e=>cases h
theorem Rs.bind_congr {α β:Type} {r r':Rs α} {f g:α→Nat→Rs β} (h:r=r') (h2:∀ a k,r=.ok a k→f a k=g a k):r.bind f=r'.bind g:=by
 subst h
 cases r with
 | ok a k=>exact h2 a k rfl
 | err k e=>rfl
section
variable (L:Lex) (s:ByteArray)
theorem tok_empty {k:Nat} (h:tokEnd s k=k):tok s k=⟨#[]⟩:=by
 unfold tok;rw [h]
 apply ByteArray.ext
 simp
theorem mean_lt {k:Nat} {t:T} (h:L.mean (tok s k)=some t):k<tokEnd s k:=by
 rcases Nat.lt_or_ge k (tokEnd s k) with h1 | h1
 ·exact h1
 ·have:=(tok_spec s k).1
  rw [tok_empty s (by omega),L.empty] at h;cases h
theorem ref_lt {k:Nat} {t:Rf} (h:L.ref (tok s k)=some t):k<tokEnd s k:=by
 rcases Nat.lt_or_ge k (tokEnd s k) with h1 | h1
 ·exact h1
 ·have:=(tok_spec s k).1
  rw [tok_empty s (by omega),L.noref] at h;cases h
def Pr (f:Nat):Prop :=
 (∀ d k t k',k≤s.size→operand L s f d k=.ok t k'→k<k'∧k'≤s.size) ∧
 (∀ l d k t k',1≤l→k≤s.size→expr L s f l d k=.ok t k'→k<k'∧k'≤s.size∧lev (opAt s (skip s k')).1<l) ∧
 (∀ l d t k t' k',1≤l→k≤s.size→lev (opAt s (skip s k)).1<l+1→rest L s f l d t k=.ok t' k'→k≤k'∧k'≤s.size∧lev (opAt s (skip s k')).1<l) ∧
 (∀ d k t k',k≤s.size→args L s f d k=.ok t k'→k<k'∧k'≤s.size) ∧
 (∀ d a k t k',k≤s.size→more L s f d a k=.ok t k'→k<k'∧k'≤s.size) ∧
 (∀ d k t k',k≤s.size→arg L s f d k=.ok t k'→k<k'∧k'≤s.size)
theorem prog:∀ f,Pr L s f:=by
 intro f
 induction f with
 | zero=>refine⟨?_,?_,?_,?_,?_,?_⟩<;>intros<;>simp_all [operand,expr,rest,args,more,arg]
 | succ f ih =>
  obtain⟨i1,i2,i3,i4,i5,i6⟩:=ih
  refine⟨?_,?_,?_,?_,?_,?_⟩
  ·intro d k0 t k' hk h
   have hs:=skip_spec s k0
   have hk1:=hs.2.2 hk
   have ht:=tok_spec s (skip s k0)
   rw [operand] at h
   split at h
   ·next c =>
    have hlt:=nx_lt (s:=s) (k:=skip s k0) (by omega)
    split at h
    ·cases h
    ·obtain⟨a,k1,h1,h2⟩:=Rs.bind_ok h
     have:=i1 _ _ _ _ (by omega) h1
     cases h2;omega
   split at h
   ·next c =>
    have hlt:=nx_lt (s:=s) (k:=skip s k0) (by omega)
    split at h
    ·cases h
    ·obtain⟨a,k1,h1,h2⟩:=Rs.bind_ok h
     have:=i2 _ _ _ _ _ (Nat.le_refl _) (by omega) h1
     split at h2
     ·next c2 =>
      have hl2:=nx_lt (s:=s) (k:=skip s k1) (by omega)
      have:=(skip_spec s k1).1
      cases h2;omega
     ·cases h2
   split at h
   ·split at h
    ·cases h
    ·next l k2 hq =>
     have:=quote_spec s _ _ _ _ hq
     cases h;omega
   split at h
   ·split at h
    ·cases h
    ·next n len hq =>
     have:=badAt_spec hq
     cases h;omega
   split at h
   ·next c =>
    have hlt:=nx_lt (s:=s) (k:=tokEnd s (skip s k0)) (by omega)
    split at h
    ·cases h
    ·obtain⟨a,k1,h1,h2⟩:=Rs.bind_ok h
     have:=i4 _ _ _ _ (by omega) h1
     cases h2;omega
   ·split at h
    ·cases h
    ·next t1 hm =>
     have:=mean_lt L s hm
     have:=ht.2.2.1 hk1
     cases h;omega
  ·intro l d k t k' hl hk h
   rw [expr] at h
   split at h
   ·have:=i1 _ _ _ _ hk h
    exact⟨this.1,this.2,by have:=lev_le (opAt s (skip s k')).1;omega⟩
   ·obtain⟨a,k1,h1,h2⟩:=Rs.bind_ok h
    have e1:=i2 _ _ _ _ _ (by omega) hk h1
    have e2:=i3 _ _ _ _ _ _ hl e1.2.1 e1.2.2 h2
    exact⟨by omega,e2.2.1,e2.2.2⟩
  ·intro l d t k t' k' hl hk hv h
   have hs:=skip_spec s k
   have hk1:=hs.2.2 hk
   rw [rest] at h
   split at h
   ·next c =>
    obtain⟨a,k1,h1,h2⟩:=Rs.bind_ok h
    have ho:=opAt_spec s (skip s k)
    have hb:skip s k+(opAt s (skip s k)).2≤s.size:=by omega
    have e1:=i2 _ _ _ _ _ (by omega) hb h1
    have e2:=i3 _ _ _ _ _ _ hl e1.2.1 e1.2.2 h2
    exact⟨by omega,e2.2.1,e2.2.2⟩
   ·next c =>
    cases h
    refine⟨hs.1,hk1,?_⟩
    rw [skip_skip];omega
  ·intro d k0 t k' hk h
   have hs:=skip_spec s k0
   have hk1:=hs.2.2 hk
   rw [args] at h
   split at h
   ·next c =>
    have hlt:=nx_lt (s:=s) (k:=skip s k0) (by omega)
    cases h;omega
   ·obtain⟨a,k1,h1,h2⟩:=Rs.bind_ok h
    have e1:=i6 _ _ _ _ hk1 h1
    have e2:=i5 _ _ _ _ _ e1.2 h2
    omega
  ·intro d a k0 t k' hk h
   have hs:=skip_spec s k0
   have hk1:=hs.2.2 hk
   rw [more] at h
   split at h
   ·next c =>
    have hlt:=nx_lt (s:=s) (k:=skip s k0) (by omega)
    obtain⟨a,k1,h1,h2⟩:=Rs.bind_ok h
    have e1:=i6 _ _ _ _ (by omega) h1
    have e2:=i5 _ _ _ _ _ e1.2 h2
    omega
   ·split at h
    ·next c =>
     have hlt:=nx_lt (s:=s) (k:=skip s k0) (by omega)
     cases h;omega
    ·cases h
  ·intro d k0 t k' hk h
   have hs:=skip_spec s k0
   have hk1:=hs.2.2 hk
   have hx:expr L s f 1 d (skip s k0)=.ok t k'→k0<k'∧k'≤s.size:=fun h=>by
    have:=i2 _ _ _ _ _ (Nat.le_refl _) hk1 h
    omega
   rw [arg] at h
   split at h
   ·exact hx h
   ·next r hr =>
    split at h
    ·next c =>
     have hlt:=nx_lt (s:=s) (k:=tokEnd s (skip s k0)) (by omega)
     split at h
     ·cases h
     ·next r2 hr2 =>
      have:=ref_lt L s hr2
      have:=ref_lt L s hr
      have:=(tok_spec s (tokEnd s (skip s k0)+1)).2.2.1 (by omega)
      cases h;omega
    ·exact hx h
def Fu (f:Nat):Prop :=
 (∀ d k g,k≤s.size→10*(s.size - k)+1≤f→f≤g→operand L s f d k=operand L s g d k) ∧
 (∀ l d k g,1≤l→k≤s.size→10*(s.size - k)+2+(5 - l)≤f→f≤g→expr L s f l d k=expr L s g l d k) ∧
 (∀ l d t k g,1≤l→k≤s.size→10*(s.size - k)+1≤f→f≤g→rest L s f l d t k=rest L s g l d t k) ∧
 (∀ d k g,k≤s.size→10*(s.size - k)+8≤f→f≤g→args L s f d k=args L s g d k) ∧
 (∀ d a k g,k≤s.size→10*(s.size - k)+1≤f→f≤g→more L s f d a k=more L s g d a k) ∧
 (∀ d k g,k≤s.size→10*(s.size - k)+7≤f→f≤g→arg L s f d k=arg L s g d k)
theorem fuel:∀ f,Fu L s f:=by
 intro f
 induction f with
 | zero=>refine⟨?_,?_,?_,?_,?_,?_⟩<;>intros<;>omega
 | succ f ih =>
  obtain⟨i1,i2,i3,i4,i5,i6⟩:=ih
  obtain⟨p1,p2,p3,p4,p5,p6⟩:=prog L s f
  refine⟨?_,?_,?_,?_,?_,?_⟩
  ·intro d k0 g hk hf hg
   obtain⟨g,rfl⟩:∃ g',g=g'+1:=⟨g - 1,by omega⟩
   have hs:=skip_spec s k0
   have hk1:=hs.2.2 hk
   have ht:=tok_spec s (skip s k0)
   rw [operand,operand]
   split
   ·next c =>
    have hlt:=nx_lt (s:=s) (k:=skip s k0) (by omega)
    split
    ·rfl
    ·exact Rs.bind_congr (i1 _ _ _ (by omega) (by omega) (by omega)) fun _ _ _=>rfl
   split
   ·next c =>
    have hlt:=nx_lt (s:=s) (k:=skip s k0) (by omega)
    split
    ·rfl
    ·exact Rs.bind_congr (i2 _ _ _ _ (Nat.le_refl _) (by omega) (by omega) (by omega)) fun _ _ _=>rfl
   split
   ·rfl
   split
   ·rfl
   split
   ·next c =>
    have hlt:=nx_lt (s:=s) (k:=tokEnd s (skip s k0)) (by omega)
    split
    ·rfl
    ·exact Rs.bind_congr (i4 _ _ _ (by omega) (by omega) (by omega)) fun _ _ _=>rfl
   ·rfl
  ·intro l d k g hl hk hf hg
   obtain⟨g,rfl⟩:∃ g',g=g'+1:=⟨g - 1,by omega⟩
   rw [expr,expr]
   split
   ·exact i1 _ _ _ hk (by omega) (by omega)
   ·refine Rs.bind_congr (i2 _ _ _ _ (by omega) hk (by omega) (by omega)) fun a k1 e=>?_
    have:=p2 _ _ _ _ _ (by omega) hk e
    exact i3 _ _ _ _ _ hl (by omega) (by omega) (by omega)
  ·intro l d t k g hl hk hf hg
   obtain⟨g,rfl⟩:∃ g',g=g'+1:=⟨g - 1,by omega⟩
   have hs:=skip_spec s k
   have hk1:=hs.2.2 hk
   rw [rest,rest]
   split
   ·next c =>
    have ho:=opAt_spec s (skip s k)
    have h0:(opAt s (skip s k)).1≠0:=by
     intro e
     rw [e] at c
     simp [lev] at c
     omega
    refine Rs.bind_congr (i2 _ _ _ _ (by omega) (by omega) (by omega) (by omega)) fun a k1 e=>?_
    have:=p2 _ _ _ _ _ (by omega) (by omega) e
    exact i3 _ _ _ _ _ hl (by omega) (by omega) (by omega)
   ·rfl
  ·intro d k0 g hk hf hg
   obtain⟨g,rfl⟩:∃ g',g=g'+1:=⟨g - 1,by omega⟩
   have hs:=skip_spec s k0
   have hk1:=hs.2.2 hk
   rw [args,args]
   split
   ·rfl
   ·refine Rs.bind_congr (i6 _ _ _ (by omega) (by omega) (by omega)) fun a k1 e=>?_
    have:=p6 _ _ _ _ hk1 e
    exact i5 _ _ _ _ (by omega) (by omega) (by omega)
  ·intro d a k0 g hk hf hg
   obtain⟨g,rfl⟩:∃ g',g=g'+1:=⟨g - 1,by omega⟩
   have hs:=skip_spec s k0
   have hk1:=hs.2.2 hk
   rw [more,more]
   split
   ·next c =>
    have hlt:=nx_lt (s:=s) (k:=skip s k0) (by omega)
    refine Rs.bind_congr (i6 _ _ _ (by omega) (by omega) (by omega)) fun a k1 e=>?_
    have:=p6 _ _ _ _ (by omega) e
    exact i5 _ _ _ _ (by omega) (by omega) (by omega)
   ·rfl
  ·intro d k0 g hk hf hg
   obtain⟨g,rfl⟩:∃ g',g=g'+1:=⟨g - 1,by omega⟩
   have hs:=skip_spec s k0
   have hk1:=hs.2.2 hk
   have hx:expr L s f 1 d (skip s k0)=expr L s g 1 d (skip s k0):=i2 _ _ _ _ (Nat.le_refl _) hk1 (by omega) (by omega)
   rw [arg,arg]
   split
   ·exact hx
   ·split
    ·rfl
    ·exact hx
end
end Go.Proofs.YtgifkepklnhddaaGreatDoor.fm
namespace Go.Proofs.YtgifkepklnhddaaGreatDoor.fm
section
variable (L:Lex) (s:ByteArray)
def Operand (d k:Nat):Rs T:=operand L s (10*(s.size - k)+1) d k
def Expr (l d k:Nat):Rs T:=expr L s (10*(s.size - k)+2+(5 - l)) l d k
def Rest (l d:Nat) (t:T) (k:Nat):Rs T:=rest L s (10*(s.size - k)+1) l d t k
def Args (d k:Nat):Rs (List T):=args L s (10*(s.size - k)+8) d k
def More (d:Nat) (a:List T) (k:Nat):Rs (List T):=more L s (10*(s.size - k)+1) d a k
def Arg (d k:Nat):Rs T:=arg L s (10*(s.size - k)+7) d k
theorem op_fuel {f d k:Nat} (hk:k≤s.size) (hf:10*(s.size - k)+1≤f):operand L s f d k=Operand L s d k:=((fuel L s _).1 d k f hk (Nat.le_refl _) hf).symm
theorem ex_fuel {f l d k:Nat} (hl:1≤l) (hk:k≤s.size) (hf:10*(s.size - k)+2+(5 - l)≤f):expr L s f l d k=Expr L s l d k:=((fuel L s _).2.1 l d k f hl hk (Nat.le_refl _) hf).symm
theorem re_fuel {f l d k:Nat} {t:T} (hl:1≤l) (hk:k≤s.size) (hf:10*(s.size - k)+1≤f):rest L s f l d t k=Rest L s l d t k:=((fuel L s _).2.2.1 l d t k f hl hk (Nat.le_refl _) hf).symm
theorem as_fuel {f d k:Nat} (hk:k≤s.size) (hf:10*(s.size - k)+8≤f):args L s f d k=Args L s d k:=((fuel L s _).2.2.2.1 d k f hk (Nat.le_refl _) hf).symm
theorem mo_fuel {f d k:Nat} {a:List T} (hk:k≤s.size) (hf:10*(s.size - k)+1≤f):more L s f d a k=More L s d a k:=((fuel L s _).2.2.2.2.1 d a k f hk (Nat.le_refl _) hf).symm
theorem ar_fuel {f d k:Nat} (hk:k≤s.size) (hf:10*(s.size - k)+7≤f):arg L s f d k=Arg L s d k:=((fuel L s _).2.2.2.2.2 d k f hk (Nat.le_refl _) hf).symm
theorem Operand_prog {d k k':Nat} {t:T} (hk:k≤s.size) (h:Operand L s d k=.ok t k'):k<k'∧k'≤s.size:=(prog L s _).1 _ _ _ _ hk h
theorem Expr_prog {l d k k':Nat} {t:T} (hl:1≤l) (hk:k≤s.size) (h:Expr L s l d k=.ok t k'):k<k'∧k'≤s.size∧lev (opAt s (skip s k')).1<l:=(prog L s _).2.1 _ _ _ _ _ hl hk h
theorem Arg_prog {d k k':Nat} {t:T} (hk:k≤s.size) (h:Arg L s d k=.ok t k'):k<k'∧k'≤s.size:=(prog L s _).2.2.2.2.2 _ _ _ _ hk h
theorem Operand_eq (d k0:Nat) (hk:k0≤s.size):Operand L s d k0 =
  if nx s (skip s k0)=45 then (if d=30 then .err (skip s k0) 4 else (Operand L s (d+1) (skip s k0+1)).bind fun t k'=>.ok (tNeg t) k')
  else if nx s (skip s k0)=40 then (if d=30 then .err (skip s k0) 4 else (Expr L s 1 (d+1) (skip s k0+1)).bind fun t k1=>if nx s (skip s k1)=41 then .ok t (skip s k1+1) else .err (skip s k1) 2)
  else if nx s (skip s k0)=34 then (match quote s (skip s k0+1) [] with | none=>.err (skip s k0) 2 | some (l,k')=>.ok (tText ⟨l.toArray⟩) k')
  else if nx s (skip s k0)=35 then (match badAt s (skip s k0) with | none=>.err (skip s k0) 2 | some (n,len)=>.ok (tBad n) (skip s k0+len))
  else if isNm (tok s (skip s k0))=true∧nx s (tokEnd s (skip s k0))=40 then (if d=30 then .err (skip s k0) 4 else (Args L s (d+1) (tokEnd s (skip s k0)+1)).bind fun l k'=>.ok (tCall (tok s (skip s k0)) l) k')
  else (match L.mean (tok s (skip s k0)) with | none=>.err (skip s k0) 2 | some t=>.ok t (tokEnd s (skip s k0))):=by
 have hs:=skip_spec s k0
 have hk1:=hs.2.2 hk
 have ht:=tok_spec s (skip s k0)
 conv=>lhs;rw [Operand,operand]
 split
 ·next c =>
  have hlt:=nx_lt (s:=s) (k:=skip s k0) (by omega)
  rw [op_fuel L s (by omega) (by omega)]
 split
 ·next c =>
  have hlt:=nx_lt (s:=s) (k:=skip s k0) (by omega)
  rw [ex_fuel L s (Nat.le_refl _) (by omega) (by omega)]
 split
 ·rfl
 split
 ·rfl
 split
 ·next c =>
  have hlt:=nx_lt (s:=s) (k:=tokEnd s (skip s k0)) (by omega)
  rw [as_fuel L s (by omega) (by omega)]
 ·rfl
theorem Expr_five (d k:Nat) (hk:k≤s.size):Expr L s 5 d k=Operand L s d k:=by
 rw [Expr,show 10*(s.size - k)+2+(5 - 5)=(10*(s.size - k)+1)+1 from by omega,expr,if_pos (by omega),op_fuel L s hk (by omega)]
theorem Expr_eq (l d k:Nat) (h1:1≤l) (hl:l≤4) (hk:k≤s.size):Expr L s l d k=(Expr L s (l+1) d k).bind fun t k'=>Rest L s l d t k':=by
 rw [Expr,show 10*(s.size - k)+2+(5 - l)=(10*(s.size - k)+1+(5 - l))+1 from by omega,expr,if_neg (by omega)]
 refine Rs.bind_congr (ex_fuel L s (by omega) hk (by omega)) fun a k1 e=>?_
 rw [ex_fuel L s (by omega) hk (by omega)] at e
 have:=Expr_prog L s (by omega) hk e
 exact re_fuel L s h1 (by omega) (by omega)
theorem Rest_eq (l d:Nat) (t:T) (k0:Nat) (h1:1≤l) (hk:k0≤s.size):Rest L s l d t k0 =
  if lev (opAt s (skip s k0)).1=l then (Expr L s (l+1) d (skip s k0+(opAt s (skip s k0)).2)).bind fun u k'=>Rest L s l d (tTwo (opAt s (skip s k0)).1 t u) k' else .ok t (skip s k0):=by
 have hs:=skip_spec s k0
 have hk1:=hs.2.2 hk
 conv=>lhs;rw [Rest,rest]
 split
 ·next c =>
  have ho:=opAt_spec s (skip s k0)
  have h0:(opAt s (skip s k0)).1≠0:=by
   intro e
   rw [e] at c
   simp [lev] at c
   omega
  refine Rs.bind_congr (ex_fuel L s (by omega) (by omega) (by omega)) fun a k1 e=>?_
  rw [ex_fuel L s (by omega) (by omega) (by omega)] at e
  have:=Expr_prog L s (by omega) (by omega) e
  exact re_fuel L s h1 (by omega) (by omega)
 ·rfl
theorem Args_eq (d k0:Nat) (hk:k0≤s.size):Args L s d k0 =
  if nx s (skip s k0)=41 then .ok [] (skip s k0+1) else (Arg L s d (skip s k0)).bind fun t k'=>More L s d [t] k':=by
 have hs:=skip_spec s k0
 have hk1:=hs.2.2 hk
 conv=>lhs;rw [Args,args]
 split
 ·rfl
 ·refine Rs.bind_congr (ar_fuel L s (by omega) (by omega)) fun a k1 e=>?_
  rw [ar_fuel L s (by omega) (by omega)] at e
  have:=Arg_prog L s (by omega) e
  exact mo_fuel L s (by omega) (by omega)
theorem More_eq (d:Nat) (a:List T) (k0:Nat) (hk:k0≤s.size):More L s d a k0 =
  if nx s (skip s k0)=44 then (Arg L s d (skip s k0+1)).bind fun t k'=>More L s d (a++[t]) k' else if nx s (skip s k0)=41 then .ok a (skip s k0+1) else .err (skip s k0) 2:=by
 have hs:=skip_spec s k0
 have hk1:=hs.2.2 hk
 conv=>lhs;rw [More,more]
 split
 ·next c =>
  have hlt:=nx_lt (s:=s) (k:=skip s k0) (by omega)
  refine Rs.bind_congr (ar_fuel L s (by omega) (by omega)) fun a k1 e=>?_
  rw [ar_fuel L s (by omega) (by omega)] at e
  have:=Arg_prog L s (by omega) e
  exact mo_fuel L s (by omega) (by omega)
 ·rfl
theorem Arg_eq (d k0:Nat) (hk:k0≤s.size):Arg L s d k0 =
  match L.ref (tok s (skip s k0)) with
  | none=>Expr L s 1 d (skip s k0)
  | some r=>if nx s (tokEnd s (skip s k0))=58 then (match L.ref (tok s (tokEnd s (skip s k0)+1)) with | none=>.err (tokEnd s (skip s k0)+1) 2 | some r2=>.ok (tBox r r2) (tokEnd s (tokEnd s (skip s k0)+1))) else Expr L s 1 d (skip s k0):=by
 have hs:=skip_spec s k0
 have hk1:=hs.2.2 hk
 conv=>lhs;rw [Arg,arg]
 rw [ex_fuel L s (Nat.le_refl _) hk1 (by omega)]
 all_goals rfl
def Chain (l d:Nat) (t:T) (k:Nat):Rs T:=if 4<l then .ok t k else (Chain (l+1) d t k).bind fun t k'=>Rest L s l d t k'
termination_by 5 - l
theorem Chain_top (l d:Nat) (t:T) (k:Nat) (h:4<l):Chain L s l d t k=.ok t k:=by rw [Chain,if_pos h]
theorem Chain_eq (l d:Nat) (t:T) (k:Nat) (h:l≤4):Chain L s l d t k=(Chain L s (l+1) d t k).bind fun t k'=>Rest L s l d t k':=by rw [Chain,if_neg (by omega)]
theorem Rs.bind_assoc {α β γ:Type} (r:Rs α) (f:α→Nat→Rs β) (g:β→Nat→Rs γ):(r.bind f).bind g=r.bind fun a k=>(f a k).bind g:=by cases r<;>rfl
theorem Expr_chain (n l d k:Nat) (hn:5 - l=n) (h1:1≤l) (hl:l≤5) (hk:k≤s.size):Expr L s l d k=(Operand L s d k).bind fun t k'=>Chain L s l d t k':=by
 induction n generalizing l with
 | zero =>
  obtain rfl:l=5:=by omega
  rw [Expr_five L s d k hk]
  cases h:Operand L s d k with
  | ok a k1=>show _=Chain L s 5 d a k1;rw [Chain_top L s 5 d a k1 (by omega)]
  | err k1 e=>rfl
 | succ n ih =>
  rw [Expr_eq L s l d k h1 (by omega) hk,ih (l+1) (by omega) (by omega) (by omega),Rs.bind_assoc]
  congr 1
  funext a k1
  rw [Chain_eq L s l d a k1 (by omega)]
theorem Chain_none (n l d:Nat) (t:T) (k:Nat) (hn:5 - l=n) (h1:1≤l) (hk:k≤s.size) (hv:lev (opAt s (skip s k)).1<l):Chain L s l d t k=.ok t (if 4<l then k else skip s k):=by
 induction n generalizing l with
 | zero=>rw [Chain_top L s l d t k (by omega),if_pos (by omega)]
 | succ n ih =>
  rw [Chain_eq L s l d t k (by omega),ih (l+1) (by omega) (by omega) (by omega),if_neg (by omega:¬ 4<l)]
  have hs:=skip_spec s k
  have hk1:=hs.2.2 hk
  show Rest L s l d t _=_
  have he:skip s (if 4<l+1 then k else skip s k)=skip s k:=by split;rfl;exact skip_skip s k
  rw [Rest_eq L s l d t _ h1 (by split<;>omega),he,if_neg (by omega)]
theorem Chain_some (n l d:Nat) (t:T) (k:Nat) (hn:lev (opAt s (skip s k)).1 - l=n) (h1:1≤l) (hk:k≤s.size) (hv:l≤lev (opAt s (skip s k)).1) :
  Chain L s l d t k=(Expr L s (lev (opAt s (skip s k)).1+1) d (skip s k+(opAt s (skip s k)).2)).bind fun u k'=>Chain L s l d (tTwo (opAt s (skip s k)).1 t u) k':=by
 have hle:=lev_le (opAt s (skip s k)).1
 have hs:=skip_spec s k
 have hk1:=hs.2.2 hk
 have ho:=opAt_spec s (skip s k)
 have h0:(opAt s (skip s k)).1≠0:=by
  intro e
  rw [e] at hv
  simp [lev] at hv
  omega
 induction n generalizing l with
 | zero =>
  have hl:lev (opAt s (skip s k)).1=l:=by omega
  rw [Chain_eq L s l d t k (by omega),Chain_none L s _ (l+1) d t k rfl (by omega) hk (by omega)]
  show Rest L s l d t _=_
  have he:skip s (if 4<l+1 then k else skip s k)=skip s k:=by split;rfl;exact skip_skip s k
  rw [Rest_eq L s l d t _ h1 (by split<;>omega),he,if_pos hl,hl]
  refine Rs.bind_congr rfl fun u k2 e=>?_
  have hp:=Expr_prog L s (by omega) (by omega) e
  rw [Chain_eq L s l d _ k2 (by omega),Chain_none L s _ (l+1) d _ k2 rfl (by omega) hp.2.1 hp.2.2]
  show _=Rest L s l d _ _
  split
  ·rfl
  ·rw [Rest_eq L s l d _ (skip s k2) h1 ((skip_spec s k2).2.2 hp.2.1),skip_skip,← Rest_eq L s l d _ k2 h1 hp.2.1]
 | succ n ih =>
  rw [Chain_eq L s l d t k (by omega),ih (l+1) (by omega) (by omega) (by omega),Rs.bind_assoc]
  congr 1
  funext u k2
  rw [Chain_eq L s l d _ k2 (by omega)]
def parse:Rs T :=
 if 200<s.size then .err 0 4
 else if nx s 0≠61 then .err 0 2
 else (Expr L s 1 0 1).bind fun t k=>if skip s k<s.size then .err (skip s k) 2 else .ok t 0
end
end Go.Proofs.YtgifkepklnhddaaGreatDoor.fm
namespace Go.Proofs.YtgifkepklnhddaaGreatDoor.fm
inductive Bd (n:Nat):T→Prop
 | mk {k m:Int} {s:ByteArray} {r t:Rf} {ts:List T} (hl:ts.length≤n) (hs:∀ (i:Nat) u,ts[i]?=some u→Bd n u):Bd n (.nd k m s r t ts)
section
variable (L:Lex) (s:ByteArray) (hL:∀ t u,L.mean t=some u→Bd s.size u)
include hL
end
end Go.Proofs.YtgifkepklnhddaaGreatDoor.fm

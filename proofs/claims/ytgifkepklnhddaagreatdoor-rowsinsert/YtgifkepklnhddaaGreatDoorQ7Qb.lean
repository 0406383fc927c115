import Derived.Test.YtgifkepklnhddaaGreatDoorQ7Qa
import Derived.Test.YtgifkepklnhddaaGreatDoorQ7Ashift
import Derived.Test.YtgifkepklnhddaaGreatDoorQ7Pc
namespace Go.Proofs.YtgifkepklnhddaaGreatDoor.fm
abbrev isK (r:Rf):Prop:=adr.isC r.c r.r=true
theorem isK_iff {r:Rf}:isK r↔(1≤r.c∧r.c≤26)∧1≤r.r∧r.r≤99:=adr.isC_iff
def lineR (row:Bool) (r:Rf):Int:=if row=true then r.r else r.c
def caR (cols rows:Int) (r:Rf):Rf×Bool:=(⟨r.c+cols,r.r+rows,r.fc,r.fr⟩,adr.isC (r.c+cols) (r.r+rows))
def cyR (row:Bool) (d:Int) (r:Rf):Rf×Bool:=if row=true then caR 0 d r else caR d 0 r
def inR (row:Bool) (at' many:Int) (r:Rf):Rf×Bool:=if lineR row r<at' then (r,true) else cyR row many r
def deR (row:Bool) (at' many:Int) (r:Rf):Rf×Bool:=if lineR row r<at' then (r,true) else if lineR row r<at'+many then (r,false) else cyR row (-many) r
def both (f:Rf→Rf×Bool) (a b:Rf):(Rf×Rf)×Bool:=(((f a).1,(f b).1),(f a).2 && (f b).2)
def opt {α:Type} (x:α×Bool):Option α:=if x.2=true then some x.1 else none
theorem opt_some {α:Type} {x:α×Bool} {y:α} (h:opt x=some y):x.2=true∧x.1=y:=by
 unfold opt at h
 split at h
 ·next h1=>exact⟨h1,Option.some.inj h⟩
 ·cases h
theorem opt_of {α:Type} {x:α×Bool} (h:x.2=true):opt x=some x.1:=if_pos h
def Cw (f:Rf→Rf×Bool):Chg:=⟨fun r=>opt (f r),fun a b=>opt (both f a b)⟩
theorem in_back (row:Bool) (at' many:Int) (h0:0≤many) (r r':Rf) (h:isK r) (hm:opt (inR row at' many r)=some r'):isK r'∧deR row at' many r'=(r,true):=by
 obtain⟨ho,he⟩:=opt_some hm
 unfold inR at ho he
 by_cases hl:lineR row r<at'
 ·rw [if_pos hl] at ho he
  subst he
  refine⟨h,?_⟩
  unfold deR
  rw [if_pos hl]
 ·rw [if_neg hl] at ho he
  unfold cyR caR at ho he
  unfold lineR at hl
  cases row with
  | true =>
   simp only [if_true,Int.add_zero] at ho he hl
   subst he
   refine⟨ho,?_⟩
   unfold deR lineR cyR caR
   simp only [if_true]
   rw [if_neg (by omega),if_neg (by omega)]
   have e:r.r+many + -many=r.r:=by omega
   simp only [Int.add_zero,e]
   rw [h]
  | false =>
   simp only [Bool.false_eq_true,if_false,Int.add_zero] at ho he hl
   subst he
   refine⟨ho,?_⟩
   unfold deR lineR cyR caR
   simp only [Bool.false_eq_true,if_false]
   rw [if_neg (by omega),if_neg (by omega)]
   have e:r.c+many + -many=r.c:=by omega
   simp only [Int.add_zero,e]
   rw [h]
inductive Fits (P:Rf→Prop):T→Prop
 | mk {k n:Int} {s:ByteArray} {r t:Rf} {ts:List T} (h5:k=5→P r) (h6:k=6→P r∧P t) (hs:∀ (i:Nat) u,ts[i]?=some u→Fits P u):Fits P (.nd k n s r t ts)
theorem fits_gd {t:T} (h:Gd ink t):Fits isK t:=by
 induction h with
 | mk h5 h6 hs ih=>exact .mk (fun e=>(h5 e).2) (fun e=>(h6 e).2) (fun i u hu=>ih u (List.mem_of_getElem? hu))
theorem ok_chg {C:Chg} {t:T} (h:Ok t):Ok (chg C t):=by
 induction h with
 | @mk k n s r t ts hn hl hs ih =>
  have hl':∀ (i:Nat) u,(chgL C ts)[i]?=some u→Ok u:=fun i u hu=>by
   rw [chgL_at] at hu
   obtain⟨v,hv,rfl⟩:=Option.map_eq_some_iff.1 hu
   exact ih i v hv
  have hlen:(chgL C ts).length≤9223372036854775807:=by rw [chgL_len];exact hl
  have hbad:Ok badN:=.mk (by decide) (Nat.zero_le _) (fun i u hu=>by simp at hu)
  rw [chg_eq]
  unfold chgN
  split
  ·split
   ·exact hbad
   ·exact .mk hn hlen hl'
  ·split
   ·split
    ·exact hbad
    ·exact .mk hn hlen hl'
   ·exact .mk hn hlen hl'
end Go.Proofs.YtgifkepklnhddaaGreatDoor.fm

import Derived.Test.YtgifkepklnhddaaGreatDoorQ7Hold
namespace Go.Proofs.YtgifkepklnhddaaGreatDoor.ps
structure Fl where
 c:Int
 r:Int
 s:ByteArray
def cmpC (c1 r1 c2 r2:Int):Int:=if r1<r2 then -1 else if r2<r1 then 1 else if c1<c2 then -1 else if c2<c1 then 1 else 0
def lt (x:Fl) (c r:Int):Bool:=decide (cmpC x.c x.r c r<0)
def at' (x:Fl) (c r:Int):Bool:=decide (cmpC x.c x.r c r=0)
theorem cmpC_lt {a b c d:Int}:cmpC a b c d<0↔b<d∨(b=d∧a<c):=by
 unfold cmpC;repeat' split
 all_goals omega
theorem lt_iff {x:Fl} {c r:Int}:lt x c r=true↔x.r<r∨(x.r=r∧x.c<c):=by unfold lt;rw [decide_eq_true_eq,cmpC_lt]
def Srt (l:List Fl):Prop:=l.Pairwise fun x y=>lt x y.c y.r=true
def put (f:Fl):List Fl:=if f.s.size=0 then [] else [f]
def wt:List Fl→Fl→List Fl
 | [],f=>put f
 | x::l,f=>if lt x f.c f.r=true then x::wt l f else if at' x f.c f.r=true then put f++l else put f++x::l
def txt:List Fl→Int→Int→ByteArray
 | [],_,_=>nul
 | x::l,c,r=>if at' x c r=true then x.s else txt l c r
theorem size_nul {s:ByteArray} (h:s.size=0):s=nul:=by
 obtain⟨⟨l⟩⟩:=s
 have:l=[]:=List.length_eq_zero_iff.1 h
 subst this
 rfl
end Go.Proofs.YtgifkepklnhddaaGreatDoor.ps

import Derived.Test.YtgifkepklnhddaaGreatDoorQ7Pb
namespace Go.Proofs.YtgifkepklnhddaaGreatDoor.fm
open Go.RowKit
def dollar (t:Bool):List UInt8:=if t=true then [36] else []
def ink:Ink:=⟨Lib.itoa,fun r=>dollar r.fc++UInt8.ofNat (64+r.c.toNat)::(dollar r.fr++Lib.decDigits r.r.toNat),fun r=>adr.isC r.c r.r=true⟩
def Wf (t:T):Prop:=∃ x d,W ink t x d
inductive Ok:T→Prop
 | mk {k n:Int} {s:ByteArray} {r t:Rf} {ts:List T} (hn:n≤9223372036854775807) (hl:ts.length≤9223372036854775807) (hs:∀ (i:Nat) u,ts[i]?=some u→Ok u):Ok (.nd k n s r t ts)
theorem Ok.bd {t:T} (h:Ok t):Bd 9223372036854775807 t:=by
 induction h with
 | mk hn hl hs ih=>exact .mk hl ih
theorem WL.cons {K:Ink} {ts:List T} {xs:List (List UInt8)} {ds:List Nat} {t:T} {x:List UInt8} {d:Nat} (h:WL K ts xs ds) (ht:W K t x d):WL K (t::ts) (x::xs) (d::ds):=by
 refine⟨by simp [h.x],by simp [h.d],fun i u y e h1 h2 h3=>?_⟩
 cases i with
 | zero=>simp at h1 h2 h3;subst h1 h2 h3;exact ht
 | succ i=>exact h.h i u y e (by simpa using h1) (by simpa using h2) (by simpa using h3)
theorem wl_of:∀ (ts:List T),(∀ (i:Nat) u,ts[i]?=some u→Wf u)→∃ xs ds,WL ink ts xs ds
 | [],_=>⟨[],[],.nil⟩
 | t::ts,h=>by
  obtain⟨xs,ds,hw⟩:=wl_of ts (fun i u hu=>h (i+1) u (by simpa using hu))
  obtain⟨x,d,hx⟩:=h 0 t (by simp)
  exact⟨_,_,hw.cons hx⟩
theorem nul_of {s:ByteArray} (h:s.toList.isEmpty=true):s=nul:=by
 rw [ByteArray.toList_eq] at h
 have:s.data.toList=[]:=by simpa using h
 apply ByteArray.ext
 apply Array.ext'
 rw [this]
theorem z_of {r:Rf} (h:((r.c == 0) && (r.r == 0) && !r.fc && !r.fr)=true):r=.z:=by
 cases r
 simp at h
 simp [h]
theorem lf_no {n:Int} {s:ByteArray} {r t:Rf} {m:Nat} (h:lfB n s r t m=false):(n=0∧s=nul)∧r=.z∧t=.z∧m=0:=by
 unfold lfB at h
 simp only [Bool.or_eq_false_iff,Bool.not_eq_false'] at h
 obtain⟨⟨⟨⟨h1,h2⟩,h3⟩,h4⟩,h5⟩:=h
 exact⟨⟨by simpa using h1,nul_of h2⟩,z_of h3,z_of h4,by simpa using h5⟩
theorem lf_yes:lfB 0 nul .z .z 0=false:=by decide +kernel
theorem len0 {ts:List T} (h:ts.length=0):ts=[]:=List.length_eq_zero_iff.1 h
theorem wf_iff {k n:Int} {s:ByteArray} {r t:Rf} {ts:List T} (hn:n≤9223372036854775807) :
  Wf (.nd k n s r t ts)↔(ftB k n s r t ts.length=true∧hmB k n s r t ts.length=false)∧∀ (i:Nat) u,ts[i]?=some u→(u.kd≠6∨k=9)∧Wf u:=by
 constructor
 ·rintro⟨x,d,h⟩
  cases h with
  | num h0 h1=>exact⟨⟨by simp [ftB,h0],by simp [hmB,lf_yes]⟩,fun i u hu=>by simp at hu⟩
  | text h=>exact⟨⟨by simp [ftB,h],by simp [hmB,lf_yes]⟩,fun i u hu=>by simp at hu⟩
  | truth h=>exact⟨⟨by simp [ftB,h],by simp [hmB,lf_yes]⟩,fun i u hu=>by simp at hu⟩
  | bad h h6=>exact⟨⟨by simp [ftB];omega,by simp [hmB,lf_yes]⟩,fun i u hu=>by simp at hu⟩
  | ref h=>exact⟨⟨by simp [ftB];exact h,by simp [hmB,lf_yes]⟩,fun i u hu=>by simp at hu⟩
  | box h h2=>exact⟨⟨by simp [ftB];exact⟨h,h2⟩,by simp [hmB,lf_yes]⟩,fun i u hu=>by simp at hu⟩
  | neg ha h =>
   refine⟨⟨by simp [ftB],by simp [hmB,lf_yes]⟩,fun i u hu=>?_⟩
   cases i with
   | zero=>simp at hu;subst hu;exact⟨.inl ha,_,_,h⟩
   | succ i=>simp at hu
  | two h1 h11 ha hb hx hy =>
   refine⟨⟨by simp [ftB];omega,by simp [hmB,lf_yes]⟩,fun i u hu=>?_⟩
   match i with
   | 0=>simp at hu;subst hu;exact⟨.inl ha,_,_,hx⟩
   | 1=>simp at hu;subst hu;exact⟨.inl hb,_,_,hy⟩
   | i+2=>simp at hu
  | @call name ts xs ds hn hx hd h =>
   refine⟨⟨by simp [ftB,hn],by simp [hmB,lf_yes]⟩,fun i u hu=>⟨.inr rfl,?_⟩⟩
   have hi:=(List.getElem?_eq_some_iff.1 hu).1
   exact⟨_,_,h i u _ _ hu (List.getElem?_eq_getElem (by omega)) (List.getElem?_eq_getElem (by omega))⟩
 ·rintro⟨⟨h1,h2⟩,h3⟩
  unfold ftB at h1
  unfold hmB at h2
  by_cases k1:k=1
  ·subst k1;simp only [if_pos] at h1 h2
   obtain⟨⟨_,rfl⟩,rfl,rfl,hm⟩:=lf_no h2
   obtain rfl:=len0 hm
   exact⟨_,_,.num (by simpa using h1) hn⟩
  rw [if_neg k1] at h1 h2
  by_cases k1:k=2
  ·subst k1;simp only [if_pos] at h1 h2
   obtain⟨⟨rfl,_⟩,rfl,rfl,hm⟩:=lf_no h2
   obtain rfl:=len0 hm
   exact⟨_,_,.text (by simpa using h1)⟩
  rw [if_neg k1] at h1 h2
  by_cases k1:k=3
  ·subst k1;simp only [if_pos] at h1 h2
   obtain⟨⟨_,rfl⟩,rfl,rfl,hm⟩:=lf_no h2
   obtain rfl:=len0 hm
   exact⟨_,_,.truth (by simpa using h1)⟩
  rw [if_neg k1] at h1 h2
  by_cases k1:k=4
  ·subst k1;simp only [if_pos] at h1 h2
   obtain⟨⟨_,rfl⟩,rfl,rfl,hm⟩:=lf_no h2
   obtain rfl:=len0 hm
   simp at h1
   obtain⟨n',rfl⟩:∃ n':Nat,n=(n':Int):=⟨n.toNat,by omega⟩
   exact⟨_,_,.bad (by omega) (by omega)⟩
  rw [if_neg k1] at h1 h2
  by_cases k1:k=5
  ·subst k1;simp only [if_pos] at h1 h2
   obtain⟨⟨rfl,rfl⟩,_,rfl,hm⟩:=lf_no h2
   obtain rfl:=len0 hm
   exact⟨_,_,.ref h1⟩
  rw [if_neg k1] at h1 h2
  by_cases k1:k=6
  ·subst k1;simp only [if_pos] at h1 h2
   obtain⟨⟨rfl,rfl⟩,_,_,hm⟩:=lf_no h2
   obtain rfl:=len0 hm
   rw [Bool.and_eq_true] at h1
   exact⟨_,_,.box h1.1 h1.2⟩
  rw [if_neg k1] at h1 h2
  by_cases k1:k=7
  ·subst k1;simp only [if_pos] at h1 h2
   obtain⟨⟨rfl,rfl⟩,rfl,rfl,_⟩:=lf_no h2
   obtain⟨a,rfl⟩:=List.length_eq_one_iff.1 (by simpa using h1)
   obtain⟨ha,x,d,hx⟩:=h3 0 a (by simp)
   exact⟨_,_,.neg (ha.resolve_right (by decide)) hx⟩
  rw [if_neg k1] at h1 h2
  by_cases k1:k=8
  ·subst k1;simp only [if_pos] at h1 h2
   obtain⟨⟨_,rfl⟩,rfl,rfl,_⟩:=lf_no h2
   simp at h1
   obtain⟨a,b,rfl⟩:∃ a b,ts=[a,b]:=by
    match ts,h1.2 with
    | [a,b],_=>exact⟨a,b,rfl⟩
   obtain⟨ha,x,d,hx⟩:=h3 0 a (by simp)
   obtain⟨hb,y,e,hy⟩:=h3 1 b (by simp)
   obtain⟨n',rfl⟩:∃ n':Nat,n=(n':Int):=⟨n.toNat,by omega⟩
   exact⟨_,_,.two (by omega) (by omega) (ha.resolve_right (by decide)) (hb.resolve_right (by decide)) hx hy⟩
  rw [if_neg k1] at h1 h2
  by_cases k1:k=9
  ·subst k1;simp only [if_pos] at h1 h2
   obtain⟨⟨rfl,_⟩,rfl,rfl,_⟩:=lf_no h2
   obtain⟨xs,ds,hw⟩:=wl_of ts (fun i u hu=>(h3 i u hu).2)
   exact⟨_,_,.call h1 hw.x hw.d hw.h⟩
  rw [if_neg k1] at h1
  cases h1
end Go.Proofs.YtgifkepklnhddaaGreatDoor.fm

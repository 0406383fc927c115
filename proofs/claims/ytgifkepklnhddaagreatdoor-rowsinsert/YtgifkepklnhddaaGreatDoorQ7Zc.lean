import Derived.Test.YtgifkepklnhddaaGreatDoorQ7Zb
import Derived.Test.YtgifkepklnhddaaGreatDoorQ7Fh
import Derived.Deep.AppendLies
import Derived.Deep.Upon
import Derived.OwnWalk
namespace Go.Proofs.YtgifkepklnhddaaGreatDoor.ps
open Go.RowKit
abbrev fl3 (x:Fl):List Value:=[.int .i64 x.c,.int .i64 x.r,.string x.s]
def flF (xs:List Fl):List Value:=xs.flatMap fl3
theorem flF_len (xs:List Fl):(flF xs).length=xs.length*3:=by
 induction xs with
 | nil=>rfl
 | cons x l ih=>unfold flF at ih ⊢;rw [List.flatMap_cons,List.length_append,ih,List.length_cons];simp;omega
theorem flF_app (a b:List Fl):flF (a++b)=flF a++flF b:=by simp [flF]
theorem flF_one (xs:List Fl):∀ u∈flF xs,u.oneCell'=true:=by
 intro u hu
 obtain⟨x,-,hx⟩:=List.mem_flatMap.1 hu
 simp at hx
 rcases hx with rfl | rfl | rfl<;>rfl
theorem flF_at {xs:List Fl} {i:Nat} {x:Fl} (h:xs[i]?=some x) {j:Nat} {v:Value} (hv:(fl3 x)[j]?=some v):(flF xs)[i*3+j]?=some v:=by
 induction xs generalizing i with
 | nil=>simp at h
 | cons y ys ih =>
  have hy:(fl3 y).length=3:=rfl
  unfold flF
  simp only [List.flatMap_cons]
  cases i with
  | zero =>
   simp at h;subst h
   have hj:j<3:=by have:=(List.getElem?_eq_some_iff.1 hv).1;simpa using this
   rw [List.getElem?_append_left (by omega)]
   simpa using hv
  | succ i =>
   simp at h
   rw [List.getElem?_append_right (by omega),show (i+1)*3+j - (fl3 y).length=i*3+j from by omega]
   exact ih h
def FM (w:World) (p:Option Addr) (xs:List Fl):Prop:=xs=[]∨∃ g o,p=some ⟨g,o,none⟩∧g<w.heap.size∧∀ (t:Nat) u,(flF xs)[t]?=some u→w.cell? ⟨g,o+t,none⟩=some u
theorem FM.next {w w':World} {p:Option Addr} {xs:List Fl} (h:FM w p xs) {B:Nat} (hb:Below B w w') (hB:∀ g o,p=some ⟨g,o,none⟩→g<B):FM w' p xs:=by
 rcases h with h | ⟨g,o,rfl,h2,h3⟩
 ·exact .inl h
 ·exact .inr ⟨g,o,rfl,Nat.lt_of_lt_of_le h2 hb.size,fun t u hu=>by rw [hb.cell (p:=⟨g,_,none⟩) (hB g o rfl)];exact h3 t u hu⟩
theorem FM.below {w w':World} {p:Option Addr} {xs:List Fl} (h:FM w p xs) (hb:Below w.heap.size w w'):FM w' p xs:=by
 rcases h with h | ⟨g,o,rfl,h2,h3⟩
 ·exact .inl h
 ·exact FM.next (.inr ⟨g,o,rfl,h2,h3⟩) hb (fun g' o' e=>by cases e;exact h2)
theorem FM.cells {w:World} {g o:Nat} {xs:List Fl} (h:FM w (some ⟨g,o,none⟩) xs) {i:Nat} {x:Fl} (hx:xs[i]?=some x):w.cell? ⟨g,o+i*3,none⟩=some (.int .i64 x.c)∧w.cell? ⟨g,o+i*3+1,none⟩=some (.int .i64 x.r)∧w.cell? ⟨g,o+i*3+2,none⟩=some (.string x.s):=by
 rcases h with h | ⟨g',o',e,h2,h3⟩
 ·subst h;simp at hx
 ·cases e
  have q0:=h3 _ _ (flF_at hx (j:=0) rfl)
  have q1:=h3 _ _ (flF_at hx (j:=1) rfl)
  have q2:=h3 _ _ (flF_at hx (j:=2) rfl)
  rw [Nat.add_zero] at q0
  rw [← Nat.add_assoc] at q1 q2
  exact⟨q0,q1,q2⟩
def FB (w:World) (v:Value) (xs:List Fl):Prop:=w.ownsRow 0 44 3 v xs.length (flF xs)
theorem FB.shape {w:World} {v:Value} {xs:List Fl} (h:FB w v xs):∃ p c,v=.slice p xs.length c∧FM w p xs:=by
 rcases h.2 with ⟨rfl,h0⟩ | ⟨g,cap,cur,rfl,-,hg,hc,-,hs,ht⟩
 ·exact⟨none,0,by rw [h0],.inl (List.length_eq_zero_iff.1 h0)⟩
 ·refine⟨_,_,rfl,.inr ⟨g,0,rfl,fm.lt_blk hg,fun t u hu=>?_⟩⟩
  rw [← ht,List.getElem?_take] at hu
  split at hu
  ·simp [World.cell?,hg];simpa using hu
  ·cases hu
theorem info33:(Tryz.prog.info? 44).map (fun i=>(i.zero,i.size,i.bytes))=some (some (.agg #[.int .i64 0,.int .i64 0,.string nul]),3,32):=by kernel_rfl
theorem own_base {w:World} {e:TypeId} {size:Nat} {v:Value} {n:Nat} {xs:List Value} {base b:Nat} (h:w.ownsRow base e size v n xs) (hb:b≤base):w.ownsRow b e size v n xs:=by
 refine⟨h.1,?_⟩
 rcases h.2 with h0 | ⟨g,cap,cur,h1,h2,h3⟩
 ·exact .inl h0
 ·exact .inr ⟨g,cap,cur,h1,Nat.le_trans hb h2,h3⟩
theorem app_any (w:World) (base:Nat) (hbase:base≤w.heap.size) (v:Value) (n:Nat) (xs:List Value) (hown:w.ownsRow base 44 3 v n xs) (p:Option Addr) (ys:List Fl) (c:Nat) (hy:FM w p ys) (hm:n+ys.length≤4398046511104) :
  ∃ v' w',(Builtin.append_ #[22,22] 22 #[v,.slice p ys.length c]).run Tryz.prog w=.ok v' w'∧w'.ownsRow base 44 3 v' (n+ys.length) (xs++flF ys)∧Below base w w'∧(∀ b,b<w.heap.size→v.ownBlock≠some b→w'.heap[b]?=w.heap[b]?)∧(∀ k,v'.ownBlock=some k→v.ownBlock=some k∨w.heap.size≤k)∧w.heap.size≤w'.heap.size:=by
 obtain⟨i0,hi,hz0,hz1,hz2⟩:=info_parts info33
 have hmax:maxLen=9223372036854775807:=rfl
 by_cases h0:ys=[]
 ·subst h0
  have hv:∃ b l k,v=.slice b l k∧l≤k:=by
   rcases hown.2 with ⟨rfl,-⟩ | ⟨g,cap,cur,rfl,-,-,hc,-⟩
   ·exact⟨none,0,0,rfl,Nat.le_refl _⟩
   ·exact⟨_,_,_,rfl,hc⟩
  obtain⟨b,l,k,rfl,hlk⟩:=hv
  refine⟨_,w,run_append_nothing (P:=Tryz.prog) w 22 22 22 44 i0 Tryz.underlying22 hi b l k hlk (.slice p 0 c) ?_,by simpa [flF] using hown,Below.refl _ _,fun _ _ _=>rfl,fun _ h=>.inl h,Nat.le_refl _⟩
  rw [hz1]
  cases p with
  | none=>exact Src.ofNil w Tryz.underlying22 c
  | some a=>exact Src.ofSlice w Tryz.underlying22 a 0 c [] (by simp) (by simp) (by simp)
 ·rcases hy with hy | ⟨g,o,rfl,hg,hc⟩
  ·exact absurd hy h0
  ·have hl:0<ys.length:=List.length_pos_iff.2 h0
   obtain⟨g',cap',w',hr,ho,hgr,hob,-⟩:=run_append_lies (P:=Tryz.prog) (w:=w) 22 22 base 44 i0 _ 3 32 Tryz.underlying22 hi hz0 hz1 hz2 rfl (by decide) v n xs hown ⟨g,o,none⟩ ys.length c (flF ys) (flF_len ys) (fun j u hu=>by rw [show (⟨g,o,none⟩:Addr).add j=⟨g,o+j,none⟩ by unfold Addr.add;by_cases h:j=0<;>simp [h]];exact hc j u hu) (flF_one ys) hl (by omega) (by omega) hbase _ rfl
   exact⟨_,w',hr,ho,(Below.refl base w).grown hgr hbase (fun k hk=>(hown.lt k hk).1),fun b hb hne=>hgr.block b hb (fun e=>hne e.symm),fun k hk=>by
    have hk':g'=k:=by simpa [Value.ownBlock] using hk
    subst hk'
    rcases hob with h | h
    ·exact .inl h
    ·exact .inr (Nat.le_of_eq h.symm),((Below.refl base w).grown hgr hbase (fun k hk=>(hown.lt k hk).1)).size⟩
theorem app_many (w:World) (base:Nat) (hbase:base≤w.heap.size) (v:Value) (n:Nat) (xs:List Value) (hown:w.ownsRow base 44 3 v n xs) (hn:n≤1000) (p:Option Addr) (ys:List Fl) (c:Nat) (hy:FM w p ys) (hm:ys.length≤1000) :
  ∃ v' w',(Builtin.append_ #[22,22] 22 #[v,.slice p ys.length c]).run Tryz.prog w=.ok v' w'∧w'.ownsRow base 44 3 v' (n+ys.length) (xs++flF ys)∧Below base w w'∧(∀ b,b<w.heap.size→v.ownBlock≠some b→w'.heap[b]?=w.heap[b]?)∧(∀ k,v'.ownBlock=some k→v.ownBlock=some k∨w.heap.size≤k)∧w.heap.size≤w'.heap.size :=
 app_any w base hbase v n xs hown p ys c hy (by omega)
end Go.Proofs.YtgifkepklnhddaaGreatDoor.ps

import Derived.Test.YtgifkepklnhddaaGreatDoorQ7Hold
import Derived.Test.YtgifkepklnhddaaGreatDoorQ7Fm3
import Derived.LoopTactic
namespace Go.Proofs.YtgifkepklnhddaaGreatDoor.fm
open Go.RowKit
structure Kp (X:Nat→Prop) (w w':World):Prop where
 os:w'.os=w.os
 tape:w'.tape=w.tape
 output:w'.output=w.output
 size:w.heap.size≤w'.heap.size
 block:∀ b,b<w.heap.size→¬ X b→w'.heap[b]?=w.heap[b]?
theorem Kp.refl (X:Nat→Prop) (w:World):Kp X w w:=⟨rfl,rfl,rfl,Nat.le_refl _,fun _ _ _=>rfl⟩
theorem Kp.trans {X Y:Nat→Prop} {a b c:World} (h:Kp X a b) (k:Kp Y b c) (hy:∀ n,Y n→X n∨a.heap.size≤n):Kp X a c :=
 ⟨k.os.trans h.os,k.tape.trans h.tape,k.output.trans h.output,Nat.le_trans h.size k.size,fun i hi hx=>(k.block i (Nat.lt_of_lt_of_le hi h.size) (fun y=>by
  rcases hy i y with h1 | h1
  ·exact hx h1
  ·omega)).trans (h.block i hi hx)⟩
theorem Kp.below {X:Nat→Prop} {a b c:World} (h:Kp X a b) (k:Below b.heap.size b c):Kp X a c :=
 h.trans (Y:=fun _=>False) ⟨k.os,k.tape,k.output,k.size,fun i hi _=>k.block i hi⟩ (fun _ h=>h.elim)
theorem Kp.drew {X:Nat→Prop} {a b:World} (h:Kp X a b):Kp X a b.drew:=⟨h.os,h.tape,h.output,h.size,h.block⟩
theorem Kp.alloc {X:Nat→Prop} {a b:World} (h:Kp X a b) (o:Obj):Kp X a (b.alloc o):=h.below ((Below.refl _ _).alloc (Nat.le_refl _) _)
theorem Kp.setCell {X:Nat→Prop} {a b:World} (h:Kp X a b) {p:Addr} (hp:X p.block∨a.heap.size≤p.block) (u:Value):Kp X a (b.setCell p u) :=
 h.trans (Y:=fun n=>n=p.block) ⟨rfl,rfl,rfl,by simp [World.setCell],fun k _ hn=>Below.heap_setCell _ _ _ _ hn⟩ (fun n e=>by rw [e];exact hp)
theorem Kp.mono {X Y:Nat→Prop} {a b:World} (h:Kp X a b) (hy:∀ n,n<a.heap.size→X n→Y n):Kp Y a b:=⟨h.os,h.tape,h.output,h.size,fun i hi hn=>h.block i hi (fun x=>hn (hy i hi x))⟩
theorem Kp.toBelow {X:Nat→Prop} {a b:World} {B:Nat} (h:Kp X a b) (hB:B≤a.heap.size) (hx:∀ n,n<B→¬ X n):Below B a b:=⟨h.os,h.tape,h.output,h.size,fun i hi=>h.block i (by omega) (hx i hi)⟩
theorem Kp.blk {X:Nat→Prop} {a b:World} (h:Kp X a b) {n:Nat} {o:Obj} (ho:a.heap[n]?=some o) (hx:¬ X n):b.heap[n]?=some o:=by
 rw [h.block n (Array.getElem?_eq_some_iff.1 ho).1 hx];exact ho
theorem lt_blk {w:World} {b:Nat} {o:Obj} (h:w.heap[b]?=some o):b<w.heap.size:=(Array.getElem?_eq_some_iff.1 h).1
theorem blk_set {w:World} {b o:Nat} {cs:Array Value} {u:Value} {t:TypeId} {f:Nat×Nat} (h:w.heap[b]?=some (.cells cs t f)):(w.setCell ⟨b,o,none⟩ u).heap[b]?=some (.cells (cs.setIfInBounds o u) t f):=by
 have hlt:=lt_blk h
 have h':w.heap[b]=.cells cs t f:=by simpa [Array.getElem?_eq_getElem hlt] using h
 show (w.heap.modify b _)[b]?=_
 rw [Array.getElem?_eq_getElem (by simpa using hlt),Array.getElem_modify_self,h']
 rfl
theorem blk_new (w:World) (o:Obj):(w.alloc o).heap[w.heap.size]?=some o:=heap_alloc_new w o
def RD (w:World) (rb:Nat) (s:ByteArray) (k d:Nat):Prop:=w.heap[rb]?=some (.cells #[.string s,.int .i64 k,.int .i64 d] 245 (0,0))
theorem RD.cells {w:World} {rb:Nat} {s:ByteArray} {k d:Nat} (h:RD w rb s k d) :
  (w.cell? ⟨rb,0,none⟩=some (.string s)∧w.cell? ⟨rb,1,none⟩=some (.int .i64 k)∧w.cell? ⟨rb,2,none⟩=some (.int .i64 d))∧w.frozen? ⟨rb,0,none⟩=false∧w.frozen? ⟨rb,1,none⟩=false∧w.frozen? ⟨rb,2,none⟩=false:=by
 unfold RD at h
 simp [World.cell?,World.frozen?,h]
theorem RD.setAt {w:World} {rb:Nat} {s:ByteArray} {k d:Nat} (h:RD w rb s k d) (k':Nat):RD (w.setCell ⟨rb,1,none⟩ (.int .i64 k')) rb s k' d:=by
 unfold RD at h ⊢
 rw [blk_set h];rfl
theorem RD.setDeep {w:World} {rb:Nat} {s:ByteArray} {k d:Nat} (h:RD w rb s k d) (d':Nat):RD (w.setCell ⟨rb,2,none⟩ (.int .i64 d')) rb s k d':=by
 unfold RD at h ⊢
 rw [blk_set h];rfl
theorem RD.keep {X:Nat→Prop} {w w':World} {rb:Nat} {s:ByteArray} {k d:Nat} (h:RD w rb s k d) (hk:Kp X w w') (hx:¬ X rb):RD w' rb s k d:=hk.blk h hx
theorem RD.below {w w':World} {rb:Nat} {s:ByteArray} {k d:Nat} (h:RD w rb s k d) (hk:Below w.heap.size w w'):RD w' rb s k d:=by
 unfold RD at h ⊢
 rw [hk.block _ (lt_blk h)];exact h
theorem RD.alloc {w:World} {rb:Nat} {s:ByteArray} {k d:Nat} (h:RD w rb s k d) (o:Obj):RD (w.alloc o) rb s k d:=h.below ((Below.refl _ _).alloc (Nat.le_refl _) _)
theorem RD.drew {w:World} {rb:Nat} {s:ByteArray} {k d:Nat} (h:RD w rb s k d):RD w.drew rb s k d:=h
theorem RD.lt {w:World} {rb:Nat} {s:ByteArray} {k d:Nat} (h:RD w rb s k d):rb<w.heap.size:=lt_blk h
abbrev NV (k n:Int) (s:ByteArray) (r t:Rf) (v:Value):Value:=.agg #[.int .i64 k,.int .i64 n,.string s,.int .i64 r.c,.int .i64 r.r,.bool r.fc,.bool r.fr,.int .i64 t.c,.int .i64 t.r,.bool t.fc,.bool t.fr,v]
def cellsL (us:List Value):List Value:=us.flatMap fun u=>u.cells.toList
def Kids (w:World) (P:Nat→Prop) (p:Option Addr) (n c:Nat) (us:List Value):Prop :=
 n=us.length∧((p=p∧n=0∧c=c)∨∃ g o,p=some ⟨g,o,none⟩∧n≤c∧P g∧∀ i x,(cellsL us)[i]?=some x→w.cell? ⟨g,o+i,none⟩=some x)
inductive Nd (w:World) (P:Nat→Prop):Value→T→Prop
 | mk {k n:Int} {s:ByteArray} {r t:Rf} {p:Option Addr} {m c:Nat} {us:List Value} {ts:List T} (hk:Kids w P p m c us) (hl:us.length=ts.length) (hs:∀ (i:Nat) u t',us[i]?=some u→ts[i]?=some t'→Nd w P u t'):Nd w P (NV k n s r t (.slice p m c)) (.nd k n s r t ts)
theorem Kids.mono {w w':World} {P Q:Nat→Prop} {p:Option Addr} {n c:Nat} {us:List Value} (h:Kids w P p n c us) (hw:∀ b,P b→w'.heap[b]?=w.heap[b]?) (hq:∀ b,P b→Q b):Kids w' Q p n c us:=by
 refine⟨h.1,?_⟩
 rcases h.2 with h | ⟨g,o,h1,h2,h3,h4⟩
 ·exact .inl h
 ·exact .inr ⟨g,o,h1,h2,hq g h3,fun i x hx=>by rw [World.cell?_of_block (hw g h3)];exact h4 i x hx⟩
theorem Nd.mono {w w':World} {P Q:Nat→Prop} {v:Value} {t:T} (h:Nd w P v t) (hw:∀ b,P b→w'.heap[b]?=w.heap[b]?) (hq:∀ b,P b→Q b):Nd w' Q v t:=by
 induction h with
 | mk hk hl hs ih=>exact .mk (hk.mono hw hq) hl fun i u t' h1 h2=>ih i u t' h1 h2
abbrev Own (w w':World):Nat→Prop:=fun b=>w.heap.size≤b∧b<w'.heap.size
theorem Nd.next {X:Nat→Prop} {w a b:World} {v:Value} {t:T} (h:Nd a (Own w a) v t) (hk:Kp X a b) (hx:∀ n,X n→n<w.heap.size∨a.heap.size≤n):Nd b (Own w b) v t :=
 h.mono (fun n hn=>hk.block n hn.2 (fun x=>by rcases hx n x with h1 | h1<;>have:=hn.1<;>have:=hn.2<;>omega)) (fun n hn=>⟨hn.1,Nat.lt_of_lt_of_le hn.2 hk.size⟩)
theorem Nd.leaf {w:World} {P:Nat→Prop} {k n:Int} {s:ByteArray} {r t:Rf}:Nd w P (NV k n s r t (.slice none 0 0)) (.nd k n s r t []):=.mk (us:=[]) ⟨rfl,.inl ⟨rfl,rfl,rfl⟩⟩ rfl (fun i u t' h1 h2=>by simp at h2)
abbrev flt (k:Nat) (c:Int):Value:=.iface 202 (.agg #[.int .i64 k,.int .i64 c])
def Out (w:World) (rb:Nat) (s:ByteArray) (d:Nat) (r:Rs T) (e:Ending) (w':World):Prop :=
 match r with
 | .ok t k=>∃ v,e=.returned v∧Nd w' (Own w w') v t∧RD w' rb s k d∧Kp (·=rb) w w'
 | .err k c=>e=.panicked [{ v:=flt k c,recovered:=false }]∧Kp (·=rb) w w'
end Go.Proofs.YtgifkepklnhddaaGreatDoor.fm
namespace Go.Proofs.YtgifkepklnhddaaGreatDoor.fm
open Go.RowKit
theorem next_end (rb k d:Nat) (s:ByteArray) (w:World) (h:RD w rb s k d) (hk:k=s.size) :
  Calls Tryz.prog 202 #[ptr rb] w fun e w'=>e=.returned (.int .u8 0)∧Below w.heap.size w w':=by
 subst hk
 obtain⟨⟨c0,c1,c2⟩,f0,f1,f2⟩:=h.cells
 go_enter Tryz.func202,Tryz.ntmps202
 go_wp2
 go_region
 go_wp2
 go_ret
 exact⟨rfl,(Below.refl _ _).drew⟩
theorem next_in (rb k d:Nat) (s:ByteArray) (w:World) (h:RD w rb s k d) (hk:k<s.size) :
  Calls Tryz.prog 202 #[ptr rb] w fun e w'=>e=.returned (.int .u8 (nx s k))∧Below w.heap.size w w':=by
 obtain⟨⟨c0,c1,c2⟩,f0,f1,f2⟩:=h.cells
 have hb:((k:Int) == (s.size:Int))=false:=by rw [beq_eq_false_iff_ne];omega
 rw [nx_in hk]
 go_enter Tryz.func202,Tryz.ntmps202
 go_wp2
 go_region
 go_wp2
 go_region
 go_wp2
 go_ret
 exact⟨rfl,(Below.refl _ _).drew.drew⟩
theorem next_any (rb k d:Nat) (s:ByteArray) (w:World) (h:RD w rb s k d) (hk:k≤s.size) :
  Calls Tryz.prog 202 #[ptr rb] w fun e w'=>e=.returned (.int .u8 (nx s k))∧Below w.heap.size w w':=by
 rcases Nat.lt_or_ge k s.size with h1 | h1
 ·exact next_in rb k d s w h h1
 ·rw [nx_out (by omega)];exact next_end rb k d s w h (by omega)
theorem rest_any (rb k d:Nat) (s:ByteArray) (w:World) (h:RD w rb s k d) (hk:k≤s.size) :
  Calls Tryz.prog 224 #[ptr rb] w fun e w'=>e=.returned (.string (s.extract k s.size))∧Below w.heap.size w w':=by
 obtain⟨⟨c0,c1,c2⟩,f0,f1,f2⟩:=h.cells
 go_enter Tryz.func224,Tryz.ntmps224
 go_wp2
 go_region
 go_wp2
 go_ret
 exact⟨rfl,(Below.refl _ _).drew⟩
theorem fault_any (rb k d:Nat) (c:Int) (s:ByteArray) (w:World) (h:RD w rb s k d) :
  Calls Tryz.prog 175 #[ptr rb,.int .i64 c] w fun e w'=>e=.returned (.agg #[.int .i64 k,.int .i64 c])∧Below w.heap.size w w':=by
 obtain⟨⟨c0,c1,c2⟩,f0,f1,f2⟩:=(h.alloc (.cells #[.int .i64 0,.int .i64 0] 202)).cells
 go_enter Tryz.func175,Tryz.ntmps175
 go_wp2
 exact bodyPost_ret (v:=.agg #[.int .i64 k,.int .i64 c]) (by simp [results,Tryz.results175,go_sem]) rfl ⟨rfl,by (repeat (first | exact Below.refl _ _ | assumption | (refine Below.setCell ?_ (by first | omega | (simp<;>omega)) _) | (refine Below.alloc ?_ (by first | omega | (simp<;>omega)) _) | (refine Below.drew ?_)))⟩
theorem blanks_any (rb k d:Nat) (s:ByteArray) (w:World) (h:RD w rb s k d) (hk:k≤s.size) (hs:s.size≤140737488355328) :
  Calls Tryz.prog 177 #[ptr rb] w fun e w'=>e=.returned (.tuple #[])∧RD w' rb s (skip s k) d∧Kp (·=rb) w w':=by
 go_enter Tryz.func177,Tryz.ntmps177
 go_wp2_with fail
 go_loopw [] (fun wr=>∃ j,j≤s.size∧skip s j=skip s k∧RD wr rb s j d∧Kp (·=rb) w wr) (fun wr=>s.size - (((wr.cell? ⟨rb,1,none⟩).map intOf).getD 0).toNat)
 case atStart=>exact⟨k,hk,rfl,h,Kp.refl _ _⟩
 case round =>
  obtain⟨j,hj,hsk,hR,hK⟩:=hrel
  have HS:Hid (skip s j=skip s k):=hsk
  have HR:=hR
  clear hsk
  go_wp2_with fail
  refine (next_any rb j d s _ hR hj).mono ?_
  rintro e w1 ⟨rfl,hb⟩
  have hR1:=hR.below hb
  have hK1:=hK.below hb
  obtain⟨⟨c0,c1,c2⟩,f0,f1,f2⟩:=hR1.cells
  by_cases h32:nx s j=32
  ·have hlt:=nx_lt (s:=s) (k:=j) (by omega)
   have hq:(((nx s j:Nat):Int) == 32)=true:=by rw [beq_iff_eq];omega
   go_wp2_with fail
   refine⟨⟨j+1,hlt,by rw [← HS.out,skip_blank h32],hR1.setAt (j+1),hK1.setCell (Or.inl rfl) _⟩,?_⟩
   have e1:=(hR1.setAt (j+1)).cells.1.2.1
   have e2:=HR.cells.1.2.1
   rw [show ((j+1:Nat):Int)=(j:Int)+1 from by omega] at e1
   rw [e1,e2]
   simp [intOf]
   omega
  ·have hq:(((nx s j:Nat):Int) == 32)=false:=by rw [beq_eq_false_iff_ne];omega
   go_wp2_with fail
   go_end0
   exact⟨rfl,by rw [← HS.out,skip_else h32];exact hR1,hK1⟩
theorem take_yes (rb k d c:Nat) (s:ByteArray) (w:World) (h:RD w rb s k d) (hk:k≤s.size) (hs:s.size≤140737488355328) (hc:c≠0) (hx:nx s (skip s k)=c) :
  Calls Tryz.prog 247 #[ptr rb,.int .u8 c] w fun e w'=>e=.returned (.bool true)∧RD w' rb s (skip s k+1) d∧Kp (·=rb) w w':=by
 have hk2:=(skip_spec s k).2.2 hk
 have hlt:=nx_lt (s:=s) (k:=skip s k) (by omega)
 have hq:(((nx s (skip s k):Nat):Int) != (c:Int))=false:=by rw [bne_eq_false_iff_eq];omega
 clear hx
 go_enter Tryz.func247,Tryz.ntmps247
 go_wp2_with fail
 refine (blanks_any rb k d s _ h hk hs).mono ?_
 rintro e w1 ⟨rfl,hR,hK⟩
 go_wp2_with fail
 refine (next_any rb _ d s _ hR hk2).mono ?_
 rintro e w2 ⟨rfl,hb⟩
 have hR1:=hR.below hb
 have hK1:=hK.below hb
 obtain⟨⟨c0,c1,c2⟩,f0,f1,f2⟩:=hR1.cells
 go_wp2_with fail
 go_ret
 exact⟨rfl,hR1.setAt (skip s k+1),hK1.setCell (Or.inl rfl) _⟩
theorem take_no (rb k d c:Nat) (s:ByteArray) (w:World) (h:RD w rb s k d) (hk:k≤s.size) (hs:s.size≤140737488355328) (hx:nx s (skip s k)≠c) :
  Calls Tryz.prog 247 #[ptr rb,.int .u8 c] w fun e w'=>e=.returned (.bool false)∧RD w' rb s (skip s k) d∧Kp (·=rb) w w':=by
 have hk2:=(skip_spec s k).2.2 hk
 have hq:(((nx s (skip s k):Nat):Int) != (c:Int))=true:=by rw [bne_iff_ne];omega
 clear hx
 go_enter Tryz.func247,Tryz.ntmps247
 go_wp2_with fail
 refine (blanks_any rb k d s _ h hk hs).mono ?_
 rintro e w1 ⟨rfl,hR,hK⟩
 go_wp2_with fail
 refine (next_any rb _ d s _ hR hk2).mono ?_
 rintro e w2 ⟨rfl,hb⟩
 have hR1:=hR.below hb
 have hK1:=hK.below hb
 go_wp2_with fail
 go_ret
 exact⟨rfl,hR1,hK1⟩
theorem mustTake_yes (rb k d c:Nat) (s:ByteArray) (w:World) (h:RD w rb s k d) (hk:k≤s.size) (hs:s.size≤140737488355328) (hc:c≠0) (hx:nx s (skip s k)=c) :
  Calls Tryz.prog 234 #[ptr rb,.int .u8 c] w fun e w'=>e=.returned (.tuple #[])∧RD w' rb s (skip s k+1) d∧Kp (·=rb) w w':=by
 have HX:Hid (nx s (skip s k)=c):=hx
 clear hx
 go_enter Tryz.func234,Tryz.ntmps234
 go_wp2_with fail
 refine (take_yes rb k d c s _ h hk hs hc HX.out).mono ?_
 rintro e w1 ⟨rfl,hR,hK⟩
 go_wp2_with fail
 go_end0
 exact⟨rfl,hR,hK⟩
theorem mustTake_no (rb k d c:Nat) (s:ByteArray) (w:World) (h:RD w rb s k d) (hk:k≤s.size) (hs:s.size≤140737488355328) (hx:nx s (skip s k)≠c) :
  Calls Tryz.prog 234 #[ptr rb,.int .u8 c] w fun e w'=>e=.panicked [{ v:=flt (skip s k) 2,recovered:=false }]∧Kp (·=rb) w w':=by
 have HX:Hid (¬ nx s (skip s k)=c):=hx
 clear hx
 go_enter Tryz.func234,Tryz.ntmps234
 go_wp2_with fail
 refine (take_no rb k d c s _ h hk hs HX.out).mono ?_
 rintro e w1 ⟨rfl,hR,hK⟩
 go_wp2_with fail
 refine (fault_any rb _ d 2 s _ hR).mono ?_
 rintro e w2 ⟨rfl,hb⟩
 go_wp2_with fail
 exact⟨rfl,rfl,hK.below hb⟩
theorem retB {a b:Bool} (h:a=b):Ending.returned (.bool a)=.returned (.bool b):=by rw [h]
theorem isOfToken_any (c:Nat) (w:World):Calls Tryz.prog 249 #[.int .u8 c] w fun e w'=>e=.returned (.bool (isW c))∧w'=w:=by
 go_enter Tryz.func249,Tryz.ntmps249
 go_wp2
 all_goals
  go_ret
  refine⟨retB ?_,rfl⟩
  rw [Bool.eq_iff_iff]
  simp [isW]
  omega
theorem tokEnd_step {s:ByteArray} {k j:Nat} (h:tokEnd s j=tokEnd s k) (hw:isW (nx s j)=true):tokEnd s (j+1)=tokEnd s k:=by rw [← h,tok_in hw]
set_option maxHeartbeats 1000000 in
theorem token_any (rb k d:Nat) (s:ByteArray) (w:World) (h:RD w rb s k d) (hk:k≤s.size) (hs:s.size≤140737488355328) :
  Calls Tryz.prog 236 #[ptr rb] w fun e w'=>e=.returned (.string (tok s k))∧Below w.heap.size w w':=by
 have ht:=tok_spec s k
 have hte:=ht.2.2.1 hk
 have hlo:=ht.1
 clear ht
 obtain⟨⟨c0,c1,c2⟩,f0,f1,f2⟩:=h.cells
 unfold tok
 go_enter Tryz.func236,Tryz.ntmps236
 go_wp2_with fail
 go_loopw [3] (fun i wr=>∃ j:Nat,j≤s.size∧k≤j∧i=.int .i64 j∧tokEnd s j=tokEnd s k∧Below w.heap.size w wr) (fun i _=>s.size - (intOf i).toNat)
 case atStart=>exact⟨k,hk,Nat.le_refl _,rfl,rfl,Below.refl _ _⟩
 case round =>
  obtain⟨j,hj,hkj,rfl,hsk,hB⟩:=hrel
  have HS:Hid (tokEnd s j=tokEnd s k):=hsk
  have hR:=h.below hB
  clear hsk c0 c1 c2 f0 f1 f2
  obtain⟨⟨c0,c1,c2⟩,f0,f1,f2⟩:=hR.cells
  by_cases hlt:j<s.size
  ·have hnx:=nx_in hlt
   go_wp2_with fail
   rw [← hnx]
   refine (isOfToken_any _ _).mono ?_
   rintro e w2 ⟨rfl,rfl⟩
   cases hw:isW (nx s j)
   ·go_wp2_with fail
    go_region
    go_wp2
    go_ret
    exact⟨by rw [← HS.out,tok_out hw];rfl,hB.drew⟩
   ·go_wp2_with fail
    exact⟨⟨j+1,hlt,by omega,rfl,tokEnd_step HS.out hw,hB⟩,by simp [intOf];omega⟩
  ·have hw:isW (nx s j)=false:=by rw [nx_out hlt];rfl
   have HT:=tok_out hw
   have HW:Hid (tokEnd s j=j):=HT
   clear hw HT
   go_wp2_with fail
   go_region
   go_wp2
   go_ret
   exact⟨by rw [← HS.out,HW.out];rfl,hB.drew⟩
theorem slPrefix_any (s p:ByteArray) (w:World):Calls Tryz.prog 149 #[.string s,.string p] w fun e w'=>e=.returned (.bool (Lib.hasPrefix s.data.toList p.data.toList))∧w'=w:=by
 rw [← Lib.hasPrefix_raw]
 by_cases h:p.size≤s.size
 ·go_enter Tryz.func149,Tryz.ntmps149
  go_wp2
  go_ret
  refine⟨retB ?_,rfl⟩
  simp [h]
 ·go_enter Tryz.func149,Tryz.ntmps149
  go_wp2
  go_ret
  refine⟨retB ?_,rfl⟩
  simp [h]
theorem prefix_any (s p:ByteArray) (w:World):Calls Tryz.prog 127 #[.string s,.string p] w fun e w'=>e=.returned (.bool (Lib.hasPrefix s.data.toList p.data.toList))∧w'=w:=by
 go_enter Tryz.func127,Tryz.ntmps127
 go_wp2_with fail
 refine (slPrefix_any s p _).mono ?_
 rintro e w1 ⟨rfl,rfl⟩
 go_wp2_with fail
 go_ret
 exact⟨rfl,rfl⟩
theorem ext_list (s:ByteArray) (k:Nat):(s.extract k s.size).data.toList=s.data.toList.drop k:=by
 simp
 exact List.take_of_length_le (by simp)
theorem pre_extract (s:ByteArray) (k:Nat) (p:ByteArray):Lib.hasPrefix (s.extract k s.size).data.toList p.data.toList=pre s k p.data.toList:=by
 unfold pre Lib.hasPrefix
 rw [ext_list]
theorem pre_one (s:ByteArray) (k c:Nat) (hc:c<256) (h0:c≠0):pre s k [UInt8.ofNat c]=decide (nx s k=c):=by
 unfold pre nx
 by_cases h:k<s.size
 ·rw [dif_pos h,List.drop_eq_getElem_cons (by simpa using h)]
  rw [Bool.eq_iff_iff]
  simp [List.isPrefixOf]
  constructor
  ·intro e;rw [show s[k]=s.data[k] from rfl,← e];rw [UInt8.toNat_ofNat'];omega
  ·intro e;rw [← e];simp;rfl
 ·rw [dif_neg h,List.drop_eq_nil_of_le (by simp;omega)]
  simp [List.isPrefixOf]
  omega
theorem constant_any (s:ByteArray) (w:World):Calls Tryz.prog 91 #[.string s] w fun e w'=>e=.returned (.bool (!decide (nx s 0=61)))∧w'=w:=by
 have hp:Lib.hasPrefix s.data.toList (⟨#[61]⟩:ByteArray).data.toList=decide (nx s 0=61):=by
  rw [← pre_one s 0 61 (by omega) (by omega)]
  rfl
 have HP:Hid (Lib.hasPrefix s.data.toList (⟨#[61]⟩:ByteArray).data.toList=decide (nx s 0=61)):=hp
 clear hp
 go_enter Tryz.func91,Tryz.ntmps91
 go_wp2_with fail
 refine (prefix_any s _ _).mono ?_
 rintro e w1 ⟨rfl,rfl⟩
 rw [HP.out]
 go_wp2_with fail
 go_ret
 exact⟨rfl,rfl⟩
theorem tok_size (s:ByteArray) (k:Nat) (hk:k≤s.size):(tok s k).size=tokEnd s k - k:=by
 unfold tok
 have:=(tok_spec s k).2.2.1 hk
 rw [ByteArray.size_extract];omega
theorem behind_any (rb k d c:Nat) (s:ByteArray) (w:World) (h:RD w rb s k d) (hk:k≤s.size) (hc:c<256) (h0:c≠0) :
  Calls Tryz.prog 237 #[ptr rb,.string (tok s k),.string ⟨#[UInt8.ofNat c]⟩] w fun e w'=>e=.returned (.bool (decide (nx s (tokEnd s k)=c)))∧Below w.heap.size w w':=by
 have hz:=tok_size s k hk
 have ht:=tok_spec s k
 have hte:=ht.2.2.1 hk
 have hlo:=ht.1
 have hp:Lib.hasPrefix ((s.extract k s.size).extract (tok s k).size (s.extract k s.size).size).data.toList (⟨#[UInt8.ofNat c]⟩:ByteArray).data.toList=decide (nx s (tokEnd s k)=c):=by
  rw [← pre_one s _ c hc h0,hz]
  unfold pre Lib.hasPrefix
  rw [ext_list,ext_list,List.drop_drop,show k+(tokEnd s k - k)=tokEnd s k from by omega]
 have hle:(tok s k).size≤(s.extract k s.size).size:=by rw [hz,ByteArray.size_extract];omega
 have HP:Hid (Lib.hasPrefix ((s.extract k s.size).extract (tok s k).size (s.extract k s.size).size).data.toList (⟨#[UInt8.ofNat c]⟩:ByteArray).data.toList=decide (nx s (tokEnd s k)=c)):=hp
 clear hp hz ht
 generalize tok s k=tk at *
 go_enter Tryz.func237,Tryz.ntmps237
 go_wp2_with fail
 refine (rest_any rb k d s _ h hk).mono ?_
 rintro e w1 ⟨rfl,hb⟩
 generalize s.extract k s.size=rs at *
 go_wp2_with fail
 refine (prefix_any _ _ _).mono ?_
 rintro e w2 ⟨rfl,rfl⟩
 rw [HP.out]
 go_wp2_with fail
 go_ret
 exact⟨rfl,hb⟩
end Go.Proofs.YtgifkepklnhddaaGreatDoor.fm
namespace Go.Proofs.YtgifkepklnhddaaGreatDoor.fm
open Go.RowKit
abbrev N12 (k n:Int) (s:ByteArray) (r t:Rf) (v:Value):Array Value:=#[.int .i64 k,.int .i64 n,.string s,.int .i64 r.c,.int .i64 r.r,.bool r.fc,.bool r.fr,.int .i64 t.c,.int .i64 t.r,.bool t.fc,.bool t.fr,v]
abbrev NZ:Array Value:=#[.int .i64 0,.int .i64 0,.string nul,.int .i64 0,.int .i64 0,.bool false,.bool false,.int .i64 0,.int .i64 0,.bool false,.bool false,.slice none 0 0]
theorem cells12 {w:World} {b:Nat} {a0 a1 a2 a3 a4 a5 a6 a7 a8 a9 a10 a11:Value} {t:TypeId} (h:w.heap[b]?=some (.cells #[a0,a1,a2,a3,a4,a5,a6,a7,a8,a9,a10,a11] t (0,0))) :
  (w.cell? ⟨b,0,none⟩=some a0∧w.cell? ⟨b,1,none⟩=some a1∧w.cell? ⟨b,2,none⟩=some a2∧w.cell? ⟨b,3,none⟩=some a3∧w.cell? ⟨b,4,none⟩=some a4∧w.cell? ⟨b,5,none⟩=some a5∧w.cell? ⟨b,6,none⟩=some a6∧w.cell? ⟨b,7,none⟩=some a7∧w.cell? ⟨b,8,none⟩=some a8∧w.cell? ⟨b,9,none⟩=some a9∧w.cell? ⟨b,10,none⟩=some a10∧w.cell? ⟨b,11,none⟩=some a11)∧∀ o,w.frozen? ⟨b,o,none⟩=false:=by
 refine⟨by simp [World.cell?,h],fun o=>by simp [World.frozen?,h]⟩
theorem set12 {w:World} {b:Nat} {a0 a1 a2 a3 a4 a5 a6 a7 a8 a9 a10 a11 u0 u1 u2 u3 u4 u5 u6 u7 u8 u9 u10 u11:Value} {t:TypeId} (h:w.heap[b]?=some (.cells #[a0,a1,a2,a3,a4,a5,a6,a7,a8,a9,a10,a11] t (0,0))) :
  ((((((((((((w.setCell ⟨b,0,none⟩ u0).setCell ⟨b,1,none⟩ u1).setCell ⟨b,2,none⟩ u2).setCell ⟨b,3,none⟩ u3).setCell ⟨b,4,none⟩ u4).setCell ⟨b,5,none⟩ u5).setCell ⟨b,6,none⟩ u6).setCell ⟨b,7,none⟩ u7).setCell ⟨b,8,none⟩ u8).setCell ⟨b,9,none⟩ u9).setCell ⟨b,10,none⟩ u10).setCell ⟨b,11,none⟩ u11).heap[b]?=some (.cells #[u0,u1,u2,u3,u4,u5,u6,u7,u8,u9,u10,u11] t (0,0)):=by
 have h0:(w.setCell ⟨b,0,none⟩ u0).heap[b]?=some (.cells #[u0,a1,a2,a3,a4,a5,a6,a7,a8,a9,a10,a11] t (0,0)):=by rw [blk_set h];rfl
 have h1:((w.setCell ⟨b,0,none⟩ u0).setCell ⟨b,1,none⟩ u1).heap[b]?=some (.cells #[u0,u1,a2,a3,a4,a5,a6,a7,a8,a9,a10,a11] t (0,0)):=by rw [blk_set h0];rfl
 have h2:(((w.setCell ⟨b,0,none⟩ u0).setCell ⟨b,1,none⟩ u1).setCell ⟨b,2,none⟩ u2).heap[b]?=some (.cells #[u0,u1,u2,a3,a4,a5,a6,a7,a8,a9,a10,a11] t (0,0)):=by rw [blk_set h1];rfl
 have h3:((((w.setCell ⟨b,0,none⟩ u0).setCell ⟨b,1,none⟩ u1).setCell ⟨b,2,none⟩ u2).setCell ⟨b,3,none⟩ u3).heap[b]?=some (.cells #[u0,u1,u2,u3,a4,a5,a6,a7,a8,a9,a10,a11] t (0,0)):=by rw [blk_set h2];rfl
 have h4:(((((w.setCell ⟨b,0,none⟩ u0).setCell ⟨b,1,none⟩ u1).setCell ⟨b,2,none⟩ u2).setCell ⟨b,3,none⟩ u3).setCell ⟨b,4,none⟩ u4).heap[b]?=some (.cells #[u0,u1,u2,u3,u4,a5,a6,a7,a8,a9,a10,a11] t (0,0)):=by rw [blk_set h3];rfl
 have h5:((((((w.setCell ⟨b,0,none⟩ u0).setCell ⟨b,1,none⟩ u1).setCell ⟨b,2,none⟩ u2).setCell ⟨b,3,none⟩ u3).setCell ⟨b,4,none⟩ u4).setCell ⟨b,5,none⟩ u5).heap[b]?=some (.cells #[u0,u1,u2,u3,u4,u5,a6,a7,a8,a9,a10,a11] t (0,0)):=by rw [blk_set h4];rfl
 have h6:(((((((w.setCell ⟨b,0,none⟩ u0).setCell ⟨b,1,none⟩ u1).setCell ⟨b,2,none⟩ u2).setCell ⟨b,3,none⟩ u3).setCell ⟨b,4,none⟩ u4).setCell ⟨b,5,none⟩ u5).setCell ⟨b,6,none⟩ u6).heap[b]?=some (.cells #[u0,u1,u2,u3,u4,u5,u6,a7,a8,a9,a10,a11] t (0,0)):=by rw [blk_set h5];rfl
 have h7:((((((((w.setCell ⟨b,0,none⟩ u0).setCell ⟨b,1,none⟩ u1).setCell ⟨b,2,none⟩ u2).setCell ⟨b,3,none⟩ u3).setCell ⟨b,4,none⟩ u4).setCell ⟨b,5,none⟩ u5).setCell ⟨b,6,none⟩ u6).setCell ⟨b,7,none⟩ u7).heap[b]?=some (.cells #[u0,u1,u2,u3,u4,u5,u6,u7,a8,a9,a10,a11] t (0,0)):=by rw [blk_set h6];rfl
 have h8:(((((((((w.setCell ⟨b,0,none⟩ u0).setCell ⟨b,1,none⟩ u1).setCell ⟨b,2,none⟩ u2).setCell ⟨b,3,none⟩ u3).setCell ⟨b,4,none⟩ u4).setCell ⟨b,5,none⟩ u5).setCell ⟨b,6,none⟩ u6).setCell ⟨b,7,none⟩ u7).setCell ⟨b,8,none⟩ u8).heap[b]?=some (.cells #[u0,u1,u2,u3,u4,u5,u6,u7,u8,a9,a10,a11] t (0,0)):=by rw [blk_set h7];rfl
 have h9:((((((((((w.setCell ⟨b,0,none⟩ u0).setCell ⟨b,1,none⟩ u1).setCell ⟨b,2,none⟩ u2).setCell ⟨b,3,none⟩ u3).setCell ⟨b,4,none⟩ u4).setCell ⟨b,5,none⟩ u5).setCell ⟨b,6,none⟩ u6).setCell ⟨b,7,none⟩ u7).setCell ⟨b,8,none⟩ u8).setCell ⟨b,9,none⟩ u9).heap[b]?=some (.cells #[u0,u1,u2,u3,u4,u5,u6,u7,u8,u9,a10,a11] t (0,0)):=by rw [blk_set h8];rfl
 have h10:(((((((((((w.setCell ⟨b,0,none⟩ u0).setCell ⟨b,1,none⟩ u1).setCell ⟨b,2,none⟩ u2).setCell ⟨b,3,none⟩ u3).setCell ⟨b,4,none⟩ u4).setCell ⟨b,5,none⟩ u5).setCell ⟨b,6,none⟩ u6).setCell ⟨b,7,none⟩ u7).setCell ⟨b,8,none⟩ u8).setCell ⟨b,9,none⟩ u9).setCell ⟨b,10,none⟩ u10).heap[b]?=some (.cells #[u0,u1,u2,u3,u4,u5,u6,u7,u8,u9,u10,a11] t (0,0)):=by rw [blk_set h9];rfl
 have h11:((((((((((((w.setCell ⟨b,0,none⟩ u0).setCell ⟨b,1,none⟩ u1).setCell ⟨b,2,none⟩ u2).setCell ⟨b,3,none⟩ u3).setCell ⟨b,4,none⟩ u4).setCell ⟨b,5,none⟩ u5).setCell ⟨b,6,none⟩ u6).setCell ⟨b,7,none⟩ u7).setCell ⟨b,8,none⟩ u8).setCell ⟨b,9,none⟩ u9).setCell ⟨b,10,none⟩ u10).setCell ⟨b,11,none⟩ u11).heap[b]?=some (.cells #[u0,u1,u2,u3,u4,u5,u6,u7,u8,u9,u10,u11] t (0,0)):=by rw [blk_set h10];rfl
 exact h11
theorem kp12 (w:World) (b:Nat) {u0 u1 u2 u3 u4 u5 u6 u7 u8 u9 u10 u11:Value} :
  Kp (·=b) w ((((((((((((w.setCell ⟨b,0,none⟩ u0).setCell ⟨b,1,none⟩ u1).setCell ⟨b,2,none⟩ u2).setCell ⟨b,3,none⟩ u3).setCell ⟨b,4,none⟩ u4).setCell ⟨b,5,none⟩ u5).setCell ⟨b,6,none⟩ u6).setCell ⟨b,7,none⟩ u7).setCell ⟨b,8,none⟩ u8).setCell ⟨b,9,none⟩ u9).setCell ⟨b,10,none⟩ u10).setCell ⟨b,11,none⟩ u11):=by
 exact ((((((((((((Kp.refl (·=b) w).setCell (Or.inl rfl) u0).setCell (Or.inl rfl) u1).setCell (Or.inl rfl) u2).setCell (Or.inl rfl) u3).setCell (Or.inl rfl) u4).setCell (Or.inl rfl) u5).setCell (Or.inl rfl) u6).setCell (Or.inl rfl) u7).setCell (Or.inl rfl) u8).setCell (Or.inl rfl) u9).setCell (Or.inl rfl) u10).setCell (Or.inl rfl) u11
theorem fin12 {w:World} {b:Nat} {a0 a1 a2 a3 a4 a5 a6 a7 a8 a9 a10 a11 u0 u1 u2 u3 u4 u5 u6 u7 u8 u9 u10 u11:Value} {t:TypeId} (h:w.heap[b]?=some (.cells #[a0,a1,a2,a3,a4,a5,a6,a7,a8,a9,a10,a11] t (0,0))) {Q:World→Prop}
  (hq:∀ w2,w2.heap[b]?=some (.cells #[u0,u1,u2,u3,u4,u5,u6,u7,u8,u9,u10,u11] t (0,0))→Kp (·=b) w w2→Q w2):Q ((((((((((((w.setCell ⟨b,0,none⟩ u0).setCell ⟨b,1,none⟩ u1).setCell ⟨b,2,none⟩ u2).setCell ⟨b,3,none⟩ u3).setCell ⟨b,4,none⟩ u4).setCell ⟨b,5,none⟩ u5).setCell ⟨b,6,none⟩ u6).setCell ⟨b,7,none⟩ u7).setCell ⟨b,8,none⟩ u8).setCell ⟨b,9,none⟩ u9).setCell ⟨b,10,none⟩ u10).setCell ⟨b,11,none⟩ u11):=hq _ (set12 h) (kp12 w b)
theorem kpset (w:World) (b o:Nat) (u:Value):Kp (·=b) w (w.setCell ⟨b,o,none⟩ u):=(Kp.refl (·=b) w).setCell (Or.inl rfl) u
theorem cell_blk {w:World} {b o:Nat} {cs:Array Value} {t:TypeId} {f:Nat×Nat} (h:w.heap[b]?=some (.cells cs t f)):w.cell? ⟨b,o,none⟩=cs[o]?:=by simp [World.cell?,h]
theorem Kids.made {w:World} {P:Nat→Prop} {g n cap:Nat} {cs:Array Value} {t:TypeId} {us:List Value} (h:w.heap[g]?=some (.cells cs t (0,0))) (hn:n=us.length) (hc:∀ (i:Nat) x,(cellsL us)[i]?=some x→cs[i]?=some x) (hg:P g) (hcap:n≤cap):Kids w P (some ⟨g,0,none⟩) n cap us :=
 ⟨hn,.inr ⟨g,0,rfl,hcap,hg,fun i x hx=>by rw [Nat.zero_add,cell_blk h];exact hc i x hx⟩⟩
theorem Nd.one {w:World} {P:Nat→Prop} {k n:Int} {s:ByteArray} {r t:Rf} {g cap:Nat} {cs:Array Value} {ty:TypeId} {u:T} (h:w.heap[g]?=some (.cells cs ty (0,0))) (hg:P g) (hcap:1≤cap) (hu:Nd w P (.agg cs) u) :
  Nd w P (NV k n s r t (.slice (some ⟨g,0,none⟩) 1 cap)) (.nd k n s r t [u]) :=
 .mk (us:=[.agg cs]) (Kids.made (us:=[.agg cs]) h rfl (fun i x hx=>by simpa [cellsL,Value.cells] using hx) hg hcap) rfl (fun i u' t' h1 h2=>by
  cases i with
  | zero=>simp at h1 h2;subst h1;subst h2;exact hu
  | succ i=>simp at h1)
theorem cells1 {w:World} {b:Nat} {a0:Value} {t:TypeId} (h:w.heap[b]?=some (.cells #[a0] t (0,0))):w.cell? ⟨b,0,none⟩=some a0∧w.frozen? ⟨b,0,none⟩=false:=by simp [World.cell?,World.frozen?,h]
def OutN (w:World) (rb nb:Nat) (s:ByteArray) (d:Nat) (r:Rs T) (e:Ending) (w':World):Prop :=
 match r with
 | .ok t k=>e=.returned (.tuple #[])∧RD w' rb s k d∧(∃ cs,w'.heap[nb]?=some (.cells cs 57 (0,0))∧Nd w' (Own w w') (.agg cs) t)∧Kp (fun b=>b=rb∨b=nb) w w'
 | .err k c=>e=.panicked [{ v:=flt k c,recovered:=false }]∧Kp (fun b=>b=rb∨b=nb) w w'
theorem deeper107_full (rb nb k:Nat) (pb:Nat) (s:ByteArray) (w:World) (h:RD w rb s k 30) :
  Calls Tryz.prog 231 #[ptr rb,.func (.func 232) #[] #[ptr pb,ptr nb]] w fun e w'=>e=.panicked [{ v:=flt k 4,recovered:=false }]∧Kp (fun b=>b=rb∨b=nb) w w':=by
 obtain⟨⟨c0,c1,c2⟩,f0,f1,f2⟩:=h.cells
 go_enter Tryz.func231,Tryz.ntmps231
 go_wp2_with fail
 refine (fault_any rb _ 30 4 s _ h).mono ?_
 rintro e w2 ⟨rfl,hb⟩
 go_wp2_with fail
 exact⟨rfl,rfl,(Kp.refl _ _).below hb⟩
theorem deeper107_go (rb nb k d:Nat) (pb:Nat) (s:ByteArray) (w:World) (h:RD w rb s k d) (hd:d<30) (r:Rs T)
  (hin:Calls Tryz.prog 232 #[ptr pb,ptr nb] (w.setCell ⟨rb,2,none⟩ (.int .i64 ((d+1:Nat):Int))) (OutN (w.setCell ⟨rb,2,none⟩ (.int .i64 ((d+1:Nat):Int))) rb nb s (d+1) r)) (hne:nb≠rb) :
  Calls Tryz.prog 231 #[ptr rb,.func (.func 232) #[] #[ptr pb,ptr nb]] w (OutN w rb nb s d r):=by
 obtain⟨⟨c0,c1,c2⟩,f0,f1,f2⟩:=h.cells
 have hq:((d:Int) == 30)=false:=by rw [beq_eq_false_iff_ne];omega
 have HI:=hin
 have HIN:Hid (Calls Tryz.prog 232 #[ptr pb,ptr nb] (w.setCell ⟨rb,2,none⟩ (.int .i64 ((d+1:Nat):Int))) (OutN (w.setCell ⟨rb,2,none⟩ (.int .i64 ((d+1:Nat):Int))) rb nb s (d+1) r)):=hin
 clear hin HI
 go_enter Tryz.func231,Tryz.ntmps231
 go_wp2_with fail
 rw [show ((d:Int)+1)=((d+1:Nat):Int) from by omega]
 have hsz:(w.setCell ⟨rb,2,none⟩ (.int .i64 ((d+1:Nat):Int))).heap.size=w.heap.size:=by simp [World.setCell]
 have hK0:Kp (fun b=>b=rb∨b=nb) w (w.setCell ⟨rb,2,none⟩ (.int .i64 ((d+1:Nat):Int))):=(Kp.refl _ _).setCell (Or.inl (Or.inl rfl)) _
 refine HIN.out.mono ?_
 clear HIN
 generalize (w.setCell ⟨rb,2,none⟩ (.int .i64 ((d+1:Nat):Int)))=w0 at *
 intro e w1 ho
 cases r with
 | ok t k' =>
  obtain⟨rfl,hR,⟨cs,hcs,hN⟩,hK⟩:=ho
  clear c0 c1 c2 f0 f1 f2
  obtain⟨⟨c0,c1,c2⟩,f0,f1,f2⟩:=hR.cells
  go_wp2_with fail
  go_end0
  refine⟨rfl,hR.setDeep d,⟨cs,?_,?_⟩,?_⟩
  ·rw [Below.heap_setCell _ _ _ _ hne];exact hcs
  ·have:=hN.next (X:=fun b=>b=rb) (b:=w1.setCell ⟨rb,2,none⟩ (.int .i64 (d:Int))) (kpset w1 rb 2 _) (fun n e=>by left;rw [e,hsz];exact h.lt)
   exact this.mono (fun _ _=>rfl) (fun n hn=>⟨by have:=hn.1;omega,hn.2⟩)
  ·exact (hK0.trans hK (fun n e=>.inl e)).setCell (Or.inl (Or.inl rfl)) _
 | err k' c =>
  obtain⟨rfl,hK⟩:=ho
  go_wp2_with fail
  exact⟨rfl,rfl,hK0.trans hK (fun n e=>.inl e)⟩
section
variable (s:ByteArray) (hs:s.size≤140737488355328)
include hs
theorem neg1 (rb pb nb k d:Nat) (w:World) (h:RD w rb s k d) (hp:w.heap[pb]?=some (.cells #[ptr rb] 268 (0,0))) (hn:w.heap[nb]?=some (.cells (N12 7 0 nul .z .z (.slice none 0 0)) 57 (0,0)))
  (hpr:pb≠rb) (hnr:nb≠rb) (hk:k<s.size) (r:Rs T) (hop:∀ w1,RD w1 rb s (k+1) d→Kp (·=rb) w w1→Calls Tryz.prog 200 #[ptr rb] w1 (Out w1 rb s d r)) :
  Calls Tryz.prog 232 #[ptr pb,ptr nb] w (OutN w rb nb s d (r.bind fun t k'=>.ok (tNeg t) k')):=by
 obtain⟨⟨c0,c1,c2⟩,f0,f1,f2⟩:=h.cells
 obtain⟨p0,p1⟩:=cells1 hp
 have HOP:Hid (∀ w1,RD w1 rb s (k+1) d→Kp (·=rb) w w1→Calls Tryz.prog 200 #[ptr rb] w1 (Out w1 rb s d r)):=hop
 clear hop
 go_enter Tryz.func232,Tryz.ntmps232
 go_wp2_with fail
 have hR0:=h.setAt (k+1)
 have hK0:=kpset w rb 1 (.int .i64 ((k+1:Nat):Int))
 have hsz:(w.setCell ⟨rb,1,none⟩ (.int .i64 ((k+1:Nat):Int))).heap.size=w.heap.size:=by simp [World.setCell]
 rw [show ((k:Int)+1)=((k+1:Nat):Int) from by omega]
 generalize w.setCell ⟨rb,1,none⟩ (.int .i64 ((k+1:Nat):Int))=w0 at *
 have hp0:=hK0.blk hp hpr
 have hn0:=hK0.blk hn hnr
 clear c0 c1 c2 f0 f1 f2 p0 p1
 refine (HOP.out _ hR0 hK0).mono ?_
 clear HOP
 intro e w1 ho
 cases r with
 | err k' c =>
  obtain⟨rfl,hK⟩:=ho
  go_wp2_with fail
  exact⟨rfl,rfl,(hK0.trans hK (fun n e=>.inl e)).mono (fun _ _ e=>.inl e)⟩
 | ok t k' =>
  obtain⟨v,rfl,hN,hR1,hK1⟩:=ho
  have hn1:=hK1.blk hn0 hnr
  have hl1:=lt_blk hn1
  cases hN with
  | @mk k1 n1 s1 r1 t1 p1 m1 e1 us ts hk hl hs =>
  have hN:=Nd.mk (k:=k1) (n:=n1) (s:=s1) (r:=r1) (t:=t1) hk hl hs
  clear hk hl hs
  obtain⟨q,qf⟩:=cells12 (w:=w1.alloc (.cells (N12 k1 n1 s1 r1 t1 (.slice p1 m1 e1)) 57)) (b:=nb) (by rw [Below.heap_alloc _ _ _ hl1];exact hn1)
  have q11:=q.2.2.2.2.2.2.2.2.2.2.2
  have qf11:=qf 11
  clear q qf
  go_wp2_with fail
  go_end0
  have hKw:Kp (fun b=>b=rb∨b=nb) w w1:=(hK0.trans hK1 (fun n e=>.inl e)).mono (fun _ _ e=>.inl e)
  have hKs:=kpset w1 nb 11 (.slice (some ⟨w1.heap.size,0,none⟩) 1 1)
  have hsz1:(w1.setCell ⟨nb,11,none⟩ (.slice (some ⟨w1.heap.size,0,none⟩) 1 1)).heap.size=w1.heap.size:=by simp [World.setCell]
  have hb:=blk_set (o:=11) (u:=.slice (some ⟨w1.heap.size,0,none⟩) 1 1) hn1
  have hR2:=hR1.keep hKs (fun e=>hnr e.symm)
  have hln:=lt_blk hn
  have hle:=hK1.size
  generalize w1.setCell ⟨nb,11,none⟩ (.slice (some ⟨w1.heap.size,0,none⟩) 1 1)=w2 at *
  have hKa:=hKs.alloc (.cells (N12 k1 n1 s1 r1 t1 (.slice p1 m1 e1)) 57)
  refine⟨rfl,hR2.alloc _,⟨N12 7 0 nul .z .z (.slice (some ⟨w1.heap.size,0,none⟩) 1 1),?_,?_⟩,?_⟩
  ·rw [Below.heap_alloc _ _ _ (by rw [hsz1];exact hl1)];exact hb
  ·refine Nd.one (g:=w1.heap.size) (cs:=N12 k1 n1 s1 r1 t1 (.slice p1 m1 e1)) (ty:=57) (by rw [← hsz1];exact blk_new _ _) ⟨by omega,by simp;omega⟩ (Nat.le_refl _) ?_
   exact (hN.next hKa (fun n e=>by left;rw [e];omega)).mono (fun _ _=>rfl) (fun n hn=>⟨by have:=hn.1;omega,hn.2⟩)
  ·exact hKw.trans hKa (fun n e=>.inl (.inr e))
omit hs in
structure PF (w:World) (rb:Nat) (cs:Array Value) (wx:World):Prop where
 p:wx.heap[w.heap.size]?=some (.cells #[ptr rb] 268 (0,0))
 q:wx.heap[w.heap.size+1]?=some (.cells NZ 57 (0,0))
 n:wx.heap[w.heap.size+1+1]?=some (.cells cs 57 (0,0))
 k:Kp (fun _=>False) w wx
omit hs in
theorem PF.start (w:World) (rb:Nat) (cs:Array Value):PF w rb cs (((w.alloc (.cells #[ptr rb] 268)).alloc (.cells NZ 57)).alloc (.cells cs 57)):=by
 refine⟨?_,?_,?_,(((Kp.refl _ _).alloc _).alloc _).alloc _⟩
 ·rw [Below.heap_alloc _ _ _ (by simp;omega),Below.heap_alloc _ _ _ (by simp)];exact blk_new _ _
 ·rw [Below.heap_alloc _ _ _ (by simp)]
  have:=blk_new (w.alloc (.cells #[ptr rb] 268)) (.cells NZ 57)
  simpa using this
 ·have:=blk_new ((w.alloc (.cells #[ptr rb] 268)).alloc (.cells NZ 57)) (.cells cs 57)
  simpa using this
omit hs in
theorem PF.kp {w w0 w1:World} {rb:Nat} {cs:Array Value} (h:PF w rb cs w0) (hk:Kp (fun b=>b=rb∨b=w.heap.size+1+1) w0 w1):Kp (·=rb) w w1 :=
 (h.k.mono (fun _ _ e=>e.elim)).trans hk (fun n e=>by
  rcases e with e | e
  ·exact .inl e
  ·right;omega)
end
set_option maxHeartbeats 1000000 in
theorem negative_walk (s:ByteArray) (rb k d:Nat) (w:World) (h:RD w rb s k d) (r:Rs T)
  (hin:∀ w1,RD w1 rb s k d→PF w rb (N12 7 0 nul .z .z (.slice none 0 0)) w1→Calls Tryz.prog 231 #[ptr rb,.func (.func 232) #[] #[ptr w.heap.size,ptr (w.heap.size+1+1)]] w1 (OutN w1 rb (w.heap.size+1+1) s d r)) :
  Calls Tryz.prog 218 #[ptr rb] w (Out w rb s d r):=by
 have hmf:∀ (fn:Fn) (first cap:Array Value) (w:World),(Instr.makeFunc fn first cap).run Tryz.prog w=.ok (.func fn first cap) w:=fun _ _ _ _=>rfl
 have HIN:Hid (∀ w1,RD w1 rb s k d→PF w rb (N12 7 0 nul .z .z (.slice none 0 0)) w1→Calls Tryz.prog 231 #[ptr rb,.func (.func 232) #[] #[ptr w.heap.size,ptr (w.heap.size+1+1)]] w1 (OutN w1 rb (w.heap.size+1+1) s d r)):=hin
 clear hin
 have hPF:=PF.start w rb (N12 7 0 nul .z .z (.slice none 0 0))
 have hR0:=((h.alloc (.cells #[ptr rb] 268)).alloc (.cells NZ 57)).alloc (.cells (N12 7 0 nul .z .z (.slice none 0 0)) 57)
 go_enter Tryz.func218,Tryz.ntmps218
 go_wp2_with fail
 refine (HIN.out _ hR0 hPF).mono ?_
 clear HIN
 generalize ((w.alloc (.cells #[ptr rb] 268)).alloc (.cells NZ 57)).alloc (.cells (N12 7 0 nul .z .z (.slice none 0 0)) 57)=w0 at *
 intro e w1 ho
 cases r with
 | err k' c =>
  obtain⟨rfl,hK⟩:=ho
  go_wp2_with fail
  exact⟨rfl,rfl,PF.kp hPF hK⟩
 | ok t k' =>
  obtain⟨rfl,hR1,⟨cs,hn1,hN⟩,hK1⟩:=ho
  have hKw:=PF.kp hPF hK1
  have hrl:=h.lt
  have hq1:=hK1.blk hPF.q (by rintro (e | e)<;>omega)
  have hsz:=hPF.k.size
  have hs1:=hK1.size
  have hql:=lt_blk hPF.q
  cases hN with
  | @mk k1 n1 s1 r1 t1 p1 m1 e1 us ts hk hl hs =>
  have hN:=Nd.mk (k:=k1) (n:=n1) (s:=s1) (r:=r1) (t:=t1) hk hl hs
  clear hk hl hs
  obtain⟨⟨a0,a1,a2,a3,a4,a5,a6,a7,a8,a9,a10,a11⟩,af⟩:=cells12 hn1
  obtain⟨⟨b0,b1,b2,b3,b4,b5,b6,b7,b8,b9,b10,b11⟩,bf⟩:=cells12 hq1
  go_wp2_with fail
  refine fin12 hq1 (Q:=bodyPost _ _ _ _ _) ?_
  intro w2 hq2 hk2
  clear a0 a1 a2 a3 a4 a5 a6 a7 a8 a9 a10 a11 af b0 b1 b2 b3 b4 b5 b6 b7 b8 b9 b10 b11 bf
  obtain⟨⟨b0,b1,b2,b3,b4,b5,b6,b7,b8,b9,b10,b11⟩,bf⟩:=cells12 hq2
  refine bodyPost_ret (v:=NV k1 n1 s1 r1 t1 (.slice p1 m1 e1)) (by simp [results,Tryz.results218,go_sem,b0,b1,b2,b3,b4,b5,b6,b7,b8,b9,b10,b11]) rfl ⟨_,rfl,?_,?_,?_⟩
  ·exact (hN.next hk2 (fun n e=>by left;omega)).mono (fun _ _=>rfl) (fun n hn=>⟨by have:=hn.1;omega,hn.2⟩)
  ·exact hR1.keep hk2 (by omega)
  ·exact hKw.trans hk2 (fun n e=>by right;omega)
end Go.Proofs.YtgifkepklnhddaaGreatDoor.fm

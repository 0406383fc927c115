import Derived.Test.YtgifkepklnhddaaGreatDoorQ7Jc
namespace Go.Proofs.YtgifkepklnhddaaGreatDoor.fm
open Go.RowKit
structure Tk where
 kind:Int
 a:Nat
 e:Nat
 t:ByteArray
def two2 (s:ByteArray) (a:Nat):Bool:=(decide (nx s a=60) && decide (nx s (a+1)=62)) || (decide (nx s a=60) && decide (nx s (a+1)=61)) || (decide (nx s a=62) && decide (nx s (a+1)=61))
def tkR (s:ByteArray) (k:Nat):Tk :=
 if skip s k=s.size then ⟨0,skip s k,skip s k,nul⟩
 else if isW (nx s (skip s k))=true then ⟨1,skip s k,tokEnd s (skip s k),tok s (skip s k)⟩
 else if nx s (skip s k)=34 then (match quote s (skip s k+1) [] with | none=>⟨9,skip s k,skip s k,nul⟩ | some (l,e)=>⟨2,skip s k,e,⟨l.toArray⟩⟩)
 else if nx s (skip s k)=35 then (match badAt s (skip s k) with | none=>⟨9,skip s k,skip s k,nul⟩ | some (n,len)=>⟨3,skip s k,skip s k+len,sh 4 (n:Nat) YtgifkepklnhddaaGreatDoor.nul⟩)
 else if two2 s (skip s k)=true then ⟨4,skip s k,skip s k+2,s.extract (skip s k) (skip s k+2)⟩
 else ⟨4,skip s k,skip s k+1,s.extract (skip s k) (skip s k+1)⟩
theorem token_at (s:ByteArray) (k:Nat) (w:World) (hs:s.size≤200) (hk:k≤s.size) :
  Calls Tryz.prog 81 #[.string s,.int .i64 k] w fun e w'=>e=.returned (KV (tkR s k).kind ((tkR s k).a:Nat) ((tkR s k).e:Nat) (tkR s k).t)∧Below w.heap.size w w':=by
 have hk1:=(skip_spec s k).2.2 hk
 unfold tkR
 by_cases h0:skip s k=s.size
 ·rw [if_pos h0];exact token_end s k w hs hk h0
 rw [if_neg h0]
 have hlt:skip s k<s.size:=by omega
 by_cases h1:isW (nx s (skip s k))=true
 ·rw [if_pos h1];exact token_word s k w hs hk h1
 rw [if_neg h1]
 have h1':isW (nx s (skip s k))=false:=by simpa using h1
 by_cases h2:nx s (skip s k)=34
 ·rw [if_pos h2]
  refine (token_quote s k w hs hk hlt h2 _ rfl).mono ?_
  rintro e w1 ⟨rfl,hb⟩
  refine⟨?_,hb⟩
  cases quote s (skip s k+1) [] with
  | none=>rfl
  | some p=>rfl
 rw [if_neg h2]
 by_cases h3:nx s (skip s k)=35
 ·rw [if_pos h3]
  refine (token_bad s k w hs hk hlt h3 _ rfl).mono ?_
  rintro e w1 ⟨rfl,hb⟩
  refine⟨?_,hb⟩
  cases badAt s (skip s k) with
  | none=>rfl
  | some p=>rfl
 rw [if_neg h3]
 by_cases h4:two2 s (skip s k)=true
 ·rw [if_pos h4]
  unfold two2 at h4
  simp at h4
  rcases h4 with (⟨a,b⟩ | ⟨a,b⟩) | ⟨a,b⟩
  ·exact token_sign_ne s k w hs hk hlt ⟨a,b⟩
  ·exact token_sign_le s k w hs hk hlt ⟨a,b⟩
  ·exact token_sign_ge s k w hs hk hlt ⟨a,b⟩
 ·rw [if_neg h4]
  unfold two2 at h4
  simp at h4
  exact token_sign_one s k w hs hk hlt ⟨h1',h2,h3⟩ ⟨fun q=>h4.1.1 q.1 q.2,fun q=>h4.1.2 q.1 q.2,fun q=>h4.2 q.1 q.2⟩
theorem tk_spec (s:ByteArray) (k:Nat) (hk:k≤s.size):(tkR s k).a=skip s k∧skip s k≤(tkR s k).e∧(tkR s k).e≤s.size:=by
 have hk1:=(skip_spec s k).2.2 hk
 have ht:=tok_spec s (skip s k)
 unfold tkR
 by_cases h0:skip s k=s.size
 ·rw [if_pos h0];exact⟨rfl,Nat.le_refl _,hk1⟩
 rw [if_neg h0]
 by_cases h1:isW (nx s (skip s k))=true
 ·rw [if_pos h1];exact⟨rfl,ht.1,ht.2.2.1 hk1⟩
 rw [if_neg h1]
 by_cases h2:nx s (skip s k)=34
 ·rw [if_pos h2]
  cases hq:quote s (skip s k+1) [] with
  | none=>exact⟨rfl,Nat.le_refl _,hk1⟩
  | some p =>
   obtain⟨l,e⟩:=p
   have:=quote_spec s _ _ _ _ hq
   exact⟨rfl,by simp only;omega,this.2⟩
 rw [if_neg h2]
 by_cases h3:nx s (skip s k)=35
 ·rw [if_pos h3]
  cases hq:badAt s (skip s k) with
  | none=>exact⟨rfl,Nat.le_refl _,hk1⟩
  | some p =>
   obtain⟨n,len⟩:=p
   have:=badAt_spec hq
   exact⟨rfl,by simp only;omega,this.2.2.2⟩
 rw [if_neg h3]
 by_cases h4:two2 s (skip s k)=true
 ·rw [if_pos h4]
  unfold two2 at h4
  simp at h4
  have:=nx_lt (s:=s) (k:=skip s k+1) (by omega)
  exact⟨rfl,by simp only;omega,by simp only;omega⟩
 ·rw [if_neg h4]
  exact⟨rfl,by simp only;omega,by simp only;omega⟩
theorem tight_any (op:Nat) (h1:1≤op) (w:World):Calls Tryz.prog 112 #[.int .i64 (op:Nat)] w fun e w'=>e=.returned (.int .i64 (lev op:Nat))∧w'=w:=by
 by_cases h6:op≤6
 ·have e:lev op=1:=by unfold lev;rw [if_neg (by omega),if_pos h6]
  have h6I:(op:Int)≤6:=by omega
  rw [e]
  clear e
  go_enter Tryz.func112,Tryz.ntmps112
  go_wp2
  go_ret
  exact⟨rfl,rfl⟩
 have h6I:¬ (op:Int)≤6:=by omega
 by_cases h7:op=7
 ·subst h7
  go_enter Tryz.func112,Tryz.ntmps112
  go_wp2
  go_ret
  exact⟨rfl,rfl⟩
 have h7I:((op:Int) == 7)=false:=by rw [beq_eq_false_iff_ne];omega
 by_cases h9:op≤9
 ·have e:lev op=3:=by unfold lev;rw [if_neg (by omega),if_neg h6,if_neg h7,if_pos h9]
  have h9I:(op:Int)≤9:=by omega
  rw [e]
  clear e
  go_enter Tryz.func112,Tryz.ntmps112
  go_wp2
  go_ret
  exact⟨rfl,rfl⟩
 ·have e:lev op=4:=by unfold lev;rw [if_neg (by omega),if_neg h6,if_neg h7,if_neg h9]
  have h9I:¬ (op:Int)≤9:=by omega
  rw [e]
  clear e
  go_enter Tryz.func112,Tryz.ntmps112
  go_wp2
  go_ret
  exact⟨rfl,rfl⟩
def PD (w:World) (pb:Nat) (s:ByteArray) (k:Nat) (wr bd:Int) (d:Nat):Prop:=w.heap[pb]?=some (.cells #[.string s,.int .i64 k,.int .i64 wr,.int .i64 bd,.int .i64 d] 134 (0,0))
theorem PD.cells {w:World} {pb:Nat} {s:ByteArray} {k:Nat} {wr bd:Int} {d:Nat} (h:PD w pb s k wr bd d) :
  (w.cell? ⟨pb,0,none⟩=some (.string s)∧w.cell? ⟨pb,1,none⟩=some (.int .i64 k)∧w.cell? ⟨pb,2,none⟩=some (.int .i64 wr)∧w.cell? ⟨pb,3,none⟩=some (.int .i64 bd)∧w.cell? ⟨pb,4,none⟩=some (.int .i64 d))∧(w.frozen? ⟨pb,0,none⟩=false∧w.frozen? ⟨pb,1,none⟩=false∧w.frozen? ⟨pb,2,none⟩=false∧w.frozen? ⟨pb,3,none⟩=false∧w.frozen? ⟨pb,4,none⟩=false):=by
 unfold PD at h
 simp [World.cell?,World.frozen?,h]
theorem PD.setAt {w:World} {pb:Nat} {s:ByteArray} {k:Nat} {wr bd:Int} {d:Nat} (h:PD w pb s k wr bd d) (k':Nat):PD (w.setCell ⟨pb,1,none⟩ (.int .i64 k')) pb s k' wr bd d:=by
 unfold PD at h ⊢
 rw [blk_set h];rfl
theorem PD.setDeep {w:World} {pb:Nat} {s:ByteArray} {k:Nat} {wr bd:Int} {d:Nat} (h:PD w pb s k wr bd d) (d':Nat):PD (w.setCell ⟨pb,4,none⟩ (.int .i64 d')) pb s k wr bd d':=by
 unfold PD at h ⊢
 rw [blk_set h];rfl
theorem PD.keep {X:Nat→Prop} {w w':World} {pb:Nat} {s:ByteArray} {k:Nat} {wr bd:Int} {d:Nat} (h:PD w pb s k wr bd d) (hk:Kp X w w') (hx:¬ X pb):PD w' pb s k wr bd d:=hk.blk h hx
theorem PD.below {w w':World} {pb:Nat} {s:ByteArray} {k:Nat} {wr bd:Int} {d:Nat} (h:PD w pb s k wr bd d) (hk:Below w.heap.size w w'):PD w' pb s k wr bd d:=by
 unfold PD at h ⊢
 rw [hk.block _ (lt_blk h)];exact h
theorem PD.lt {w:World} {pb:Nat} {s:ByteArray} {k:Nat} {wr bd:Int} {d:Nat} (h:PD w pb s k wr bd d):pb<w.heap.size:=lt_blk h
theorem fail_first (pb k d:Nat) (wr:Int) (s:ByteArray) (a:Nat) (e:Int) (w:World) (h:PD w pb s k wr 0 d) :
  Calls Tryz.prog 82 #[ptr pb,.int .i64 a,.int .i64 e] w fun x w'=>x=.returned (.tuple #[])∧PD w' pb s k a e d∧Kp (·=pb) w w':=by
 obtain⟨⟨c0,c1,c2,c3,c4⟩,f0,f1,f2,f3,f4⟩:=h.cells
 go_enter Tryz.func82,Tryz.ntmps82
 go_wp2
 go_end0
 refine⟨rfl,?_,((Kp.refl (·=pb) w).setCell (Or.inl rfl) _).setCell (Or.inl rfl) _⟩
 unfold PD at h ⊢
 have h1:(w.setCell ⟨pb,2,none⟩ (.int .i64 a)).heap[pb]?=some (.cells #[.string s,.int .i64 k,.int .i64 a,.int .i64 0,.int .i64 d] 134 (0,0)):=by rw [blk_set h];rfl
 rw [blk_set h1];rfl
theorem rdeeper_full (pb k:Nat) (wr:Int) (s:ByteArray) (a:Nat) (w:World) (h:PD w pb s k wr 0 30) :
  Calls Tryz.prog 139 #[ptr pb,.int .i64 a] w fun x w'=>x=.returned (.bool false)∧PD w' pb s k a 4 30∧Kp (·=pb) w w':=by
 obtain⟨⟨c0,c1,c2,c3,c4⟩,f0,f1,f2,f3,f4⟩:=h.cells
 go_enter Tryz.func139,Tryz.ntmps139
 go_wp2_with fail
 refine (fail_first pb k 30 wr s a 4 _ h).mono ?_
 rintro e w1 ⟨rfl,hP,hK⟩
 go_wp2_with fail
 go_ret
 exact⟨rfl,hP,hK⟩
theorem rdeeper_go (pb k d:Nat) (wr bd:Int) (s:ByteArray) (a:Nat) (w:World) (h:PD w pb s k wr bd d) (hd:d<30) :
  Calls Tryz.prog 139 #[ptr pb,.int .i64 a] w fun x w'=>x=.returned (.bool true)∧PD w' pb s k wr bd (d+1)∧Kp (·=pb) w w':=by
 obtain⟨⟨c0,c1,c2,c3,c4⟩,f0,f1,f2,f3,f4⟩:=h.cells
 have hq:((d:Int) == 30)=false:=by rw [beq_eq_false_iff_ne];omega
 go_enter Tryz.func139,Tryz.ntmps139
 go_wp2_with fail
 go_ret
 exact⟨rfl,h.setDeep (d+1),(Kp.refl (·=pb) w).setCell (Or.inl rfl) _⟩
end Go.Proofs.YtgifkepklnhddaaGreatDoor.fm
namespace Go.Proofs.YtgifkepklnhddaaGreatDoor.fm
open Go.RowKit
def sgFrom (t:ByteArray):Nat→Nat→Nat
 | 0,_=>0
 | f+1,i=>if ((opTxt i).toList == t.toList)=true then i else sgFrom t f (i+1)
def sgnOf (t:ByteArray):Nat:=sgFrom t 11 1
abbrev sgC:Array Value:=#[.string ⟨#[]⟩,.string ⟨#[61]⟩,.string ⟨#[60,62]⟩,.string ⟨#[60]⟩,.string ⟨#[60,61]⟩,.string ⟨#[62]⟩,.string ⟨#[62,61]⟩,.string ⟨#[38]⟩,.string ⟨#[43]⟩,.string ⟨#[45]⟩,.string ⟨#[42]⟩,.string ⟨#[47]⟩]
theorem sg_cell {w:World} {g:Nat} (h:w.heap[g]?=some (.cells sgC 9 (0,0))) (i:Nat) (hi:i<12):w.cell? ⟨g,i,none⟩=some (.string (opTxt i)):=by
 rw [cell_blk h]
 match i,hi with
 | 0,_=>rfl
 | 1,_=>rfl
 | 2,_=>rfl
 | 3,_=>rfl
 | 4,_=>rfl
 | 5,_=>rfl
 | 6,_=>rfl
 | 7,_=>rfl
 | 8,_=>rfl
 | 9,_=>rfl
 | 10,_=>rfl
 | 11,_=>rfl
 | i+12,hi=>omega
set_option maxRecDepth 100000 in
set_option maxHeartbeats 2000000 in
theorem sign_any (t:ByteArray) (w:World):Calls Tryz.prog 111 #[.string t] w fun e w'=>e=.returned (.int .i64 (sgnOf t:Nat))∧Below w.heap.size w w':=by
 have hg0:=blk_new w (.cells sgC 9)
 have hb0:Below w.heap.size w (w.alloc (.cells sgC 9)):=(Below.refl _ _).alloc (Nat.le_refl _) _
 obtain⟨R,hR⟩:∃ R,sgnOf t=R:=⟨_,rfl⟩
 rw [hR]
 have HR:Hid (sgFrom t 11 1=R):=hR
 clear hR
 go_enter Tryz.func111,Tryz.ntmps111
 go_wp2_with fail
 generalize w.alloc (.cells sgC 9)=w0 at *
 go_loopw [4] (fun a wr=>∃ i:Nat,a=.int .i64 i∧1≤i∧i≤12∧sgFrom t (12 - i) i=R∧wr=w0) (fun a _=>12 - (intOf a).toNat)
 case atStart=>exact⟨1,rfl,by omega,by omega,HR.out,rfl⟩
 case round =>
  obtain⟨i,rfl,h1,h12,hsg,rfl⟩:=hrel
  have HSG:Hid (sgFrom t (12 - i) i=R):=hsg
  clear hsg HR
  by_cases hlt:i<12
  ·have hc:=sg_cell hg0 i hlt
   have HST:Hid (sgFrom t (12 - i) i=if ((opTxt i).toList == t.toList)=true then i else sgFrom t (12 - (i+1)) (i+1)):=by
    unfold Hid
    rw [show 12 - i=(12 - (i+1))+1 from by omega,sgFrom]
   have hltI:(i:Int)<12:=by omega
   generalize opTxt i=ot at *
   cases hp:(ot.toList == t.toList) with
   | true =>
    have HRT:Hid (R=i):=by
     have h1:=HSG.out
     rw [HST.out,if_pos hp] at h1
     exact h1.symm
    clear HST HSG
    go_wp2_with fail
    go_ret
    exact⟨by rw [HRT.out];rfl,hb0⟩
   | false =>
    have HB:Hid (sgFrom t (12 - (i+1)) (i+1)=R):=by
     have h1:=HSG.out
     rw [HST.out,if_neg (by simp [hp])] at h1
     exact h1
    clear HST HSG
    go_wp2_with fail
    exact⟨⟨i+1,by simp,by omega,by omega,HB.out,trivial⟩,by simp [intOf];omega⟩
  ·obtain rfl:i=12:=by omega
   have HRT:Hid (R=0):=HSG.out.symm
   clear HSG
   go_wp2_with fail
   go_ret
   exact⟨by rw [HRT.out];rfl,hb0⟩
set_option maxHeartbeats 2000000 in
theorem called_any (s:ByteArray) (w:World) (hs:s.size≤200) :
  Calls Tryz.prog 117 #[.string s] w fun e w'=>e=.returned (.bool (isNm s))∧w'=w:=by
 by_cases h2:(s.size:Int)<2
 ·have hf:isNm s=false:=by unfold isNm;rw [decide_eq_false (by omega)];simp
  rw [hf]
  clear hf
  go_enter Tryz.func117,Tryz.ntmps117
  go_wp2_with fail
  go_ret
  exact⟨rfl,rfl⟩
 by_cases h10:(10:Int)<(s.size:Int)
 ·have hf:isNm s=false:=by unfold isNm;rw [decide_eq_false (by omega:¬ s.size≤10)];simp
  rw [hf]
  clear hf
  go_enter Tryz.func117,Tryz.ntmps117
  go_wp2_with fail
  go_ret
  exact⟨rfl,rfl⟩
 have hN:isNm s=s.data.toList.all isL:=by unfold isNm;rw [decide_eq_true (by omega),decide_eq_true (by omega)];rfl
 rw [hN]
 clear hN
 obtain⟨A,hA⟩:∃ A,s.data.toList.all isL=A:=⟨_,rfl⟩
 have HAA:Hid (s.data.toList.all isL=A):=hA
 rw [hA]
 clear hA
 go_enter Tryz.func117,Tryz.ntmps117
 go_wp2_with fail
 go_loopw [3] (fun i wr=>∃ k:Nat,k≤s.size∧i=.int .i64 k∧A=(s.data.toList.drop k).all isL∧wr=w) (fun i _=>s.size - (intOf i).toNat)
 case atStart=>exact⟨0,Nat.zero_le _,rfl,HAA.out.symm,rfl⟩
 case round =>
  obtain⟨k,hk,rfl,heq,rfl⟩:=hrel
  have HEQ:Hid (A=(s.data.toList.drop k).all isL):=heq
  clear heq
  by_cases hlt:k<s.size
  ·have HD:Hid ((s.data.toList.drop k).all isL=(isL s[k] && (s.data.toList.drop (k+1)).all isL)):=all_drop s k hlt
   have hb:s[k].toNat<256:=UInt8.toNat_lt s[k]
   by_cases d1:s[k].toNat<65
   ·have HF:Hid (A=false):=by unfold Hid;rw [HEQ.out,HD.out,show isL s[k]=false from by unfold isL;rw [decide_eq_false (by omega)];rfl];rfl
    have d1':((s[k].toNat:Nat):Int)<65:=by omega
    clear HEQ HD
    go_wp2_with fail
    go_ret
    exact⟨by rw [HF.out];rfl,rfl⟩
   by_cases d2:90<s[k].toNat
   ·have HF:Hid (A=false):=by unfold Hid;rw [HEQ.out,HD.out,show isL s[k]=false from by unfold isL;rw [decide_eq_false (by omega:¬ s[k].toNat≤90)];simp];rfl
    have d1':¬ ((s[k].toNat:Nat):Int)<65:=by omega
    have d2':(90:Int)<((s[k].toNat:Nat):Int):=by omega
    clear HEQ HD
    go_wp2_with fail
    go_ret
    exact⟨by rw [HF.out];rfl,rfl⟩
   ·have HF:Hid (A=(s.data.toList.drop (k+1)).all isL):=by unfold Hid;rw [HEQ.out,HD.out,show isL s[k]=true from by unfold isL;rw [decide_eq_true (by omega),decide_eq_true (by omega)];rfl];rfl
    have d1':¬ ((s[k].toNat:Nat):Int)<65:=by omega
    have d2':¬ (90:Int)<((s[k].toNat:Nat):Int):=by omega
    clear HEQ HD
    go_wp2_with fail
    exact⟨⟨k+1,by omega,rfl,HF.out,trivial⟩,by simp [intOf];omega⟩
  ·have hl0:s.data.toList.drop k=[]:=List.drop_eq_nil_of_le (by simp;omega)
   have HF:Hid (A=true):=by unfold Hid;rw [HEQ.out,hl0];rfl
   clear HEQ hl0
   go_wp2_with fail
   go_ret
   exact⟨by rw [HF.out];rfl,rfl⟩
end Go.Proofs.YtgifkepklnhddaaGreatDoor.fm
namespace Go.Proofs.YtgifkepklnhddaaGreatDoor.fm
open Go.RowKit
abbrev K4 (t:Tk):Array Value:=#[.int .i64 t.kind,.int .i64 (t.a:Nat),.int .i64 (t.e:Nat),.string t.t]
structure KS (w:World) (t:Tk) (kb:Nat) (wx:World):Prop where
 lo:w.heap.size≤kb
 blk:wx.heap[kb]?=some (.cells (K4 t) 137 (0,0))
 below:Below w.heap.size w wx
theorem ks1 {w w1:World} {t:Tk} (h:Below w.heap.size w w1):KS w t w1.heap.size (w1.alloc (.cells (K4 t) 137)):=⟨h.size,blk_new _ _,h.alloc h.size _⟩
theorem kz_a {w w1:World} (hb:Below (w.drew.alloc (.cells KZ 137)).heap.size (w.drew.alloc (.cells KZ 137)) w1):w1.heap[w.heap.size]?=some (.cells KZ 137 (0,0)):=by
 rw [hb.block _ (by simp)];exact blk_new w.drew _
theorem cells4f {w:World} {b:Nat} {a0 a1 a2 a3:Value} {t:TypeId} (h:w.heap[b]?=some (.cells #[a0,a1,a2,a3] t (0,0))):(w.cell? ⟨b,0,none⟩=some a0∧w.cell? ⟨b,1,none⟩=some a1∧w.cell? ⟨b,2,none⟩=some a2∧w.cell? ⟨b,3,none⟩=some a3)∧w.frozen? ⟨b,0,none⟩=false∧w.frozen? ⟨b,1,none⟩=false∧w.frozen? ⟨b,2,none⟩=false∧w.frozen? ⟨b,3,none⟩=false:=by
 simp [World.cell?,World.frozen?,h]
theorem ks2 {w w1:World} {t:Tk} (hb:Below (w.drew.alloc (.cells KZ 137)).heap.size (w.drew.alloc (.cells KZ 137)) w1) {Q:World→Prop} (h:∀ w2,KS w t w.heap.size w2→Q w2) :
  Q ((((w1.setCell ⟨w.heap.size,0,none⟩ (.int .i64 t.kind)).setCell ⟨w.heap.size,1,none⟩ (.int .i64 (t.a:Nat))).setCell ⟨w.heap.size,2,none⟩ (.int .i64 (t.e:Nat))).setCell ⟨w.heap.size,3,none⟩ (.string t.t)):=by
 refine fin4 (kz_a hb) (Q:=Q) fun w2 hw2 hk2=>h w2 ⟨Nat.le_refl _,hw2,?_⟩
 have hw1:Below w.heap.size w w1:=((Below.refl w.heap.size w).drew.alloc (Nat.le_refl _) _).trans (hb.mono (by simp))
 exact hw1.trans (hk2.toBelow hw1.size (fun n hn e=>by omega))
theorem ks3 {w w1:World} {t:Tk} (hb:Below w.drew.heap.size w.drew w1):KS w t w1.heap.size (w1.alloc (.cells (K4 t) 137)):=ks1 (t:=t) (show Below w.heap.size w w1 from⟨hb.os,hb.tape,hb.output,hb.size,hb.block⟩)
end Go.Proofs.YtgifkepklnhddaaGreatDoor.fm
namespace Go.Proofs.YtgifkepklnhddaaGreatDoor.fm
open Go.RowKit
theorem kb1 {w w1:World} (hb:Below w.drew.heap.size w.drew w1):Below w.heap.size w w1:=⟨hb.os,hb.tape,hb.output,hb.size,hb.block⟩
theorem kb2 {w w1:World} {o:Obj} (hb:Below (w.drew.alloc o).heap.size (w.drew.alloc o) w1):Below w.heap.size w w1:=((Below.refl w.heap.size w).drew.alloc (Nat.le_refl _) _).trans (hb.mono (by simp))
theorem exT1 {s:ByteArray} {k:Nat} (h:k<s.size):(s.extract k (k+1)).toList=[s[k]]:=by
 rw [ByteArray.toList_eq]
 apply List.ext_getElem
 ·simp;omega
 ·intro i h1 h2
  simp at h2
  subst h2
  simp
  rfl
theorem exT2 {s:ByteArray} {k:Nat} (h:k+1<s.size):(s.extract k (k+2)).toList=[s[k],s[k+1]]:=by
 rw [ByteArray.toList_eq]
 apply List.ext_getElem
 ·simp;omega
 ·intro i h1 h2
  simp at h2
  match i,h2 with
  | 0,_=>simp;rfl
  | 1,_=>simp;rfl
  | i+2,h2=>omega
theorem tk_byte (s:ByteArray) (k:Nat) (c:UInt8) (hc:c=40∨c=41∨c=44∨c=45) (hk:k≤s.size) :
  (((tkR s k).kind=4∧((tkR s k).t.toList == [c])=true)↔nx s (skip s k)=c.toNat)∧(nx s (skip s k)=c.toNat→(tkR s k).e=skip s k+1):=by
 have hk1:=(skip_spec s k).2.2 hk
 have hcn:isW c.toNat=false∧c.toNat≠34∧c.toNat≠35∧c.toNat≠60∧c.toNat≠62∧c.toNat≠0:=by
  rcases hc with rfl | rfl | rfl | rfl<;>decide
 obtain⟨n1,n2,n3,n4,n5,n6⟩:=hcn
 unfold tkR
 by_cases h0:skip s k=s.size
 ·rw [if_pos h0]
  have hz:=nx_out (s:=s) (k:=skip s k) (by omega)
  exact⟨⟨fun h=>by simp at h,fun h=>by omega⟩,fun h=>by omega⟩
 rw [if_neg h0]
 have hlt:skip s k<s.size:=by omega
 by_cases h1:isW (nx s (skip s k))=true
 ·rw [if_pos h1]
  have hz:nx s (skip s k)≠c.toNat:=fun e=>by rw [e,n1] at h1;cases h1
  exact⟨⟨fun h=>by simp at h,fun h=>absurd h hz⟩,fun h=>absurd h hz⟩
 rw [if_neg h1]
 by_cases h2:nx s (skip s k)=34
 ·rw [if_pos h2]
  refine⟨⟨fun h=>?_,fun h=>by omega⟩,fun h=>by omega⟩
  cases hq:quote s (skip s k+1) []<;>(rw [hq] at h;simp at h)
 rw [if_neg h2]
 by_cases h3:nx s (skip s k)=35
 ·rw [if_pos h3]
  refine⟨⟨fun h=>?_,fun h=>by omega⟩,fun h=>by omega⟩
  cases hq:badAt s (skip s k)<;>(rw [hq] at h;simp at h)
 rw [if_neg h3]
 by_cases h4:two2 s (skip s k)=true
 ·rw [if_pos h4]
  unfold two2 at h4
  simp at h4
  have hl2:=nx_lt (s:=s) (k:=skip s k+1) (by omega)
  refine⟨⟨fun h=>?_,fun h=>by omega⟩,fun h=>by omega⟩
  have h5:=h.2
  simp only at h5
  rw [exT2 hl2] at h5
  simp at h5
 ·rw [if_neg h4]
  refine⟨?_,fun _=>rfl⟩
  simp only
  rw [exT1 hlt,nx_in hlt]
  simp
  exact⟨fun h=>by rw [h],fun h=>UInt8.toNat_inj.1 h⟩
theorem tk_zero (s:ByteArray) (k:Nat) (hk:k≤s.size):(tkR s k).kind=0↔¬ skip s k<s.size:=by
 have hk1:=(skip_spec s k).2.2 hk
 unfold tkR
 by_cases h0:skip s k=s.size
 ·rw [if_pos h0];simp;omega
 rw [if_neg h0]
 have hlt:skip s k<s.size:=by omega
 refine⟨fun h=>?_,fun h=>absurd hlt h⟩
 exfalso
 by_cases h1:isW (nx s (skip s k))=true
 ·rw [if_pos h1] at h;simp at h
 rw [if_neg h1] at h
 by_cases h2:nx s (skip s k)=34
 ·rw [if_pos h2] at h
  cases hq:quote s (skip s k+1) []<;>(rw [hq] at h;simp at h)
 rw [if_neg h2] at h
 by_cases h3:nx s (skip s k)=35
 ·rw [if_pos h3] at h
  cases hq:badAt s (skip s k)<;>(rw [hq] at h;simp at h)
 rw [if_neg h3] at h
 split at h<;>simp at h
theorem sgn_list {t u:ByteArray} (h:t.toList=u.toList):sgnOf t=sgnOf u:=by
 unfold sgnOf
 simp only [sgFrom,h]
theorem sgn_one (t:ByteArray) (c:UInt8) (h:t.toList=[c]) :
  sgnOf t=if c.toNat=61 then 1 else if c.toNat=60 then 3 else if c.toNat=62 then 5 else if c.toNat=38 then 7 else if c.toNat=43 then 8 else if c.toNat=45 then 9 else if c.toNat=42 then 10 else if c.toNat=47 then 11 else 0:=by
 rw [sgn_list (u:=⟨#[c]⟩) (by rw [h,ByteArray.toList_eq])]
 have:∀ n:Fin 256,sgnOf ⟨#[UInt8.ofNat n.val]⟩=if n.val=61 then 1 else if n.val=60 then 3 else if n.val=62 then 5 else if n.val=38 then 7 else if n.val=43 then 8 else if n.val=45 then 9 else if n.val=42 then 10 else if n.val=47 then 11 else 0:=by decide +kernel
 have h1:=this ⟨c.toNat,UInt8.toNat_lt c⟩
 simp only [UInt8.ofNat_toNat] at h1
 exact h1
theorem tk_sign (s:ByteArray) (k:Nat) (hk:k≤s.size) :
  ((tkR s k).kind=4→sgnOf (tkR s k).t=(opAt s (skip s k)).1∧((opAt s (skip s k)).1≠0→(tkR s k).e=skip s k+(opAt s (skip s k)).2))∧((tkR s k).kind≠4→(opAt s (skip s k)).1=0):=by
 have hk1:=(skip_spec s k).2.2 hk
 have hno:∀ c,nx s (skip s k)=c→c≠61→c≠60→c≠62→c≠38→c≠43→c≠45→c≠42→c≠47→(opAt s (skip s k)).1=0:=by
  intro c h a1 a2 a3 a4 a5 a6 a7 a8
  subst h
  unfold opAt
  rw [if_neg a1,if_neg a2,if_neg a3,if_neg a4,if_neg a5,if_neg a6,if_neg a7,if_neg a8]
 unfold tkR
 by_cases h0:skip s k=s.size
 ·rw [if_pos h0]
  have hz:=nx_out (s:=s) (k:=skip s k) (by omega)
  exact⟨fun h=>by simp at h,fun _=>hno 0 hz (by omega) (by omega) (by omega) (by omega) (by omega) (by omega) (by omega) (by omega)⟩
 rw [if_neg h0]
 have hlt:skip s k<s.size:=by omega
 by_cases h1:isW (nx s (skip s k))=true
 ·rw [if_pos h1]
  refine⟨fun h=>by simp at h,fun _=>?_⟩
  generalize hc:nx s (skip s k)=c at h1
  apply hno c hc<;>(rintro rfl;revert h1;decide)
 rw [if_neg h1]
 by_cases h2:nx s (skip s k)=34
 ·rw [if_pos h2]
  refine⟨fun h=>?_,fun _=>hno 34 h2 (by omega) (by omega) (by omega) (by omega) (by omega) (by omega) (by omega) (by omega)⟩
  cases hq:quote s (skip s k+1) []<;>(rw [hq] at h;simp at h)
 rw [if_neg h2]
 by_cases h3:nx s (skip s k)=35
 ·rw [if_pos h3]
  refine⟨fun h=>?_,fun _=>hno 35 h3 (by omega) (by omega) (by omega) (by omega) (by omega) (by omega) (by omega) (by omega)⟩
  cases hq:badAt s (skip s k)<;>(rw [hq] at h;simp at h)
 rw [if_neg h3]
 by_cases h4:two2 s (skip s k)=true
 ·rw [if_pos h4]
  unfold two2 at h4
  simp at h4
  have hl2:=nx_lt (s:=s) (k:=skip s k+1) (by omega)
  refine⟨fun _=>?_,fun h=>absurd rfl h⟩
  simp only
  have e1:=nx_in hlt
  have e2:=nx_in hl2
  have hsz:∀ a b:UInt8,s[skip s k].toNat=a.toNat→s[skip s k+1].toNat=b.toNat→sgnOf (s.extract (skip s k) (skip s k+2))=sgnOf ⟨#[a,b]⟩:=fun a b ha hb=>by
   apply sgn_list
   rw [exT2 hl2,UInt8.toNat_inj.1 ha,UInt8.toNat_inj.1 hb,ByteArray.toList_eq]
  rcases h4 with (⟨a,b⟩ | ⟨a,b⟩) | ⟨a,b⟩
  ·rw [hsz 60 62 (by rw [← e1,a];rfl) (by rw [← e2,b];rfl)]
   unfold opAt
   rw [if_neg (by omega),if_pos a,if_pos b]
   exact⟨by decide +kernel,fun _=>rfl⟩
  ·rw [hsz 60 61 (by rw [← e1,a];rfl) (by rw [← e2,b];rfl)]
   unfold opAt
   rw [if_neg (by omega),if_pos a,if_neg (by omega),if_pos b]
   exact⟨by decide +kernel,fun _=>rfl⟩
  ·rw [hsz 62 61 (by rw [← e1,a];rfl) (by rw [← e2,b];rfl)]
   unfold opAt
   rw [if_neg (by omega),if_neg (by omega),if_pos a,if_pos b]
   exact⟨by decide +kernel,fun _=>rfl⟩
 ·rw [if_neg h4]
  unfold two2 at h4
  simp at h4
  refine⟨fun _=>?_,fun h=>absurd rfl h⟩
  simp only
  rw [sgn_one _ _ (exT1 hlt),← nx_in hlt]
  unfold opAt
  repeat' split
  all_goals first | omega | (refine⟨rfl,fun h=>?_⟩;first | rfl | exact absurd rfl h)
theorem tk_word (s:ByteArray) (k:Nat) (hk:k≤s.size) (h1:isW (nx s (skip s k))=true) :
  tkR s k=⟨1,skip s k,tokEnd s (skip s k),tok s (skip s k)⟩:=by
 have hk1:=(skip_spec s k).2.2 hk
 have hlt:=nx_lt (s:=s) (k:=skip s k) (isW_pos h1)
 unfold tkR
 rw [if_neg (by omega),if_pos h1]
theorem tk_kind1 (s:ByteArray) (k:Nat) (h1:(tkR s k).kind=1):isW (nx s (skip s k))=true:=by
 unfold tkR at h1
 by_cases h0:skip s k=s.size
 ·rw [if_pos h0] at h1;simp at h1
 rw [if_neg h0] at h1
 by_cases h2:isW (nx s (skip s k))=true
 ·exact h2
 rw [if_neg h2] at h1
 by_cases h3:nx s (skip s k)=34
 ·rw [if_pos h3] at h1
  cases hq:quote s (skip s k+1) []<;>(rw [hq] at h1;simp at h1)
 rw [if_neg h3] at h1
 by_cases h4:nx s (skip s k)=35
 ·rw [if_pos h4] at h1
  cases hq:badAt s (skip s k)<;>(rw [hq] at h1;simp at h1)
 rw [if_neg h4] at h1
 split at h1<;>simp at h1
theorem tok_none {s:ByteArray} {k:Nat} (h:isW (nx s k)=false):tok s k=⟨#[]⟩:=tok_empty s (tok_out h)
def OutR (w:World) (pb:Nat) (s:ByteArray) (d:Nat) (wr:Int) (r:Rs T) (e:Ending) (w':World):Prop :=
 match r with
 | .ok t k=>∃ v j,e=.returned v∧Nd w' (Own w w') v t∧PD w' pb s j wr 0 d∧j≤s.size∧skip s j=skip s k∧Kp (·=pb) w w'
 | .err k c=>∃ v t j,e=.returned v∧Nd w' (Own w w') v t∧PD w' pb s j (k:Nat) c d∧j≤s.size∧c≠0∧Kp (·=pb) w w'
section
variable (L:Lex) (s:ByteArray)
theorem Rest_skip {l d:Nat} {t:T} {a b:Nat} (h1:1≤l) (ha:a≤s.size) (hb:b≤s.size) (h:skip s a=skip s b):Rest L s l d t a=Rest L s l d t b:=by
 rw [Rest_eq L s l d t a h1 ha,Rest_eq L s l d t b h1 hb,h]
theorem Chain_skip (n:Nat):∀ {l d:Nat} {t:T} {a b:Nat},5 - l=n→1≤l→l≤4→a≤s.size→b≤s.size→skip s a=skip s b→Chain L s l d t a=Chain L s l d t b:=by
 induction n with
 | zero=>intro l d t a b hn h1 h4;omega
 | succ n ih =>
  intro l d t a b hn h1 h4 ha hb h
  rw [Chain_eq L s l d t a h4,Chain_eq L s l d t b h4]
  by_cases hl:l=4
  ·subst hl
   rw [Chain_top L s 5 d t a (by omega),Chain_top L s 5 d t b (by omega)]
   exact Rest_skip L s h1 ha hb h
  ·rw [ih (by omega) (by omega) (by omega) ha hb h]
theorem OutR.chain {w:World} {pb d:Nat} {wr:Int} {e:Ending} {w':World} {l:Nat} {t:T} {a b:Nat} (h1:1≤l) (ha:a≤s.size) (hb:b≤s.size) (h:skip s a=skip s b) (ho:OutR w pb s d wr (Chain L s l d t a) e w'):OutR w pb s d wr (Chain L s l d t b) e w':=by
 by_cases h4:l≤4
 ·rw [← Chain_skip L s _ rfl h1 h4 ha hb h];exact ho
 ·rw [Chain_top L s l d t a (by omega)] at ho
  rw [Chain_top L s l d t b (by omega)]
  obtain⟨v,j,q1,q2,q3,q4,q5,q6⟩:=ho
  exact⟨v,j,q1,q2,q3,q4,q5.trans h,q6⟩
end
end Go.Proofs.YtgifkepklnhddaaGreatDoor.fm
namespace Go.Proofs.YtgifkepklnhddaaGreatDoor.fm
open Go.RowKit
set_option maxHeartbeats 8000000 in
theorem rclose_ok (pb k d:Nat) (wr:Int)  (s:ByteArray) (hs:s.size≤200) (w:World) (h:PD w pb s k wr 0 (d+1)) (hk:k≤s.size) (hd:d≤30) (t:Tk) (ht:tkR s k=t) (hc:t.kind=4) (hx:(t.t.toList == [41])=true) :
  Calls Tryz.prog 144 #[ptr pb] w fun e w'=>e=.returned (.tuple #[])∧PD w' pb s t.e wr 0 d∧Kp (·=pb) w w':=by
 have HT:Hid (∀ w,Calls Tryz.prog 81 #[.string s,.int .i64 k] w fun e w'=>e=.returned (KV (tkR s k).kind ((tkR s k).a:Nat) ((tkR s k).e:Nat) (tkR s k).t)∧Below w.heap.size w w'):=fun w=>token_at s k w hs hk
 rw [ht] at HT
 clear ht
 obtain⟨⟨c0,c1,c2,c3,c4⟩,f0,f1,f2,f3,f4⟩:=h.cells
 have hc':(t.kind != 4)=false:=by rw [hc];rfl
 clear hc
 go_enter Tryz.func144,Tryz.ntmps144
 go_upto_region 0 with fail
 go_cut [2] (fun s2 wx=>∃ kb,s2=ptr kb∧KS w t kb wx)
 case first =>
  have hlt:=h.lt
  have hne:w.heap.size≠pb:=by omega
  have hne':pb≠w.heap.size:=by omega
  go_region_with (go_at_call 81;refine (HT.out _).mono ?_;rintro e w1 ⟨rfl,hb⟩;first | (have hz:=kz_a hb;have hz4:=cells4f hz;obtain⟨⟨z0,z1,z2,z3⟩,y0,y1,y2,y3⟩:=hz4) | skip)
  all_goals
   go_wp2_with fail
   go_meet
   case rel=>first | exact⟨_,rfl,ks3 hb⟩ | exact ks2 hb (Q:=fun W=>∃ kb,_=ptr kb∧KS w t kb W) (fun w2 h2=>⟨_,rfl,h2⟩)
 case rest =>
 obtain⟨kb,rfl,hS⟩:=hcut
 clear c0 c1 c2 c3 c4 f0 f1 f2 f3 f4 HT
 have hlt:=h.lt
 have hlo:=hS.lo
 have hne:kb≠pb:=by omega
 have hP:PD wc pb s k wr 0 (d+1):=h.below hS.below
 obtain⟨⟨c0,c1,c2,c3,c4⟩,f0,f1,f2,f3,f4⟩:=hP.cells
 obtain⟨⟨z0,z1,z2,z3⟩,y0,y1,y2,y3⟩:=cells4f hS.blk
 have hKx:Kp (·=pb) w wc:=(Kp.refl (·=pb) w).below hS.below
 go_wp2_with fail
 go_end0
 exact⟨rfl,(hP.setAt t.e).setDeep d,(hKx.setCell (Or.inl rfl) _).setCell (Or.inl rfl) _⟩
end Go.Proofs.YtgifkepklnhddaaGreatDoor.fm
namespace Go.Proofs.YtgifkepklnhddaaGreatDoor.fm
open Go.RowKit
set_option maxHeartbeats 8000000 in
theorem rclose_bad (pb k d:Nat) (wr:Int) (bd:Int) (hbd:bd≠0) (s:ByteArray) (hs:s.size≤200) (w:World) (h:PD w pb s k wr bd (d+1)) (hk:k≤s.size) (hd:d≤30) (t:Tk) (ht:tkR s k=t)  :
  Calls Tryz.prog 144 #[ptr pb] w fun e w'=>e=.returned (.tuple #[])∧PD w' pb s t.e wr bd d∧Kp (·=pb) w w':=by
 have HT:Hid (∀ w,Calls Tryz.prog 81 #[.string s,.int .i64 k] w fun e w'=>e=.returned (KV (tkR s k).kind ((tkR s k).a:Nat) ((tkR s k).e:Nat) (tkR s k).t)∧Below w.heap.size w w'):=fun w=>token_at s k w hs hk
 rw [ht] at HT
 clear ht
 obtain⟨⟨c0,c1,c2,c3,c4⟩,f0,f1,f2,f3,f4⟩:=h.cells
 have hb0:(bd == 0)=false:=by rw [beq_eq_false_iff_ne];exact hbd
 clear hbd
 go_enter Tryz.func144,Tryz.ntmps144
 go_upto_region 0 with fail
 go_cut [2] (fun s2 wx=>∃ kb,s2=ptr kb∧KS w t kb wx)
 case first =>
  have hlt:=h.lt
  have hne:w.heap.size≠pb:=by omega
  have hne':pb≠w.heap.size:=by omega
  go_region_with (go_at_call 81;refine (HT.out _).mono ?_;rintro e w1 ⟨rfl,hb⟩;first | (have hz:=kz_a hb;have hz4:=cells4f hz;obtain⟨⟨z0,z1,z2,z3⟩,y0,y1,y2,y3⟩:=hz4) | skip)
  all_goals
   go_wp2_with fail
   go_meet
   case rel=>first | exact⟨_,rfl,ks3 hb⟩ | exact ks2 hb (Q:=fun W=>∃ kb,_=ptr kb∧KS w t kb W) (fun w2 h2=>⟨_,rfl,h2⟩)
 case rest =>
 obtain⟨kb,rfl,hS⟩:=hcut
 clear c0 c1 c2 c3 c4 f0 f1 f2 f3 f4 HT
 have hlt:=h.lt
 have hlo:=hS.lo
 have hne:kb≠pb:=by omega
 have hP:PD wc pb s k wr bd (d+1):=h.below hS.below
 obtain⟨⟨c0,c1,c2,c3,c4⟩,f0,f1,f2,f3,f4⟩:=hP.cells
 obtain⟨⟨z0,z1,z2,z3⟩,y0,y1,y2,y3⟩:=cells4f hS.blk
 have hKx:Kp (·=pb) w wc:=(Kp.refl (·=pb) w).below hS.below
 go_wp2_with fail
 go_end0
 exact⟨rfl,(hP.setAt t.e).setDeep d,(hKx.setCell (Or.inl rfl) _).setCell (Or.inl rfl) _⟩
end Go.Proofs.YtgifkepklnhddaaGreatDoor.fm
namespace Go.Proofs.YtgifkepklnhddaaGreatDoor.fm
open Go.RowKit
set_option maxHeartbeats 8000000 in
theorem rclose_no (pb k d:Nat) (wr:Int)  (s:ByteArray) (hs:s.size≤200) (w:World) (h:PD w pb s k wr 0 (d+1)) (hk:k≤s.size) (hd:d≤30) (t:Tk) (ht:tkR s k=t) (hn:¬ (t.kind=4∧(t.t.toList == [41])=true)) :
  Calls Tryz.prog 144 #[ptr pb] w fun e w'=>e=.returned (.tuple #[])∧PD w' pb s t.e (t.a:Nat) 2 d∧Kp (·=pb) w w':=by
 have HT:Hid (∀ w,Calls Tryz.prog 81 #[.string s,.int .i64 k] w fun e w'=>e=.returned (KV (tkR s k).kind ((tkR s k).a:Nat) ((tkR s k).e:Nat) (tkR s k).t)∧Below w.heap.size w w'):=fun w=>token_at s k w hs hk
 rw [ht] at HT
 clear ht
 obtain⟨⟨c0,c1,c2,c3,c4⟩,f0,f1,f2,f3,f4⟩:=h.cells
 have HN:Hid (¬ (t.kind=4∧(t.t.toList == [41])=true)):=hn
 clear hn
 go_enter Tryz.func144,Tryz.ntmps144
 go_upto_region 0 with fail
 go_cut [2] (fun s2 wx=>∃ kb,s2=ptr kb∧KS w t kb wx)
 case first =>
  have hlt:=h.lt
  have hne:w.heap.size≠pb:=by omega
  have hne':pb≠w.heap.size:=by omega
  go_region_with (go_at_call 81;refine (HT.out _).mono ?_;rintro e w1 ⟨rfl,hb⟩;first | (have hz:=kz_a hb;have hz4:=cells4f hz;obtain⟨⟨z0,z1,z2,z3⟩,y0,y1,y2,y3⟩:=hz4) | skip)
  all_goals
   go_wp2_with fail
   go_meet
   case rel=>first | exact⟨_,rfl,ks3 hb⟩ | exact ks2 hb (Q:=fun W=>∃ kb,_=ptr kb∧KS w t kb W) (fun w2 h2=>⟨_,rfl,h2⟩)
 case rest =>
 obtain⟨kb,rfl,hS⟩:=hcut
 clear c0 c1 c2 c3 c4 f0 f1 f2 f3 f4 HT
 have hlt:=h.lt
 have hlo:=hS.lo
 have hne:kb≠pb:=by omega
 have hP:PD wc pb s k wr 0 (d+1):=h.below hS.below
 obtain⟨⟨c0,c1,c2,c3,c4⟩,f0,f1,f2,f3,f4⟩:=hP.cells
 obtain⟨⟨z0,z1,z2,z3⟩,y0,y1,y2,y3⟩:=cells4f hS.blk
 have hKx:Kp (·=pb) w wc:=(Kp.refl (·=pb) w).below hS.below
 by_cases c4':t.kind=4
 ·have hx:(t.t.toList == [41])=false:=by
   cases hq:(t.t.toList == [41]) with
   | true=>exact absurd ⟨c4',hq⟩ HN.out
   | false=>rfl
  have hc':(t.kind != 4)=false:=by rw [c4'];rfl
  clear HN c4'
  go_wp2_with fail
  go_at_call 82
  refine (fail_first pb k (d+1) wr s t.a 2 _ hP).mono ?_
  rintro e w2 ⟨rfl,hP2,hK2⟩
  clear c0 c1 c2 c3 c4 f0 f1 f2 f3 f4 z0 z1 z2 z3 y0 y1 y2 y3
  obtain⟨⟨c0,c1,c2,c3,c4⟩,f0,f1,f2,f3,f4⟩:=hP2.cells
  obtain⟨⟨z0,z1,z2,z3⟩,y0,y1,y2,y3⟩:=cells4f (hK2.blk hS.blk hne)
  go_wp2_with fail
  go_end0
  exact⟨rfl,(hP2.setAt t.e).setDeep d,((hKx.trans hK2 (fun n hn=>Or.inl hn)).setCell (Or.inl rfl) _).setCell (Or.inl rfl) _⟩
 ·have hc':(t.kind != 4)=true:=by rw [bne_iff_ne];exact c4'
  clear HN c4'
  go_wp2_with fail
  go_at_call 82
  refine (fail_first pb k (d+1) wr s t.a 2 _ hP).mono ?_
  rintro e w2 ⟨rfl,hP2,hK2⟩
  clear c0 c1 c2 c3 c4 f0 f1 f2 f3 f4 z0 z1 z2 z3 y0 y1 y2 y3
  obtain⟨⟨c0,c1,c2,c3,c4⟩,f0,f1,f2,f3,f4⟩:=hP2.cells
  obtain⟨⟨z0,z1,z2,z3⟩,y0,y1,y2,y3⟩:=cells4f (hK2.blk hS.blk hne)
  go_wp2_with fail
  go_end0
  exact⟨rfl,(hP2.setAt t.e).setDeep d,((hKx.trans hK2 (fun n hn=>Or.inl hn)).setCell (Or.inl rfl) _).setCell (Or.inl rfl) _⟩
end Go.Proofs.YtgifkepklnhddaaGreatDoor.fm
namespace Go.Proofs.YtgifkepklnhddaaGreatDoor.fm
open Go.RowKit
theorem OutR.open {w:World} {pb:Nat} {s:ByteArray} {d:Nat} {wr:Int} {r:Rs T} {e:Ending} {w':World} (h:OutR w pb s d wr r e w') :
  ∃ (a n:Int) (s1:ByteArray) (r1 t1:Rf) (p:Option Addr) (m c:Nat) (u:T) (j:Nat) (wr' bd:Int),e=.returned (NV a n s1 r1 t1 (.slice p m c))∧Nd w' (Own w w') (NV a n s1 r1 t1 (.slice p m c)) u∧PD w' pb s j wr' bd d∧j≤s.size∧Kp (·=pb) w w' ∧
   ((∃ k,r=.ok u k∧bd=0∧wr'=wr∧skip s j=skip s k)∨(∃ k:Nat,r=.err k bd∧wr'=k∧bd≠0)):=by
 cases r with
 | ok t k =>
  obtain⟨v,j,h1,h2,h3,h4,h5,h6⟩:=h
  cases h2 with
  | mk hk hl hs=>exact⟨_,_,_,_,_,_,_,_,_,j,wr,0,h1,.mk hk hl hs,h3,h4,h6,.inl ⟨k,rfl,rfl,rfl,h5⟩⟩
 | err k c =>
  obtain⟨v,t,j,h1,h2,h3,h4,h5,h6⟩:=h
  cases h2 with
  | mk hk hl hs=>exact⟨_,_,_,_,_,_,_,_,_,j,k,c,h1,.mk hk hl hs,h3,h4,h6,.inr ⟨k,rfl,rfl,h5⟩⟩
theorem PD.alloc {w:World} {pb:Nat} {s:ByteArray} {k:Nat} {wr bd:Int} {d:Nat} (h:PD w pb s k wr bd d) (o:Obj):PD (w.alloc o) pb s k wr bd d:=h.below ((Below.refl _ _).alloc (Nat.le_refl _) _)
def Shut (s:ByteArray) (j:Nat) (wr bd:Int) (j':Nat) (wr' bd':Int):Prop :=
 (bd≠0∧bd'=bd∧wr'=wr)∨(bd=0∧nx s (skip s j)=41∧bd'=0∧wr'=wr∧j'=skip s j+1)∨(bd=0∧nx s (skip s j)≠41∧bd'=2∧wr'=(skip s j:Nat))
theorem rclose_any (pb j d:Nat) (wr bd:Int) (s:ByteArray) (hs:s.size≤200) (w:World) (h:PD w pb s j wr bd (d+1)) (hj:j≤s.size) (hd:d≤30) :
  Calls Tryz.prog 144 #[ptr pb] w fun e w'=>e=.returned (.tuple #[])∧(∃ j' wr' bd',PD w' pb s j' wr' bd' d∧j'≤s.size∧Shut s j wr bd j' wr' bd')∧Kp (·=pb) w w':=by
 have hsp:=tk_spec s j hj
 have hb:=tk_byte s j 41 (.inr (.inl rfl)) hj
 by_cases h0:bd=0
 ·subst h0
  by_cases c:nx s (skip s j)=41
  ·obtain⟨q1,q2⟩:=hb.1.2 c
   refine (rclose_ok pb j d wr s hs w h hj hd _ rfl q1 q2).mono ?_
   rintro e w' ⟨rfl,hP,hK⟩
   exact⟨rfl,⟨_,_,_,hP,hsp.2.2,.inr (.inl ⟨rfl,c,rfl,rfl,hb.2 c⟩)⟩,hK⟩
  ·refine (rclose_no pb j d wr s hs w h hj hd _ rfl (fun q=>c (hb.1.1 q))).mono ?_
   rintro e w' ⟨rfl,hP,hK⟩
   rw [hsp.1] at hP
   exact⟨rfl,⟨_,_,_,hP,hsp.2.2,.inr (.inr ⟨rfl,c,rfl,rfl⟩)⟩,hK⟩
 ·refine (rclose_bad pb j d wr bd h0 s hs w h hj hd _ rfl).mono ?_
  rintro e w' ⟨rfl,hP,hK⟩
  exact⟨rfl,⟨_,_,_,hP,hsp.2.2,.inl ⟨h0,rfl,rfl⟩⟩,hK⟩
end Go.Proofs.YtgifkepklnhddaaGreatDoor.fm
namespace Go.Proofs.YtgifkepklnhddaaGreatDoor.fm
open Go.RowKit
theorem skip_mono {s:ByteArray} {a b:Nat} (h:a≤b):skip s a≤skip s b:=by
 fun_induction skip s a with
 | case1 a ha ih =>
  by_cases e:a=b
  ·subst e;rw [skip_blank ha];exact Nat.le_refl _
  ·exact ih (by omega)
 | case2 a ha=>exact Nat.le_trans h (skip_spec s b).1
def mOf (w:World) (pb:Nat) (s:ByteArray):Nat:=if (w.cell? ⟨pb,3,none⟩).map intOf=some 0 then s.size - skip s (((w.cell? ⟨pb,1,none⟩).map intOf).getD 0).toNat+1 else 0
theorem mOf_ok {w:World} {pb:Nat} {s:ByteArray} {k:Nat} {wr:Int} {d:Nat} (h:PD w pb s k wr 0 d):mOf w pb s=s.size - skip s k+1:=by
 unfold mOf
 rw [h.cells.1.2.2.2.1,h.cells.1.2.1]
 simp [intOf]
theorem mOf_bad {w:World} {pb:Nat} {s:ByteArray} {k:Nat} {wr c:Int} {d:Nat} (hc:c≠0) (h:PD w pb s k wr c d):mOf w pb s=0:=by
 unfold mOf
 rw [h.cells.1.2.2.2.1]
 simp [intOf,hc]
theorem Nd.next3 {a b:World} {B nb:Nat} {v:Value} {t:T} (h:Nd a (fun n=>(B≤n∧n<a.heap.size)∧n≠nb) v t) (hb:Below a.heap.size a b):Nd b (fun n=>(B≤n∧n<b.heap.size)∧n≠nb) v t :=
 h.mono (fun n hn=>hb.block n hn.1.2) (fun _ hn=>⟨⟨hn.1.1,Nat.lt_of_lt_of_le hn.1.2 hb.size⟩,hn.2⟩)
def LR (w:World) (pb nb:Nat) (s:ByteArray) (l d k:Nat) (wr0:Int) (L:Lex) (RR:Rs T) (wr:World):Prop :=
 ∃ t cs,wr.heap[w.heap.size]?=some (.cells NZ 57 (0,0))∧wr.heap[nb]?=some (.cells cs 57 (0,0))∧Nd wr (fun b=>(w.heap.size+1≤b∧b<wr.heap.size)∧b≠nb) (.agg cs) t∧Kp (·=pb) w wr ∧
  ((∃ j,PD wr pb s j wr0 0 d∧j≤s.size∧skip s k≤skip s j∧∀ e w',OutR w pb s d wr0 (Chain L s l d t j) e w'→OutR w pb s d wr0 RR e w') ∨
   (∃ j f c,PD wr pb s j (f:Nat) c d∧j≤s.size∧c≠0∧∀ e w',OutR w pb s d wr0 (.err f c) e w'→OutR w pb s d wr0 RR e w'))
section
variable {L:Lex} {s:ByteArray} (hs:s.size≤200)
include hs
set_option maxRecDepth 100000 in
set_option maxHeartbeats 8000000 in
theorem rloose_of (pb k d l:Nat) (wr0:Int) (w:World) (h:PD w pb s k wr0 0 d) (hk:k≤s.size) (hl1:1≤l) (hl5:l≤5)
  (hone:∀ w1,PD w1 pb s k wr0 0 d→Calls Tryz.prog 110 #[ptr pb] w1 (OutR w1 pb s d wr0 (Operand L s d k)))
  (hop:∀ l' j w1,1≤l'→l'≤5→skip s k<j→j≤s.size→PD w1 pb s j wr0 0 d→Calls Tryz.prog 80 #[ptr pb,.int .i64 (l':Nat)] w1 (OutR w1 pb s d wr0 (Expr L s l' d j))) :
  Calls Tryz.prog 80 #[ptr pb,.int .i64 (l:Nat)] w (OutR w pb s d wr0 (Expr L s l d k)):=by
 have hrl:=h.lt
 obtain⟨RR,hRR⟩:∃ RR,Expr L s l d k=RR:=⟨_,rfl⟩
 rw [hRR]
 rw [Expr_chain L s _ l d k rfl hl1 hl5 hk] at hRR
 have HRR:Hid ((Operand L s d k).bind (fun t k'=>Chain L s l d t k')=RR):=hRR
 have HONE:Hid (∀ w1,PD w1 pb s k wr0 0 d→Calls Tryz.prog 110 #[ptr pb] w1 (OutR w1 pb s d wr0 (Operand L s d k))):=hone
 have HEX:Hid (∀ l' j w1,1≤l'→l'≤5→skip s k<j→j≤s.size→PD w1 pb s j wr0 0 d→Calls Tryz.prog 80 #[ptr pb,.int .i64 (l':Nat)] w1 (OutR w1 pb s d wr0 (Expr L s l' d j))):=hop
 clear hRR hop hone
 have hK0:=(Kp.refl (·=pb) w).alloc (.cells NZ 57)
 have hP0:=h.alloc (.cells NZ 57)
 have hq0:=blk_new w (.cells NZ 57)
 go_enter Tryz.func80,Tryz.ntmps80
 go_wp2_with fail
 generalize w.alloc (.cells NZ 57)=w0 at *
 refine (HONE.out _ hP0).mono ?_
 intro e w1 ho
 have hs0:=lt_blk hq0
 obtain⟨v,t,hev,hN1,hK1,hX⟩:∃ v t,e=.returned v∧Nd w1 (Own w0 w1) v t∧Kp (·=pb) w0 w1∧((∃ j,PD w1 pb s j wr0 0 d∧j≤s.size∧skip s k≤skip s j∧∀ e w',OutR w pb s d wr0 (Chain L s l d t j) e w'→OutR w pb s d wr0 RR e w')∨(∃ j f c,PD w1 pb s j (f:Nat) c d∧j≤s.size∧c≠0∧∀ e w',OutR w pb s d wr0 (.err f c) e w'→OutR w pb s d wr0 RR e w')):=by
  cases hx:Operand L s d k with
  | ok t k1 =>
   have hpg:=Operand_prog L s hk hx
   rw [hx] at ho
   have h1:=HRR.out
   rw [hx] at h1
   obtain⟨v,j,q1,q2,q3,q4,q5,q6⟩:=ho
   refine⟨v,t,q1,q2,q6,.inl ⟨j,q3,q4,by rw [q5];exact skip_mono (by omega),fun e w' hh=>?_⟩⟩
   rw [← h1]
   exact OutR.chain L s hl1 q4 hpg.2 q5 hh
  | err f c =>
   rw [hx] at ho
   have h1:=HRR.out
   rw [hx] at h1
   obtain⟨v,t,j,q1,q2,q3,q4,q5,q6⟩:=ho
   exact⟨v,t,q1,q2,q6,.inr ⟨j,f,c,q3,q4,q5,fun e w' hh=>by rw [← h1];exact hh⟩⟩
 subst hev
 clear ho HRR HONE
 have hKw1:=hK0.trans hK1 (fun n e=>.inl e)
 cases hN1 with
 | @mk a1 n1 s1 r1 t1 p1 m1 e1 us0 ts0 hk' hl' hs' =>
 have hN1:=Nd.mk (k:=a1) (n:=n1) (s:=s1) (r:=r1) (t:=t1) hk' hl' hs'
 clear hk' hl' hs'
 have hLR:LR w pb w1.heap.size s l d k wr0 L RR (w1.alloc (.cells (N12 a1 n1 s1 r1 t1 (.slice p1 m1 e1)) 57)):=by
  refine⟨.nd a1 n1 s1 r1 t1 ts0,(N12 a1 n1 s1 r1 t1 (.slice p1 m1 e1)),?_,blk_new _ _,?_,hKw1.alloc _,?_⟩
  ·rw [Below.heap_alloc _ _ _ (by have:=hK1.size;omega)];exact hK1.blk hq0 (by omega)
  ·exact hN1.mono (fun n hn=>Below.heap_alloc _ _ _ hn.2) (fun n hn=>⟨⟨by have:=hn.1;omega,by simp;have:=hn.2;omega⟩,by have:=hn.2;omega⟩)
  ·rcases hX with ⟨j,q1,q2⟩ | ⟨j,f,c,q1,q2⟩
   ·exact .inl ⟨j,q1.alloc _,q2⟩
   ·exact .inr ⟨j,f,c,q1.alloc _,q2⟩
 have hnb:w.heap.size<w1.heap.size:=by have:=hK1.size;omega
 have hnp:w1.heap.size≠pb:=by omega
 clear hN1 hX hKw1 hK1 hs0 hq0 hK0 hP0
 go_wp2_with fail
 generalize w1.alloc (.cells (N12 a1 n1 s1 r1 t1 (.slice p1 m1 e1)) 57)=wv at *
 generalize w1.heap.size=nb at *
 go_loopw [6,7,8] (fun _ _ _ wr=>LR w pb nb s l d k wr0 L RR wr) (fun _ _ _ wr=>mOf wr pb s)
 case atStart=>exact hLR
 case round =>
  clear hLR
  obtain⟨t,cs,hq,hb,hN,hK,hX⟩:=hrel
  rcases hX with ⟨j,hP,hj,hkj,hch⟩ | ⟨j,f,c,hP,hj,hc,hRR⟩
  ·have HCH:Hid (∀ e w',OutR w pb s d wr0 (Chain L s l d t j) e w'→OutR w pb s d wr0 RR e w'):=hch
   have HM:Hid (mOf wr pb s=s.size - skip s j+1):=mOf_ok hP
   clear hch
   obtain⟨⟨c0,c1,c2,c3,c4⟩,f0,f1,f2,f3,f4⟩:=hP.cells
   have HT:Hid (∀ w,Calls Tryz.prog 81 #[.string s,.int .i64 j] w fun e w'=>e=.returned (KV (tkR s j).kind ((tkR s j).a:Nat) ((tkR s j).e:Nat) (tkR s j).t)∧Below w.heap.size w w'):=fun w=>token_at s j w hs hj
   have hsg:=tk_sign s j hj
   have hte:=(tk_spec s j hj).2.2
   generalize tkR s j=tk at *
   have HSG:Hid _:=hsg
   clear hsg
   go_upto_region 3 with fail
   go_cut [6] (fun s6 wx=>∃ kb,s6=ptr kb∧KS wr tk kb wx)
   case first =>
    have hlt0:=hP.lt
    have hne:wr.heap.size≠pb:=by omega
    have hne':pb≠wr.heap.size:=by omega
    have KK:Hid (∀ wx,Below wr.heap.size wr wx→wx.cell? ⟨pb,0,none⟩=some (.string s)∧wx.cell? ⟨pb,1,none⟩=some (.int .i64 j)):=fun wx hb=>⟨(hb.cell (p:=⟨pb,0,none⟩) hlt0).trans c0,(hb.cell (p:=⟨pb,1,none⟩) hlt0).trans c1⟩
    clear c0 c1 c2 c3 c4 f0 f1 f2 f3 f4
    go_region_held3 (fun wx=>wx.cell? ⟨pb,0,none⟩=some (.string s)∧wx.cell? ⟨pb,1,none⟩=some (.int .i64 j)) (exact KK.out _ (by (repeat (first | exact Below.refl _ _ | assumption | (refine Below.setCell ?_ (by first | exact Nat.le_refl _ | omega) _) | (refine Below.alloc ?_ (by first | exact Nat.le_refl _ | exact hb'.size | omega | (simp<;>omega)) _) | (refine Below.drew ?_))))) ((go_at_call 81;refine (HT.out _).mono ?_;rintro e w1 ⟨rfl,hb⟩;have hb':Below wr.heap.size wr w1:=(by first | exact kb1 hb | exact kb2 hb);first | (have hz:=kz_a hb;have hz4:=cells4f hz;obtain⟨⟨z0,z1,z2,z3⟩,y0,y1,y2,y3⟩:=hz4) | skip))
    all_goals
     go_wp2_with fail
     go_meet
     case rel=>first | exact⟨_,rfl,ks3 hb⟩ | exact ks2 hb (Q:=fun W=>∃ kb,_=ptr kb∧KS wr tk kb W) (fun w2 h2=>⟨_,rfl,h2⟩)
   case rest =>
   obtain⟨kb,rfl,hS⟩:=hcut
   clear c0 c1 c2 c3 c4 f0 f1 f2 f3 f4 HT
   have hPl:=hP.lt
   have hlo:=hS.lo
   have hne:kb≠pb:=by omega
   have hlb:=lt_blk hb
   have hlq:=lt_blk hq
   have hner:kb≠nb:=by omega
   have hPc:PD wc pb s j wr0 0 d:=hP.below hS.below
   have hqc:wc.heap[w.heap.size]?=some (.cells NZ 57 (0,0)):=by rw [hS.below.block _ hlq];exact hq
   have hbc:wc.heap[nb]?=some (.cells cs 57 (0,0)):=by rw [hS.below.block _ hlb];exact hb
   have hNc:=hN.next3 hS.below
   have hKc:Kp (·=pb) w wc:=hK.below hS.below
   clear hN hK hP hq hb
   obtain⟨⟨z0,z1,z2,z3⟩,y0,y1,y2,y3⟩:=cells4f hS.blk
   by_cases c4:tk.kind=4
   ·have h4':(tk.kind == 4)=true:=beq_iff_eq.2 c4
    have hop:=opAt_spec s (skip s j)
    obtain⟨hsg1,hsg2⟩:=HSG.out.1 c4
    have HSO:Hid (sgnOf tk.t=(opAt s (skip s j)).1):=hsg1
    have HSE:Hid ((opAt s (skip s j)).1≠0→tk.e=skip s j+(opAt s (skip s j)).2):=hsg2
    have HCS:Hid (l≤lev (opAt s (skip s j)).1→Chain L s l d t j=(Expr L s (lev (opAt s (skip s j)).1+1) d (skip s j+(opAt s (skip s j)).2)).bind fun u k'=>Chain L s l d (tTwo (opAt s (skip s j)).1 t u) k'):=fun hv=>Chain_some L s _ l d t j rfl hl1 hj hv
    have HCN:Hid (lev (opAt s (skip s j)).1<l→Chain L s l d t j=.ok t (if 4<l then j else skip s j)):=fun hv=>Chain_none L s _ l d t j rfl hl1 hj hv
    clear HSG hsg1 hsg2 c4
    have HOP:Hid _:=hop
    clear hop
    generalize opAt s (skip s j)=opp at *
    obtain⟨op,len⟩:=opp
    simp only at HSO HSE HCS HCN HOP
    go_wp2_with fail
    go_at_call 111
    refine (sign_any tk.t _).mono ?_
    rw [HSO.out]
    rintro e w3 ⟨rfl,hB3⟩
    have hP3:=hPc.below hB3
    have hq3:w3.heap[w.heap.size]?=some (.cells NZ 57 (0,0)):=by rw [hB3.block _ (lt_blk hqc)];exact hqc
    have hb3:w3.heap[nb]?=some (.cells cs 57 (0,0)):=by rw [hB3.block _ (lt_blk hbc)];exact hbc
    have hk3:w3.heap[kb]?=some (.cells (K4 tk) 137 (0,0)):=by rw [hB3.block _ (lt_blk hS.blk)];exact hS.blk
    have hN3:=hNc.next3 hB3
    have hK3:Kp (·=pb) w w3:=hKc.below hB3
    clear z0 z1 z2 z3 y0 y1 y2 y3 hNc hKc hPc hqc hbc hB3
    obtain⟨⟨z0,z1,z2,z3⟩,y0,y1,y2,y3⟩:=cells4f hk3
    by_cases ho:op=0
    ·have hopz:((op:Int) == 0)=true:=by rw [beq_iff_eq];omega
     have HCR:Hid (Chain L s l d t j=.ok t (if 4<l then j else skip s j)):=HCN.out (by rw [ho];simp [lev];omega)
     clear HCN HCS HSE HSO HOP
     cases hN3 with
     | @mk a3 n3 s3 r3 t3 p3 m3 e3 us3 ts3 hk' hl' hs' =>
     have hN3:=Nd.mk (k:=a3) (n:=n3) (s:=s3) (r:=r3) (t:=t3) hk' hl' hs'
     clear hk' hl' hs'
     obtain⟨⟨b0,b1,b2,b3,b4,b5,b6,b7,b8,b9,b10,b11⟩,bf⟩:=cells12 hb3
     obtain⟨⟨d0,d1,d2,d3,d4,d5,d6,d7,d8,d9,d10,d11⟩,df⟩:=cells12 hq3
     go_wp2_with (first | (go_at_call 112;refine (HTI.out _).mono ?_;rintro e w4 ⟨rfl,rfl⟩))
     clear b0 b1 b2 b3 b4 b5 b6 b7 b8 b9 b10 b11 bf d0 d1 d2 d3 d4 d5 d6 d7 d8 d9 d10 d11 df
     refine fin12 hq3 (Q:=bodyPost _ _ _ _ _) ?_
     intro w9 hq9 hk9
     obtain⟨⟨b0,b1,b2,b3,b4,b5,b6,b7,b8,b9,b10,b11⟩,bf⟩:=cells12 hq9
     refine bodyPost_ret (v:=NV a3 n3 s3 r3 t3 (.slice p3 m3 e3)) (by simp [results,Tryz.results80,go_sem,b0,b1,b2,b3,b4,b5,b6,b7,b8,b9,b10,b11]) rfl ?_
     refine HCH.out _ _ ?_
     rw [HCR.out]
     exact⟨_,j,rfl,hN3.mono (fun n hn=>hk9.block n hn.1.2 (by have:=hn.1.1;omega)) (fun n hn=>⟨by have:=hn.1.1;omega,Nat.lt_of_lt_of_le hn.1.2 hk9.size⟩),hP3.keep hk9 (by omega),hj,by split<;>simp [skip_skip],hK3.trans hk9 (fun n e=>by right;omega)⟩
    ·have hopz:((op:Int) == 0)=false:=by rw [beq_eq_false_iff_ne];omega
     have hop1:1≤op:=by omega
     have HTI:Hid (∀ w,Calls Tryz.prog 112 #[.int .i64 (op:Nat)] w fun e w'=>e=.returned (.int .i64 (lev op:Nat))∧w'=w):=fun w=>tight_any op hop1 w
     have hle:=lev_le op
     by_cases hv:lev op<l
     ·have hvI:((lev op:Nat):Int)<(l:Int):=by omega
      have HCR:Hid (Chain L s l d t j=.ok t (if 4<l then j else skip s j)):=HCN.out hv
      clear HCN HCS HSE HSO HOP
      cases hN3 with
      | @mk a3 n3 s3 r3 t3 p3 m3 e3 us3 ts3 hk' hl' hs' =>
      have hN3:=Nd.mk (k:=a3) (n:=n3) (s:=s3) (r:=r3) (t:=t3) hk' hl' hs'
      clear hk' hl' hs'
      obtain⟨⟨b0,b1,b2,b3,b4,b5,b6,b7,b8,b9,b10,b11⟩,bf⟩:=cells12 hb3
      obtain⟨⟨d0,d1,d2,d3,d4,d5,d6,d7,d8,d9,d10,d11⟩,df⟩:=cells12 hq3
      go_wp2_with (first | (go_at_call 112;refine (HTI.out _).mono ?_;rintro e w4 ⟨rfl,rfl⟩))
      clear b0 b1 b2 b3 b4 b5 b6 b7 b8 b9 b10 b11 bf d0 d1 d2 d3 d4 d5 d6 d7 d8 d9 d10 d11 df
      refine fin12 hq3 (Q:=bodyPost _ _ _ _ _) ?_
      intro w9 hq9 hk9
      obtain⟨⟨b0,b1,b2,b3,b4,b5,b6,b7,b8,b9,b10,b11⟩,bf⟩:=cells12 hq9
      refine bodyPost_ret (v:=NV a3 n3 s3 r3 t3 (.slice p3 m3 e3)) (by simp [results,Tryz.results80,go_sem,b0,b1,b2,b3,b4,b5,b6,b7,b8,b9,b10,b11]) rfl ?_
      refine HCH.out _ _ ?_
      rw [HCR.out]
      exact⟨_,j,rfl,hN3.mono (fun n hn=>hk9.block n hn.1.2 (by have:=hn.1.1;omega)) (fun n hn=>⟨by have:=hn.1.1;omega,Nat.lt_of_lt_of_le hn.1.2 hk9.size⟩),hP3.keep hk9 (by omega),hj,by split<;>simp [skip_skip],hK3.trans hk9 (fun n e=>by right;omega)⟩
     ·have hvI:¬ ((lev op:Nat):Int)<(l:Int):=by omega
      have HCR:=HCS.out (by omega)
      have HCZ:Hid _:=HCR
      have hlen:=HOP.out
      have hel:=HSE.out (by omega)
      have hk2:skip s j<tk.e:=by omega
      have HEL:Hid (tk.e=skip s j+len):=hel
      clear HCN HCS HSE HSO HOP HCR hlen hel
      obtain⟨⟨c0,c1,c2,c3,c4⟩,f0,f1,f2,f3,f4⟩:=hP3.cells
      go_wp2_with (first | (go_at_call 112;refine (HTI.out _).mono ?_;rintro e w4 ⟨rfl,rfl⟩))
      clear c0 c1 c2 c3 c4 f0 f1 f2 f3 f4 z0 z1 z2 z3 y0 y1 y2 y3 hk3 HTI
      have hPs:=hP3.setAt tk.e
      have hKs:=kpset w4 pb 1 (.int .i64 tk.e)
      have hqs:=hKs.blk hq3 (by omega)
      have hbs:=hKs.blk hb3 hnp
      have hNs:=hN3.next2 hKs (fun n e=>by left;omega)
      have hKws:=hK3.trans hKs (fun n e=>.inl e)
      clear hP3 hq3 hb3 hN3 hK3 hKs
      generalize w4.setCell ⟨pb,1,none⟩ (.int .i64 tk.e)=ws at *
      have hss:=hKws.size
      have HLBS:Hid (nb<ws.heap.size):=lt_blk hbs
      rw [show ((lev op:Nat):Int)+1=((lev op+1:Nat):Int) from by omega]
      refine (HEX.out (lev op+1) tk.e _ (by omega) (by omega) (by omega) hte hPs).mono ?_
      intro e w5 ho2
      obtain⟨a2,n2,s2,r2,t2,p2,m2,e2,u,j2,wr',bd,rfl,hM,hP5,hj2,hK5,hX⟩:=ho2.open
      have HX2:Hid _:=hX
      clear hX ho2
      have hq5:=hK5.blk hqs (by omega)
      have hb5:=hK5.blk hbs hnp
      have hN5:=hNs.next2 hK5 (fun n e=>by left;omega)
      have hKw5:=hKws.trans hK5 (fun n e=>.inl e)
      clear hPs hqs hbs hNs hKws
      cases hN5 with
      | @mk a3 n3 s3 r3 t3 p3 m3 e3 us3 ts3 hk' hl' hs' =>
      have hN5:=Nd.mk (k:=a3) (n:=n3) (s:=s3) (r:=r3) (t:=t3) hk' hl' hs'
      clear hk' hl' hs'
      go_upto_region 11 with fail
      have hKa:Kp (fun _=>False) w5 (w5.alloc (.cells (N12 a2 n2 s2 r2 t2 (.slice p2 m2 e2)) 57)):=(Kp.refl _ _).alloc _
      have hq6:=hKa.blk hq5 id
      have hb6:=hKa.blk hb5 id
      have hmb6:=blk_new w5 (.cells (N12 a2 n2 s2 r2 t2 (.slice p2 m2 e2)) 57)
      have hP6:=hP5.alloc (.cells (N12 a2 n2 s2 r2 t2 (.slice p2 m2 e2)) 57)
      have hN6:=hN5.next2 hKa (fun n e=>e.elim)
      have hM6:=hM.next hKa (fun n e=>e.elim)
      have hKw6:=hKw5.alloc (.cells (N12 a2 n2 s2 r2 t2 (.slice p2 m2 e2)) 57)
      have hlb5:=lt_blk hb5
      have hne5:w5.heap.size≠nb:=by omega
      have hsz6:(w5.alloc (.cells (N12 a2 n2 s2 r2 t2 (.slice p2 m2 e2)) 57)).heap.size=w5.heap.size+1:=by simp
      have HL:Hid (nb<w5.heap.size):=hlb5
      generalize w5.heap.size=mb at *
      generalize w5.alloc (.cells (N12 a2 n2 s2 r2 t2 (.slice p2 m2 e2)) 57)=w6 at *
      clear hlb5
      have HZ6:Hid (w6.heap.size=mb+1):=hsz6
      clear hsz6
      obtain⟨⟨b0,b1,b2,b3,b4,b5,b6,b7,b8,b9,b10,b11⟩,bf⟩:=cells12 hb6
      obtain⟨⟨d0,d1,d2,d3,d4,d5,d6,d7,d8,d9,d10,d11⟩,df⟩:=cells12 hmb6
      have hKb:Kp (fun _=>False) w6 (w6.alloc (.cells #[.int .i64 a3,.int .i64 n3,.string s3,.int .i64 r3.c,.int .i64 r3.r,.bool r3.fc,.bool r3.fr,.int .i64 t3.c,.int .i64 t3.r,.bool t3.fc,.bool t3.fr,.slice p3 m3 e3,.int .i64 a2,.int .i64 n2,.string s2,.int .i64 r2.c,.int .i64 r2.r,.bool r2.fc,.bool r2.fr,.int .i64 t2.c,.int .i64 t2.r,.bool t2.fc,.bool t2.fr,.slice p2 m2 e2] 57)):=(Kp.refl _ _).alloc _
      have hb7:=hKb.blk hb6 id
      have hq7:=hKb.blk hq6 id
      have hg7:=blk_new w6 (.cells #[.int .i64 a3,.int .i64 n3,.string s3,.int .i64 r3.c,.int .i64 r3.r,.bool r3.fc,.bool r3.fr,.int .i64 t3.c,.int .i64 t3.r,.bool t3.fc,.bool t3.fr,.slice p3 m3 e3,.int .i64 a2,.int .i64 n2,.string s2,.int .i64 r2.c,.int .i64 r2.r,.bool r2.fc,.bool r2.fr,.int .i64 t2.c,.int .i64 t2.r,.bool t2.fc,.bool t2.fr,.slice p2 m2 e2] 57)
      have hP7:=hP6.alloc (.cells #[.int .i64 a3,.int .i64 n3,.string s3,.int .i64 r3.c,.int .i64 r3.r,.bool r3.fc,.bool r3.fr,.int .i64 t3.c,.int .i64 t3.r,.bool t3.fc,.bool t3.fr,.slice p3 m3 e3,.int .i64 a2,.int .i64 n2,.string s2,.int .i64 r2.c,.int .i64 r2.r,.bool r2.fc,.bool r2.fr,.int .i64 t2.c,.int .i64 t2.r,.bool t2.fc,.bool t2.fr,.slice p2 m2 e2] 57)
      have hK7:=hKw6.alloc (.cells #[.int .i64 a3,.int .i64 n3,.string s3,.int .i64 r3.c,.int .i64 r3.r,.bool r3.fc,.bool r3.fr,.int .i64 t3.c,.int .i64 t3.r,.bool t3.fc,.bool t3.fr,.slice p3 m3 e3,.int .i64 a2,.int .i64 n2,.string s2,.int .i64 r2.c,.int .i64 r2.r,.bool r2.fc,.bool r2.fr,.int .i64 t2.c,.int .i64 t2.r,.bool t2.fc,.bool t2.fr,.slice p2 m2 e2] 57)
      have hN7:=hN6.next2 hKb (fun n e=>e.elim)
      have hM7:=hM6.next hKb (fun n e=>e.elim)
      have hsz7:w6.heap.size<(w6.alloc (.cells #[.int .i64 a3,.int .i64 n3,.string s3,.int .i64 r3.c,.int .i64 r3.r,.bool r3.fc,.bool r3.fr,.int .i64 t3.c,.int .i64 t3.r,.bool t3.fc,.bool t3.fr,.slice p3 m3 e3,.int .i64 a2,.int .i64 n2,.string s2,.int .i64 r2.c,.int .i64 r2.r,.bool r2.fc,.bool r2.fr,.int .i64 t2.c,.int .i64 t2.r,.bool t2.fc,.bool t2.fr,.slice p2 m2 e2] 57)).heap.size:=by simp
      have HSZ:Hid (w6.heap.size<(w6.alloc (.cells #[.int .i64 a3,.int .i64 n3,.string s3,.int .i64 r3.c,.int .i64 r3.r,.bool r3.fc,.bool r3.fr,.int .i64 t3.c,.int .i64 t3.r,.bool t3.fc,.bool t3.fr,.slice p3 m3 e3,.int .i64 a2,.int .i64 n2,.string s2,.int .i64 r2.c,.int .i64 r2.r,.bool r2.fc,.bool r2.fr,.int .i64 t2.c,.int .i64 t2.r,.bool t2.fc,.bool t2.fr,.slice p2 m2 e2] 57)).heap.size):=hsz7
      have HS3:Hid (w.heap.size≤w6.heap.size):=hKw6.size
      have HS4:Hid (w.heap.size≤ws.heap.size):=hss
      clear hsz7 hss
      obtain⟨⟨g0,g1,g2,g3,g4,g5,g6,g7,g8,g9,g10,g11⟩,gf⟩:=cells12 hb7
      go_wp2_with fail
      clear b0 b1 b2 b3 b4 b5 b6 b7 b8 b9 b10 b11 bf d0 d1 d2 d3 d4 d5 d6 d7 d8 d9 d10 d11 df g0 g1 g2 g3 g4 g5 g6 g7 g8 g9 g10 g11 gf
      refine fin12 hb7 (Q:=fun W=>LR w pb nb s l d k wr0 L RR W∧mOf W pb s<mOf wr pb s) ?_
      intro w9 hb9 hk9
      have hl9:=HL.out
      have hz9:=HZ6.out
      have hy9:=HSZ.out
      have hx9:=HS3.out
      have hv9:=HS4.out
      have hu9:=HLBS.out
      have ht9:=hk9.size
      have hP9:=hP7.keep hk9 (fun e=>hnp e.symm)
      have hK9:=hK7.trans hk9 (fun n e=>by right;omega)
      have hq9:=hk9.blk hq7 (by omega)
      have hA9:=hN7.next2 hk9 (fun n e=>.inr (.inr e))
      have hB9:Nd w9 (fun n=>(w.heap.size+1≤n∧n<w9.heap.size)∧n≠nb) (NV a2 n2 s2 r2 t2 (.slice p2 m2 e2)) u:=hM7.mono (fun n hn=>hk9.block n hn.2 (by have:=hn.1;omega)) (fun n hn=>⟨⟨by have:=hn.1;omega,Nat.lt_of_lt_of_le hn.2 hk9.size⟩,by have:=hn.1;omega⟩)
      have hC9:Nd w9 (fun n=>(w.heap.size+1≤n∧n<w9.heap.size)∧n≠nb) (NV 8 (op:Nat) nul .z .z (.slice (some ⟨w6.heap.size,0,none⟩) 2 2)) (tTwo op (.nd a3 n3 s3 r3 t3 ts3) u):=Nd.two (hk9.blk hg7 (by omega)) rfl ⟨⟨by omega,by omega⟩,by omega⟩ (Nat.le_refl _) hA9 hB9
      have hz:=HCZ.out
      rw [← HEL.out] at hz
      rw [HM.out]
      rcases HX2.out with ⟨k2,hr,hbd,hwr,hsk⟩ | ⟨f,hr,hwr,hbd⟩
      ·subst hbd
       subst hwr
       have hpg:=Expr_prog L s (by omega) hte hr
       rw [hr] at hz
       have hk2':=(skip_spec s k2).1
       refine⟨⟨_,_,hq9,hb9,hC9,hK9,.inl ⟨j2,hP9,hj2,by omega,fun e w' hh=>HCH.out _ _ ?_⟩⟩,?_⟩
       ·rw [hz];exact OutR.chain L s hl1 hj2 hpg.2.1 hsk hh
       ·rw [mOf_ok hP9];omega
      ·subst hwr
       rw [hr] at hz
       refine⟨⟨_,_,hq9,hb9,hC9,hK9,.inr ⟨j2,f,bd,hP9,hj2,hbd,fun e w' hh=>HCH.out _ _ ?_⟩⟩,?_⟩
       ·rw [hz];exact hh
       ·rw [mOf_bad hbd hP9];omega
   ·have h4':(tk.kind == 4)=false:=beq_eq_false_iff_ne.2 c4
    have ho:=HSG.out.2 c4
    have HV:Hid (lev (opAt s (skip s j)).1<l):=by unfold Hid;rw [ho];simp [lev];omega
    have HCR:Hid (Chain L s l d t j=.ok t (if 4<l then j else skip s j)):=Chain_none L s _ l d t j rfl hl1 hj HV.out
    clear HSG c4 ho HV
    have hqw:=hqc
    have hbw:=hbc
    have hNw:=hNc
    have hPw:=hPc
    have hKw:=hKc
    clear hqc hbc hNc hPc hKc
    cases hNw with
    | @mk a3 n3 s3 r3 t3 p3 m3 e3 us3 ts3 hk' hl' hs' =>
    have hNw:=Nd.mk (k:=a3) (n:=n3) (s:=s3) (r:=r3) (t:=t3) hk' hl' hs'
    clear hk' hl' hs'
    obtain⟨⟨b0,b1,b2,b3,b4,b5,b6,b7,b8,b9,b10,b11⟩,bf⟩:=cells12 hbw
    obtain⟨⟨d0,d1,d2,d3,d4,d5,d6,d7,d8,d9,d10,d11⟩,df⟩:=cells12 hqw
    go_wp2_with fail
    clear b0 b1 b2 b3 b4 b5 b6 b7 b8 b9 b10 b11 bf d0 d1 d2 d3 d4 d5 d6 d7 d8 d9 d10 d11 df
    refine fin12 hqw (Q:=bodyPost _ _ _ _ _) ?_
    intro w9 hq9 hk9
    obtain⟨⟨b0,b1,b2,b3,b4,b5,b6,b7,b8,b9,b10,b11⟩,bf⟩:=cells12 hq9
    refine bodyPost_ret (v:=NV a3 n3 s3 r3 t3 (.slice p3 m3 e3)) (by simp [results,Tryz.results80,go_sem,b0,b1,b2,b3,b4,b5,b6,b7,b8,b9,b10,b11]) rfl ?_
    refine HCH.out _ _ ?_
    rw [HCR.out]
    exact⟨_,j,rfl,hNw.mono (fun n hn=>hk9.block n hn.1.2 (by have:=hn.1.1;omega)) (fun n hn=>⟨by have:=hn.1.1;omega,Nat.lt_of_lt_of_le hn.1.2 hk9.size⟩),hPw.keep hk9 (by omega),hj,by split<;>simp [skip_skip],hKw.trans hk9 (fun n e=>by right;omega)⟩
  ·obtain⟨⟨c0,c1,c2,c3,c4⟩,f0,f1,f2,f3,f4⟩:=hP.cells
   obtain⟨⟨d0,d1,d2,d3,d4,d5,d6,d7,d8,d9,d10,d11⟩,df⟩:=cells12 hq
   have hc':(c == 0)=false:=by rw [beq_eq_false_iff_ne];exact hc
   have HR:Hid (∀ e w',OutR w pb s d wr0 (.err f c) e w'→OutR w pb s d wr0 RR e w'):=hRR
   clear hRR
   go_wp2_with fail
   clear d0 d1 d2 d3 d4 d5 d6 d7 d8 d9 d10 d11 df
   refine fin12 hq (Q:=bodyPost _ _ _ _ _) ?_
   intro w9 hq9 hk9
   obtain⟨⟨b0,b1,b2,b3,b4,b5,b6,b7,b8,b9,b10,b11⟩,bf⟩:=cells12 hq9
   refine bodyPost_ret (v:=NV 0 0 nul .z .z (.slice none 0 0)) (by simp [results,Tryz.results80,go_sem,b0,b1,b2,b3,b4,b5,b6,b7,b8,b9,b10,b11]) rfl ?_
   refine HR.out _ _ ?_
   exact⟨_,_,j,rfl,Nd.leaf,hP.keep hk9 (by omega),hj,hc,hK.trans hk9 (fun n e=>by right;omega)⟩
end
end Go.Proofs.YtgifkepklnhddaaGreatDoor.fm
namespace Go.Proofs.YtgifkepklnhddaaGreatDoor.fm
open Go.RowKit
theorem app0 (w:World) (ty:TypeId) (i0:TypeInfo) (z:Value) (hi:Tryz.prog.info? 57=some i0) (hz0:i0.zero=some z) (hz1:i0.size=12) (hz2:i0.bytes=104) (hz3:z.cells.size=12) {h:Nat} {cs:Array Value} (hb:w.heap[h]?=some (.cells cs 57 (0,0))) (hcs:cs.size=12) :
  ∃ cap' w',(Builtin.append_ #[55,55] ty #[.slice none 0 0,.slice (some ⟨h,0,none⟩) 1 1]).run Tryz.prog w=.ok (.slice (some ⟨w.heap.size,0,none⟩) 1 cap') w' ∧
   Row w' w.heap.size 1 cap' cs.toList∧Kp (fun _=>False) w w':=by
 have hnews:∀ (j:Nat) u,cs.toList[j]?=some u→w.cell? ((⟨h,0,none⟩:Addr).add j)=some u:=fun j u hu=>by
  rw [add_off,cell_blk hb];simpa using hu
 have hl:cs.toList.length=1*i0.size:=by rw [hz1];simp [hcs]
 have hlen:cs.toList.length=1*12:=by simp [hcs]
 have hmax:1001≤maxLen:=by unfold maxLen;omega
 have hr:=run_append_nil (P:=Tryz.prog) w 55 ty 57 i0 z Tryz.underlying55 hi hz0 ⟨h,0,none⟩ 1 1 cs.toList hl hnews (by omega) (by omega) (by rw [hz2];omega)
 refine⟨_,_,hr,⟨hlen,grownCap_ge w 1 0 57,grownCap_le_maxLen w 1 0 57 (by omega),_,heap_alloc_new w.drew _,?_,?_⟩,(Kp.refl _ _).drew.alloc _⟩
 ·have:=grownCap_ge w 1 0 57
  simp only [Array.size_append,size_zeroCells,hz3,hcs,Array.toArray_toList]
  omega
 ·rw [Array.toList_append,Array.toArray_toList,← hlen];exact List.take_left
def GV (wl wr:World) (sv:Value) (us:List Value) (ts:List T):Prop :=
 (us=[]∧ts=[]∧sv=.slice none 0 0)∨∃ g cap,sv=.slice (some ⟨g,0,none⟩) us.length cap∧GL wl wr g cap us ts
theorem GV.next {X:Nat→Prop} {w a b:World} {sv:Value} {us:List Value} {ts:List T} (h:GV w a sv us ts) (hk:Kp X a b) (hx:∀ n,X n→n<w.heap.size∨a.heap.size≤n):GV w b sv us ts:=by
 rcases h with h | ⟨g,cap,h1,h2⟩
 ·exact .inl h
 ·exact .inr ⟨g,cap,h1,h2.next hk hx⟩
theorem GV.below {w a b:World} {sv:Value} {us:List Value} {ts:List T} (h:GV w a sv us ts) (hb:Below a.heap.size a b):GV w b sv us ts :=
 h.next (X:=fun _=>False) ⟨hb.os,hb.tape,hb.output,hb.size,fun i hi _=>hb.block i hi⟩ (fun _ e=>e.elim)
theorem GV.slice {w a:World} {sv:Value} {us:List Value} {ts:List T} (h:GV w a sv us ts):∃ p m c,sv=.slice p m c:=by
 rcases h with ⟨_,_,h3⟩ | ⟨g,cap,h1,_⟩
 ·exact⟨_,_,_,h3⟩
 ·exact⟨_,_,_,h1⟩
theorem GV.node {w0 w a:World} {sv:Value} {us:List Value} {ts:List T} (h:GV w a sv us ts) {k n:Int} {s:ByteArray} {r t:Rf} (hle:w0.heap.size≤w.heap.size):Nd a (Own w0 a) (NV k n s r t sv) (.nd k n s r t ts):=by
 rcases h with ⟨rfl,rfl,rfl⟩ | ⟨g,cap,rfl,h2⟩
 ·exact .leaf
 ·exact .mk ((h2.nl).k.mono (fun _ _=>rfl) (fun b hb=>⟨Nat.le_trans hle hb.1,hb.2⟩)) h2.l (fun i u t' h3 h4=>(h2.s i u t' h3 h4).mono (fun _ _=>rfl) (fun b hb=>⟨Nat.le_trans hle hb.1.1,hb.1.2⟩))
theorem appV {wl wa wb:World} {sv:Value} {us:List Value} {ts:List T} {h:Nat} {k1 n1:Int} {s1:ByteArray} {r1 t1:Rf} {p1:Option Addr} {m1 e1:Nat} {t:T} (hA:GV wl wa sv us ts) (hG:GV wl wb sv us ts) (hN:Nd wb (Own wa wb) (NV k1 n1 s1 r1 t1 (.slice p1 m1 e1)) t) (hle:wl.heap.size≤wa.heap.size) (hab:wa.heap.size≤wb.heap.size) (hb:wb.heap[h]?=some (.cells (N12 k1 n1 s1 r1 t1 (.slice p1 m1 e1)) 57 (0,0))) (hn:us.length≤1000) :
  ∃ sv' w',(Builtin.append_ #[55,55] 55 #[sv,.slice (some ⟨h,0,none⟩) 1 1]).run Tryz.prog wb=.ok sv' w'∧GV wl w' sv' (us++[NV k1 n1 s1 r1 t1 (.slice p1 m1 e1)]) (ts++[t])∧Kp (fun b=>wl.heap.size≤b) wb w':=by
 obtain⟨i0,hi,hz0,hz1,hz2⟩:=info28
 rcases hG with ⟨rfl,rfl,rfl⟩ | ⟨g,cap,rfl,hg⟩
 ·obtain⟨cap',w',hr,hrow,hk⟩:=app0 wb 55 i0 _ hi hz0 hz1 hz2 rfl hb rfl
  refine⟨_,w',hr,.inr ⟨wb.heap.size,cap',rfl,?_⟩,hk.mono (fun _ _ e=>e.elim)⟩
  refine⟨?_,by omega,rfl,?_⟩
  ·simpa [cellsL,Value.cells] using hrow
  ·intro i u t' h1 h2
   cases i with
   | zero =>
    simp at h1 h2
    subst h1
    subst h2
    exact hN.mono (fun n hn=>hk.block n hn.2 id) (fun n hn=>⟨⟨by have:=hn.1;omega,Nat.lt_of_lt_of_le hn.2 hk.size⟩,by have:=hn.2;omega⟩)
   | succ i=>simp at h1
 ·obtain⟨g',cap',w',hr,hrow,hg',hk⟩:=app1 wb 55 i0 _ hi hz0 hz1 hz2 rfl hg.row hb rfl (one12 k1 n1 s1 r1 t1 p1 m1 e1) hn
  have hga:g<wa.heap.size:=by
   rcases hA with ⟨_,_,e⟩ | ⟨g2,cap2,e,h2⟩
   ·cases e
   ·injection e with e
    injection e with e
    injection e with e
    subst e
    exact h2.row.lt
  refine⟨_,w',hr,.inr ⟨g',cap',by simp,GL.more hg hN hga hrow (hg'.imp id (fun e=>by omega)) hk⟩,hk.mono (fun n _ e=>?_)⟩
  have:=hg.lo
  omega
structure KT (w:World) (t:Tk) (kb:Nat) (wx:World):Prop where
 blk:wx.heap[kb]?=some (.cells (K4 t) 137 (0,0))
 kp:Kp (·=kb) w wx
theorem kt2 {w w1:World} {t t0:Tk} {kb:Nat} (hk:w.heap[kb]?=some (.cells (K4 t0) 137 (0,0))) (hb:Below w.heap.size w w1) {Q:World→Prop} (h:∀ w2,KT w t kb w2→Q w2) :
  Q ((((w1.setCell ⟨kb,0,none⟩ (.int .i64 t.kind)).setCell ⟨kb,1,none⟩ (.int .i64 (t.a:Nat))).setCell ⟨kb,2,none⟩ (.int .i64 (t.e:Nat))).setCell ⟨kb,3,none⟩ (.string t.t)):=by
 have h1:w1.heap[kb]?=some (.cells (K4 t0) 137 (0,0)):=by rw [hb.block _ (lt_blk hk)];exact hk
 refine fin4 h1 (Q:=Q) fun w2 hw2 hk2=>h w2 ⟨hw2,?_⟩
 exact Kp.trans ((Kp.refl (·=kb) w).below hb) hk2 (fun n e=>.inl e)
end Go.Proofs.YtgifkepklnhddaaGreatDoor.fm
namespace Go.Proofs.YtgifkepklnhddaaGreatDoor.fm
open Go.RowKit
section
variable (L:Lex) (s:ByteArray)
def XR (D:Nat) (name:ByteArray) (ts:List T) (j:Nat):Rs T:=((Arg L s D j).bind fun t k'=>More L s D (ts++[t]) k').bind fun l k'=>.ok (tCall name l) k'
theorem Arg_skip {D a b:Nat} (ha:a≤s.size) (hb:b≤s.size) (h:skip s a=skip s b):Arg L s D a=Arg L s D b:=by
 rw [Arg_eq L s D a ha,Arg_eq L s D b hb,h]
end
section
variable {L:Lex} {s:ByteArray} (hs:s.size≤200)
include hs
set_option maxRecDepth 100000 in
set_option maxHeartbeats 8000000 in
theorem rcall_none (pb k d:Nat) (wr0:Int) (name:ByteArray) (w:World) (h:PD w pb s k wr0 0 (d+1)) (hk:k<s.size) (hd:d≤30) (h41:nx s (skip s (k+1))=41) :
  Calls Tryz.prog 140 #[ptr pb,.string name] w (OutR w pb s d wr0 ((Args L s (d+1) (k+1)).bind fun l k'=>.ok (tCall name l) k')):=by
 have hlt:=h.lt
 obtain⟨⟨c0,c1,c2,c3,c4⟩,f0,f1,f2,f3,f4⟩:=h.cells
 go_enter Tryz.func140,Tryz.ntmps140
 go_upto_region 3 with fail
 clear c0 c1 c2 c3 c4 f0 f1 f2 f3 f4
 rw [show ((k:Int)+1)=((k+1:Nat):Int) from rfl]
 have hP1:=h.setAt (k+1)
 have hK1:=kpset w pb 1 (.int .i64 ((k+1:Nat):Int))
 have hsz1:(w.setCell ⟨pb,1,none⟩ (.int .i64 ((k+1:Nat):Int))).heap.size=w.heap.size:=by simp [World.setCell]
 generalize w.setCell ⟨pb,1,none⟩ (.int .i64 ((k+1:Nat):Int))=v1 at *
 have hPa:=(hP1.alloc (.cells NZ 57)).alloc (.cells (N12 9 0 name .z .z (.slice none 0 0)) 57)
 have hKa:Kp (·=pb) w ((v1.alloc (.cells NZ 57)).alloc (.cells (N12 9 0 name .z .z (.slice none 0 0)) 57)):=(hK1.alloc _).alloc _
 have hra:((v1.alloc (.cells NZ 57)).alloc (.cells (N12 9 0 name .z .z (.slice none 0 0)) 57)).heap[w.heap.size]?=some (.cells NZ 57 (0,0)):=by rw [Below.heap_alloc _ _ _ (by simp;omega),← hsz1];exact blk_new _ _
 have hna:((v1.alloc (.cells NZ 57)).alloc (.cells (N12 9 0 name .z .z (.slice none 0 0)) 57)).heap[w.heap.size+1]?=some (.cells (N12 9 0 name .z .z (.slice none 0 0)) 57 (0,0)):=by
  have:=blk_new (v1.alloc (.cells NZ 57)) (.cells (N12 9 0 name .z .z (.slice none 0 0)) 57)
  simpa [hsz1] using this
 have hsa:((v1.alloc (.cells NZ 57)).alloc (.cells (N12 9 0 name .z .z (.slice none 0 0)) 57)).heap.size=w.heap.size+2:=by simp [hsz1]
 generalize ((v1.alloc (.cells NZ 57)).alloc (.cells (N12 9 0 name .z .z (.slice none 0 0)) 57))=wa at *
 have HSA:Hid (wa.heap.size=w.heap.size+2):=hsa
 clear hP1 hK1 hsz1 hsa
 have hk1:k+1≤s.size:=hk
 have HT:Hid (∀ w,Calls Tryz.prog 81 #[.string s,.int .i64 ((k+1:Nat):Int)] w fun e w'=>e=.returned (KV (tkR s (k+1)).kind ((tkR s (k+1)).a:Nat) ((tkR s (k+1)).e:Nat) (tkR s (k+1)).t)∧Below w.heap.size w w'):=fun w=>token_at s (k+1) w hs hk1
 have HBY:Hid _:=tk_byte s (k+1) 41 (.inr (.inl rfl)) hk1
 generalize tkR s (k+1)=tk0 at *
 obtain⟨⟨c0,c1,c2,c3,c4⟩,f0,f1,f2,f3,f4⟩:=hPa.cells
 go_cut [6] (fun s6 wx=>∃ kb,s6=ptr kb∧KS wa tk0 kb wx)
 case first =>
  have hlt0:=hPa.lt
  have hne:wa.heap.size≠pb:=by omega
  have hne':pb≠wa.heap.size:=by omega
  have KK:Hid (∀ wx,Below wa.heap.size wa wx→wx.cell? ⟨pb,0,none⟩=some (.string s)∧wx.cell? ⟨pb,1,none⟩=some (.int .i64 ((k+1:Nat):Int))):=fun wx hb=>⟨(hb.cell (p:=⟨pb,0,none⟩) hlt0).trans c0,(hb.cell (p:=⟨pb,1,none⟩) hlt0).trans c1⟩
  clear c0 c1 c2 c3 c4 f0 f1 f2 f3 f4
  go_region_held3 (fun wx=>wx.cell? ⟨pb,0,none⟩=some (.string s)∧wx.cell? ⟨pb,1,none⟩=some (.int .i64 ((k+1:Nat):Int))) (exact KK.out _ (by (repeat (first | exact Below.refl _ _ | assumption | (refine Below.setCell ?_ (by first | exact Nat.le_refl _ | omega) _) | (refine Below.alloc ?_ (by first | exact Nat.le_refl _ | exact hb'.size | omega | (simp<;>omega)) _) | (refine Below.drew ?_))))) ((go_at_call 81;refine (HT.out _).mono ?_;rintro e w1 ⟨rfl,hb⟩;have hb':Below wa.heap.size wa w1:=(by first | exact kb1 hb | exact kb2 hb);first | (have hz:=kz_a hb;have hz4:=cells4f hz;obtain⟨⟨z0,z1,z2,z3⟩,y0,y1,y2,y3⟩:=hz4) | skip))
  all_goals
   go_wp2_with fail
   go_meet
   case rel=>first | exact⟨_,rfl,ks3 hb⟩ | exact ks2 hb (Q:=fun W=>∃ kb,_=ptr kb∧KS wa tk0 kb W) (fun w2 h2=>⟨_,rfl,h2⟩)
 case rest =>
 obtain⟨kb,rfl,hS⟩:=hcut
 clear c0 c1 c2 c3 c4 f0 f1 f2 f3 f4 HT
 have hlo:=hS.lo
 have hsa:=HSA.out
 have hPc:PD wc pb s (k+1) wr0 0 (d+1):=hPa.below hS.below
 have hrc:wc.heap[w.heap.size]?=some (.cells NZ 57 (0,0)):=by rw [hS.below.block _ (by omega)];exact hra
 have hnc:wc.heap[w.heap.size+1]?=some (.cells (N12 9 0 name .z .z (.slice none 0 0)) 57 (0,0)):=by rw [hS.below.block _ (by omega)];exact hna
 have hKc:Kp (·=pb) w wc:=hKa.below hS.below
 have hkp:kb≠pb:=by omega
 have hkr:kb≠w.heap.size:=by omega
 have hkn:kb≠w.heap.size+1:=by omega
 have hkc:=hS.blk
 clear hra hna hPa hKa hS hsa hlo HSA
 obtain⟨⟨z0,z1,z2,z3⟩,y0,y1,y2,y3⟩:=cells4f hkc
 have HAR:Hid ((Args L s (d+1) (k+1)).bind (fun l k'=>.ok (tCall name l) k')=.ok (tCall name []) (skip s (k+1)+1)):=by
  unfold Hid
  rw [Args_eq L s (d+1) (k+1) hk1,if_pos h41]
  rfl
 obtain⟨q1,q2⟩:=HBY.out.1.2 h41
 have q1':(tk0.kind == 4)=true:=beq_iff_eq.2 q1
 have H41:Hid (nx s (skip s (k+1))=41):=h41
 clear HBY q1 h41
 go_wp2_with fail
 go_at_call 144
 refine (rclose_any pb (k+1) d wr0 0 s hs _ hPc hk1 hd).mono ?_
 rintro e w6 ⟨rfl,⟨j2,wr2,bd2,hP6,hj2,hsh⟩,hK6⟩
 have HSH:Hid _:=hsh
 clear hsh z0 z1 z2 z3 y0 y1 y2 y3
 have hr6:=hK6.blk hrc (by omega)
 have hn6:=hK6.blk hnc (by omega)
 have hKw6:=hKc.trans hK6 (fun n e=>.inl e)
 obtain⟨⟨g0,g1,g2,g3,g4,g5,g6,g7,g8,g9,g10,g11⟩,gf⟩:=cells12 hn6
 obtain⟨⟨d0,d1,d2,d3,d4,d5,d6,d7,d8,d9,d10,d11⟩,df⟩:=cells12 hr6
 go_wp2_with fail
 clear g0 g1 g2 g3 g4 g5 g6 g7 g8 g9 g10 g11 gf d0 d1 d2 d3 d4 d5 d6 d7 d8 d9 d10 d11 df
 refine fin12 hr6 (Q:=bodyPost _ _ _ _ _) ?_
 intro w9 hq9 hk9
 obtain⟨⟨b0,b1,b2,b3,b4,b5,b6,b7,b8,b9,b10,b11⟩,bf⟩:=cells12 hq9
 refine bodyPost_ret (v:=NV 9 0 name .z .z (.slice none 0 0)) (by simp [results,Tryz.results140,go_sem,b0,b1,b2,b3,b4,b5,b6,b7,b8,b9,b10,b11]) rfl ?_
 have hP9:=hP6.keep hk9 (by omega)
 have hK9:=hKw6.trans hk9 (fun n e=>by right;omega)
 rw [HAR.out]
 rcases HSH.out with ⟨hn,_⟩ | ⟨_,_,rfl,rfl,rfl⟩ | ⟨_,hn,_⟩
 ·exact absurd rfl hn
 ·exact⟨_,_,rfl,Nd.leaf,hP9,hj2,rfl,hK9⟩
 ·exact absurd H41.out hn
end
end Go.Proofs.YtgifkepklnhddaaGreatDoor.fm

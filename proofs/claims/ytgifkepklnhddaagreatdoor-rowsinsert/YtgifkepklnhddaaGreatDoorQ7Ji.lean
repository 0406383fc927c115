import Derived.Test.YtgifkepklnhddaaGreatDoorQ7Jf
import Derived.Test.YtgifkepklnhddaaGreatDoorQ7Jg
import Derived.Test.YtgifkepklnhddaaGreatDoorQ7Jh
import Derived.Test.YtgifkepklnhddaaGreatDoorQ7Jd
import Derived.Test.YtgifkepklnhddaaGreatDoorQ7Jc
import Derived.Test.YtgifkepklnhddaaGreatDoorQ7Yc
import Derived.Test.YtgifkepklnhddaaGreatDoorQ7Je
import Derived.Sort.Statements
import Derived.Deep.CutBlock
namespace Go.Proofs.YtgifkepklnhddaaGreatDoor.fm
open Go.RowKit
theorem whole_lt {l:List UInt8} {v:Nat} (h:wholeN l=some v):v<9223372036854775808:=by
 unfold wholeN at h
 split at h
 ·cases h
 ·split at h
  ·split at h
   ·injection h with h;omega
   ·cases h
  ·cases h
theorem itoa_nat (v:Nat):Lib.itoa (v:Int)=Lib.decDigits v:=by
 unfold Lib.itoa
 rw [if_neg (by omega)]
 simp
theorem num_whole {t:ByteArray} {v:Nat} (h:wholeN t.data.toList=some v):numOf t=some (v:Int):=by
 have hd:=adr.whole_dec h
 have hv:=whole_lt h
 have e:t.data.toList=Lib.itoa (v:Int):=by rw [itoa_nat,hd]
 unfold numOf
 rw [e,atoi_itoa _ (by omega) (by omega)]
 simp
theorem rdR_digit {t:ByteArray} (h0:0<t.size) (h1:48≤t[0].toNat∧t[0].toNat≤57):(adr.rdR t).ok=false:=by
 have hD:adr.isD t 0=false:=by
  rw [adr.isD_at h0,beq_eq_false_iff_ne]
  omega
 have hb:adr.b2N (adr.isD t 0)=0:=by rw [hD];rfl
 have hz:adr.b2N (adr.isD t 0)<t.size:=by omega
 rw [adr.rdR_out hz (adr.isC_col (by simp only [hb];omega))]
theorem whole_first {t:ByteArray} {v:Nat} (h:wholeN t.data.toList=some v):∃ h0:0<t.size,48≤t[0].toNat∧t[0].toNat≤57:=by
 have hd:=adr.whole_dec h
 obtain⟨d1,d2,d3,d4⟩:=dv_dec v
 rw [hd] at d2 d3
 have h0:0<t.size:=by
  rcases Nat.eq_zero_or_pos t.size with e | e
  ·exfalso
   apply d3
   apply List.eq_nil_of_length_eq_zero
   simpa using e
  ·exact e
 refine⟨h0,?_⟩
 have hm:t[0]∈t.data.toList:=by
  have:t[0]=t.data.toList[0]'(by simpa using h0):=by simp;rfl
  rw [this];exact List.getElem_mem _
 have:=List.all_eq_true.1 d2 _ hm
 unfold dig at this
 simp at this
 exact this
theorem text_eq {t u:ByteArray} (h:(t.toList == u.data.toList)=true):t=u:=by
 rw [beq_iff_eq,ByteArray.toList_eq] at h
 obtain⟨⟨l⟩⟩:=t
 obtain⟨⟨m⟩⟩:=u
 simp at h
 rw [h]
theorem word_mean (t:ByteArray) (hsz:t.size≤200) (hW:∀ c,c∈t.data.toList→isW c.toNat=true):wordR t=meanOf t:=by
 unfold wordR
 cases hw:wholeN t.data.toList with
 | some v =>
  obtain⟨h0,h1⟩:=whole_first hw
  have hr:=refOf_no (rdR_digit h0 h1)
  have hn:=num_whole hw
  have hd:rd t=(1,(v:Int),YtgifkepklnhddaaGreatDoor.nul):=by
   unfold rd
   rw [if_neg,if_neg (by omega),hn]
   rw [ByteArray.toList_eq]
   intro e
   rw [List.isEmpty_iff] at e
   have:t.size=0:=by
    show t.data.size=0
    rw [← Array.length_toList,e]
    rfl
   omega
  unfold meanOf
  rw [hr,hd]
  rfl
 | none =>
  simp only
  by_cases hT:(t.toList == [84,82,85,69])=true
  ·rw [if_pos hT]
   obtain rfl:t=⟨#[84,82,85,69]⟩:=text_eq hT
   have hr:refOf ⟨#[84,82,85,69]⟩=none:=by decide +kernel
   have hd:rd ⟨#[84,82,85,69]⟩=(3,1,YtgifkepklnhddaaGreatDoor.nul):=by decide +kernel
   unfold meanOf
   rw [hr,hd]
   rfl
  rw [if_neg hT]
  by_cases hF:(t.toList == [70,65,76,83,69])=true
  ·rw [if_pos hF]
   obtain rfl:t=⟨#[70,65,76,83,69]⟩:=text_eq hF
   have hr:refOf ⟨#[70,65,76,83,69]⟩=none:=by decide +kernel
   have hd:rd ⟨#[70,65,76,83,69]⟩=(3,0,YtgifkepklnhddaaGreatDoor.nul):=by decide +kernel
   unfold meanOf
   rw [hr,hd]
   rfl
  rw [if_neg hF]
  cases hok:(adr.rdR t).ok with
  | true =>
   rw [if_pos rfl]
   unfold meanOf
   rw [refOf_yes hok]
  | false =>
   rw [if_neg (by simp)]
   have hn:numOf t=none:=by
    cases hn:numOf t with
    | none=>rfl
    | some v =>
     exfalso
     obtain⟨e1,e2⟩:=numOf_some hn
     have hb:=atoi_bd e1
     unfold Lib.itoa at e2
     split at e2
     ·have:=hW 45 (by rw [← e2];simp)
      revert this;decide
     ·have:=adr.dec_whole (v:=v.toNat) (by omega)
      rw [e2,hw] at this
      cases this
   have hd:(rd t).1≠1∧(rd t).1≠3:=by
    unfold rd
    split
    ·exact⟨by decide,by decide⟩
    split
    ·exact⟨by decide,by decide⟩
    rw [hn]
    simp only
    split
    ·exact⟨by simp,by simp⟩
    ·exact⟨by simp,by simp⟩
   unfold meanOf
   rw [refOf_no hok]
   simp only
   rw [if_neg hd.1,if_neg hd.2]
end Go.Proofs.YtgifkepklnhddaaGreatDoor.fm
namespace Go.Proofs.YtgifkepklnhddaaGreatDoor.fm
open Go.RowKit
theorem tok_all (s:ByteArray) (k:Nat) (hk:k≤s.size):∀ c,c∈(tok s k).data.toList→isW c.toNat=true:=by
 intro c hc
 have ht:=tok_spec s k
 have hz:=tok_size s k hk
 obtain⟨i,hi,he⟩:=List.getElem_of_mem hc
 have hi':i<tokEnd s k - k:=by
  have:i<(tok s k).data.size:=by simpa using hi
  have e:(tok s k).data.size=(tok s k).size:=rfl
  omega
 have hle:=ht.2.2.1 hk
 have hw:=ht.2.2.2 (k+i) (by omega) (by omega)
 rw [nx_in (by omega)] at hw
 have:c=s[k+i]'(by omega):=by
  rw [← he]
  unfold tok
  simp
  rfl
 rw [this];exact hw
def RefTo (s:ByteArray) (m:Nat):Prop :=
 ∀ pb k d wr w,PD w pb s k wr 0 d→k≤s.size→s.size - skip s k≤m→d≤30 →
  Calls Tryz.prog 110 #[ptr pb] w (OutR w pb s d wr (Operand lexP s d k))∧∀ l,1≤l→l≤5→Calls Tryz.prog 80 #[ptr pb,.int .i64 (l:Nat)] w (OutR w pb s d wr (Expr lexP s l d k))
section
variable {s:ByteArray} (hs:s.size≤200)
include hs
theorem rcall_of (pb k d:Nat) (wr0:Int) (name:ByteArray) (w:World) (h:PD w pb s k wr0 0 (d+1)) (hk:k<s.size) (hd:d≤30)
  (hex:∀ j w1,k<j→j≤s.size→PD w1 pb s j wr0 0 (d+1)→Calls Tryz.prog 80 #[ptr pb,.int .i64 1] w1 (OutR w1 pb s (d+1) wr0 (Expr lexP s 1 (d+1) j))) :
  Calls Tryz.prog 140 #[ptr pb,.string name] w (OutR w pb s d wr0 ((Args lexP s (d+1) (k+1)).bind fun l k'=>.ok (tCall name l) k')):=by
 by_cases h41:nx s (skip s (k+1))=41
 ·exact rcall_none hs pb k d wr0 name w h hk hd h41
 ·exact rcall_some hs pb k d wr0 name w h hk hd h41 hex
set_option maxHeartbeats 4000000 in
theorem rone_of (m:Nat) (ih:∀ m',m'<m→RefTo s m') (pb k d:Nat) (wr:Int) (w:World) (h:PD w pb s k wr 0 d) (hk:k≤s.size) (hm:s.size - skip s k≤m) (hd:d≤30) :
  Calls Tryz.prog 110 #[ptr pb] w (OutR w pb s d wr (Operand lexP s d k)):=by
 have hk1:=(skip_spec s k).2.2 hk
 have hsp:=tk_spec s k hk
 have h45:=tk_byte s k 45 (.inr (.inr (.inr rfl))) hk
 have h40:=tk_byte s k 40 (.inl rfl) hk
 rw [Operand_eq lexP s d k hk]
 by_cases c45:nx s (skip s k)=45
 ·have hlt:=nx_lt (s:=s) (k:=skip s k) (by omega)
  rw [if_pos c45]
  obtain⟨q1,q2⟩:=h45.1.2 c45
  have he:=h45.2 c45
  by_cases hd30:d=30
  ·rw [if_pos hd30]
   have:=rone_neg_full pb k d wr s hs w h hk _ rfl q1 q2 hd30
   rw [hsp.1] at this
   exact this
  ·rw [if_neg hd30]
   refine rone_neg pb k d wr s hs w h hk _ rfl q1 q2 (by omega) _ fun w1 hP1=>?_
   rw [he] at hP1
   have hsk:=(skip_spec s (skip s k+1)).1
   exact (ih (s.size - skip s (skip s k+1)) (by omega) pb _ (d+1) wr w1 hP1 hlt (Nat.le_refl _) (by omega)).1
 rw [if_neg c45]
 by_cases c40:nx s (skip s k)=40
 ·have hlt:=nx_lt (s:=s) (k:=skip s k) (by omega)
  rw [if_pos c40]
  obtain⟨q1,q2⟩:=h40.1.2 c40
  have he:=h40.2 c40
  by_cases hd30:d=30
  ·rw [if_pos hd30]
   have:=rone_par_full pb k d wr s hs w h hk _ rfl q1 q2 hd30
   rw [hsp.1] at this
   exact this
  ·rw [if_neg hd30]
   refine rone_par pb k d wr s hs w h hk _ rfl q1 q2 (by omega) _ fun w1 hP1=>?_
   rw [he] at hP1
   have hsk:=(skip_spec s (skip s k+1)).1
   exact (ih (s.size - skip s (skip s k+1)) (by omega) pb _ (d+1) wr w1 hP1 hlt (Nat.le_refl _) (by omega)).2 1 (Nat.le_refl _) (by omega)
 rw [if_neg c40]
 have n45:¬ ((tkR s k).kind=4∧((tkR s k).t.toList == [45])=true):=fun q=>c45 (h45.1.1 q)
 have n40:¬ ((tkR s k).kind=4∧((tkR s k).t.toList == [40])=true):=fun q=>c40 (h40.1.1 q)
 by_cases c34:nx s (skip s k)=34
 ·have hlt:=nx_lt (s:=s) (k:=skip s k) (by omega)
  rw [if_pos c34]
  have hw:isW (nx s (skip s k))=false:=by rw [c34];decide
  cases hq:quote s (skip s k+1) [] with
  | none =>
   have ht:tkR s k=⟨9,skip s k,skip s k,nul⟩:=by
    unfold tkR
    rw [if_neg (by omega),if_neg (by simp [hw]),if_pos c34,hq]
   exact rone_no pb k d wr s hs w h hk _ ht (by simp) (by simp) (by simp) (by simp)
  | some p =>
   obtain⟨l,e⟩:=p
   have ht:tkR s k=⟨2,skip s k,e,⟨l.toArray⟩⟩:=by
    unfold tkR
    rw [if_neg (by omega),if_neg (by simp [hw]),if_pos c34,hq]
   exact rone_text pb k d wr s hs w h hk _ ht rfl
 rw [if_neg c34]
 by_cases c35:nx s (skip s k)=35
 ·have hlt:=nx_lt (s:=s) (k:=skip s k) (by omega)
  rw [if_pos c35]
  have hw:isW (nx s (skip s k))=false:=by rw [c35];decide
  cases hq:badAt s (skip s k) with
  | none =>
   have ht:tkR s k=⟨9,skip s k,skip s k,nul⟩:=by
    unfold tkR
    rw [if_neg (by omega),if_neg (by simp [hw]),if_neg c34,if_pos c35,hq]
   exact rone_no pb k d wr s hs w h hk _ ht (by simp) (by simp) (by simp) (by simp)
  | some p =>
   obtain⟨n,len⟩:=p
   have hb:=badAt_spec hq
   have ht:tkR s k=⟨3,skip s k,skip s k+len,sh 4 (n:Nat) YtgifkepklnhddaaGreatDoor.nul⟩:=by
    unfold tkR
    rw [if_neg (by omega),if_neg (by simp [hw]),if_neg c34,if_pos c35,hq]
   exact rone_bad pb k d wr s hs w h hk _ ht rfl n hb.1 hb.2.1 rfl
 rw [if_neg c35]
 cases hw:isW (nx s (skip s k)) with
 | true =>
  have ht:=tk_word s k hk hw
  have htz:(tok s (skip s k)).size≤200:=by have:=tok_size s (skip s k) hk1;have:=(tok_spec s (skip s k)).2.2.1 hk1;omega
  by_cases cn:isNm (tok s (skip s k))=true∧nx s (tokEnd s (skip s k))=40
  ·have hlt:=nx_lt (s:=s) (k:=tokEnd s (skip s k)) (by omega)
   have hlo:=(tok_spec s (skip s k)).1
   rw [if_pos cn]
   have hg:true=(isNm (tok s (skip s k)) && decide (nx s (tokEnd s (skip s k))=40)):=by rw [cn.1,decide_eq_true cn.2];rfl
   by_cases hd30:d=30
   ·rw [if_pos hd30]
    exact rone_call_full pb k d wr s hs w h hk _ ht rfl htz hg hd30
   ·rw [if_neg hd30]
    refine rone_call pb k d wr s hs w h hk _ ht rfl htz hg (by omega) ((Args lexP s (d+1) (tokEnd s (skip s k)+1)).bind fun l k'=>.ok (tCall (tok s (skip s k)) l) k') fun w1 hP1=>?_
    refine rcall_of hs pb (tokEnd s (skip s k)) d wr (tok s (skip s k)) w1 hP1 hlt hd fun j w2 hj hj2 hP2=>?_
    have hsk:=(skip_spec s j).1
    exact (ih (s.size - skip s j) (by omega) pb j (d+1) wr w2 hP2 hj2 (Nat.le_refl _) (by omega)).2 1 (Nat.le_refl _) (by omega)
  ·rw [if_neg cn]
   have hg:false=(isNm (tok s (skip s k)) && decide (nx s (tokEnd s (skip s k))=40)):=by
    cases hb:isNm (tok s (skip s k)) with
    | false=>rfl
    | true=>rw [decide_eq_false (fun e=>cn ⟨hb,e⟩)];rfl
   refine rone_word pb k d wr s hs w h hk _ ht rfl htz hg _ ?_
   show _=wres (tok s (skip s k)) (skip s k) (tokEnd s (skip s k))
   unfold wres
   rw [word_mean _ htz (tok_all s _ hk1)]
   rfl
 | false =>
  have hte:tok s (skip s k)=⟨#[]⟩:=tok_none hw
  have hnm:isNm (⟨#[]⟩:ByteArray)=false:=by decide
  rw [if_neg (by rw [hte,hnm];simp),hte,show lexP.mean ⟨#[]⟩=none from lexP.empty]
  have hk1':(tkR s k).kind≠1:=fun e=>by rw [tk_kind1 s k e] at hw;cases hw
  have hk2:(tkR s k).kind≠2∧(tkR s k).kind≠3:=by
   unfold tkR
   by_cases h0:skip s k=s.size
   ·rw [if_pos h0];exact⟨by simp,by simp⟩
   rw [if_neg h0,if_neg (by simp [hw]),if_neg c34,if_neg c35]
   split<;>exact⟨by simp,by simp⟩
  by_cases hk4:(tkR s k).kind=4
  ·have:=rone_sign pb k d wr s hs w h hk _ rfl hk4 (by
    cases hq:((tkR s k).t.toList == [45]) with
    | false=>rfl
    | true=>exact absurd ⟨hk4,hq⟩ n45) (by
    cases hq:((tkR s k).t.toList == [40]) with
    | false=>rfl
    | true=>exact absurd ⟨hk4,hq⟩ n40)
   rw [hsp.1] at this
   exact this
  ·have:=rone_no pb k d wr s hs w h hk _ rfl hk1' hk2.1 hk2.2 hk4
   rw [hsp.1] at this
   exact this
theorem ref_to:∀ m,RefTo s m:=by
 intro m
 induction m using Nat.strongRecOn with
 | _ m ih =>
  intro pb k d wr w h hk hm hd
  refine⟨rone_of hs m ih pb k d wr w h hk hm hd,fun l h1 h5=>?_⟩
  refine rloose_of hs pb k d l wr w h hk h1 h5 (fun w1 hP1=>rone_of hs m ih pb k d wr w1 hP1 hk hm hd) fun l' j w1 g1 g5 hkj hj hP1=>?_
  have hsk:=(skip_spec s j).1
  exact (ih (s.size - skip s j) (by omega) pb j d wr w1 hP1 hj (Nat.le_refl _) hd).2 l' g1 g5
end
end Go.Proofs.YtgifkepklnhddaaGreatDoor.fm
namespace Go.Proofs.YtgifkepklnhddaaGreatDoor.fm
open Go.RowKit
def OutQ (w:World) (r:Rs T) (e:Ending) (w':World):Prop :=
 match r with
 | .ok t _=>∃ v,e=.returned (.tuple #[v,.int .i64 0,.int .i64 0])∧Nd w' (Own w w') v t∧Below w.heap.size w w'
 | .err k c=>e=.returned (.tuple #[NV 0 0 nul .z .z (.slice none 0 0),.int .i64 k,.int .i64 c])∧Below w.heap.size w w'
theorem rparse_long (s:ByteArray) (w:World) (h:200<s.size):Calls Tryz.prog 49 #[.string s] w (OutQ w (.err 0 4)):=by
 have hI:(200:Int)<(s.size:Int):=by omega
 have hr:=blk_new w (.cells NZ 57)
 have hb:Below w.heap.size w (w.alloc (.cells NZ 57)):=(Below.refl _ _).alloc (Nat.le_refl _) _
 obtain⟨⟨d0,d1,d2,d3,d4,d5,d6,d7,d8,d9,d10,d11⟩,df⟩:=cells12 hr
 go_enter Tryz.func49,Tryz.ntmps49
 go_wp2_with fail
 clear d0 d1 d2 d3 d4 d5 d6 d7 d8 d9 d10 d11 df
 obtain⟨⟨b0,b1,b2,b3,b4,b5,b6,b7,b8,b9,b10,b11⟩,bf⟩:=cells12 hr
 exact bodyPost_ret (v:=.tuple #[NV 0 0 nul .z .z (.slice none 0 0),.int .i64 0,.int .i64 4]) (by simp [results,Tryz.results49,go_sem,b0,b1,b2,b3,b4,b5,b6,b7,b8,b9,b10,b11]) rfl ⟨rfl,hb⟩
theorem rparse_no (s:ByteArray) (w:World) (h:s.size≤200) (hn:nx s 0≠61):Calls Tryz.prog 49 #[.string s] w (OutQ w (.err 0 2)):=by
 have hI:¬ (200:Int)<(s.size:Int):=by omega
 have hr:=blk_new w (.cells NZ 57)
 have hb:Below w.heap.size w (w.alloc (.cells NZ 57)):=(Below.refl _ _).alloc (Nat.le_refl _) _
 obtain⟨⟨d0,d1,d2,d3,d4,d5,d6,d7,d8,d9,d10,d11⟩,df⟩:=cells12 hr
 by_cases hz:0<s.size
 ·have he:s.toList.isEmpty=false:=by
   rw [ByteArray.toList_eq]
   cases hl:s.data.toList with
   | nil =>
    exfalso
    have:s.size=0:=by
     show s.data.size=0
     rw [← Array.length_toList,hl]
     rfl
    omega
   | cons a r=>rfl
  have hc:(((s[0].toNat:Nat):Int) != 61)=true:=by rw [bne_iff_ne];rw [nx_in hz] at hn;omega
  have hlI:(0:Int)<(s.size:Int):=by omega
  clear hn
  go_enter Tryz.func49,Tryz.ntmps49
  go_wp2_with fail
  clear d0 d1 d2 d3 d4 d5 d6 d7 d8 d9 d10 d11 df
  obtain⟨⟨b0,b1,b2,b3,b4,b5,b6,b7,b8,b9,b10,b11⟩,bf⟩:=cells12 hr
  exact bodyPost_ret (v:=.tuple #[NV 0 0 nul .z .z (.slice none 0 0),.int .i64 0,.int .i64 2]) (by simp [results,Tryz.results49,go_sem,b0,b1,b2,b3,b4,b5,b6,b7,b8,b9,b10,b11]) rfl ⟨rfl,hb⟩
 ·have he:s.toList.isEmpty=true:=by
   rw [ByteArray.toList_eq]
   have:s.data.toList=[]:=List.eq_nil_of_length_eq_zero (by rw [Array.length_toList];show s.size=0;omega)
   rw [this]
   rfl
  clear hn
  go_enter Tryz.func49,Tryz.ntmps49
  go_wp2_with fail
  clear d0 d1 d2 d3 d4 d5 d6 d7 d8 d9 d10 d11 df
  obtain⟨⟨b0,b1,b2,b3,b4,b5,b6,b7,b8,b9,b10,b11⟩,bf⟩:=cells12 hr
  exact bodyPost_ret (v:=.tuple #[NV 0 0 nul .z .z (.slice none 0 0),.int .i64 0,.int .i64 2]) (by simp [results,Tryz.results49,go_sem,b0,b1,b2,b3,b4,b5,b6,b7,b8,b9,b10,b11]) rfl ⟨rfl,hb⟩
set_option maxRecDepth 100000 in
set_option maxHeartbeats 8000000 in
theorem rparse_go (s:ByteArray) (w:World) (hs:s.size≤200) (hz:0<s.size) (hn:nx s 0=61) (X:Rs T) (hl:∀ pb w1,PD w1 pb s 1 0 0 0→Calls Tryz.prog 80 #[ptr pb,.int .i64 1] w1 (OutR w1 pb s 0 0 X)) :
  Calls Tryz.prog 49 #[.string s] w (OutQ w (X.bind fun t k=>if skip s k<s.size then .err (skip s k) 2 else .ok t 0)):=by
 have hI:¬ (200:Int)<(s.size:Int):=by omega
 have HL:Hid (∀ pb w1,PD w1 pb s 1 0 0 0→Calls Tryz.prog 80 #[ptr pb,.int .i64 1] w1 (OutR w1 pb s 0 0 X)):=hl
 have he:s.toList.isEmpty=false:=by
  rw [ByteArray.toList_eq]
  cases hl:s.data.toList with
  | nil =>
   exfalso
   have:s.size=0:=by
    show s.data.size=0
    rw [← Array.length_toList,hl]
    rfl
   omega
  | cons a r=>rfl
 have hc:(((s[0].toNat:Nat):Int) != 61)=false:=by rw [bne_eq_false_iff_eq];rw [nx_in hz] at hn;omega
 have hlI:(0:Int)<(s.size:Int):=by omega
 clear hn hl
 have hr:((w.alloc (.cells NZ 57)).alloc (.cells #[.string s,.int .i64 1,.int .i64 0,.int .i64 0,.int .i64 0] 134)).heap[w.heap.size]?=some (.cells NZ 57 (0,0)):=by rw [Below.heap_alloc _ _ _ (by simp)];exact blk_new _ _
 have hP:PD ((w.alloc (.cells NZ 57)).alloc (.cells #[.string s,.int .i64 1,.int .i64 0,.int .i64 0,.int .i64 0] 134)) (w.heap.size+1) s 1 0 0 0:=by
  unfold PD
  have:=blk_new (w.alloc (.cells NZ 57)) (.cells #[.string s,.int .i64 1,.int .i64 0,.int .i64 0,.int .i64 0] 134)
  simpa using this
 have hK:Kp (·=w.heap.size+1) w ((w.alloc (.cells NZ 57)).alloc (.cells #[.string s,.int .i64 1,.int .i64 0,.int .i64 0,.int .i64 0] 134)):=((Kp.refl _ w).alloc _).alloc _
 go_enter Tryz.func49,Tryz.ntmps49
 go_wp2_with fail
 go_at_call 80
 generalize ((w.alloc (.cells NZ 57)).alloc (.cells #[.string s,.int .i64 1,.int .i64 0,.int .i64 0,.int .i64 0] 134))=w1 at *
 obtain⟨pb,hpb⟩:∃ pb,w.heap.size+1=pb:=⟨_,rfl⟩
 rw [hpb] at hP hK ⊢
 refine (HL.out pb _ hP).mono ?_
 intro e w2 ho
 obtain⟨a1,n1,s1,r1,t1,p1,m1,e1,u,j,wr',bd,rfl,hN,hP2,hj,hK2,hX⟩:=ho.open
 have HX:Hid _:=hX
 have HPB:Hid (w.heap.size+1=pb):=hpb
 clear hX ho HL hpb
 have hrp:w.heap.size≠pb:=by have:=HPB.out;omega
 have hr1':=hr
 have hr2:=hK2.blk hr hrp
 have hKw2:=hK.trans hK2 (fun n e=>.inl e)
 have HLE:Hid (w.heap.size≤w1.heap.size):=hK.size
 have hpl:=hP2.lt
 have hK3:Kp (fun _=>False) w2 (w2.alloc (.cells (N12 a1 n1 s1 r1 t1 (.slice p1 m1 e1)) 57)):=(Kp.refl _ _).alloc _
 have hr3:=hK3.blk hr2 id
 have hP3:=hP2.alloc (.cells (N12 a1 n1 s1 r1 t1 (.slice p1 m1 e1)) 57)
 have hn3:=blk_new w2 (.cells (N12 a1 n1 s1 r1 t1 (.slice p1 m1 e1)) 57)
 have hN3:=hN.next hK3 (fun n e=>e.elim)
 have hKw3:=hKw2.trans hK3 (fun n e=>e.elim)
 have hnp:w2.heap.size≠pb:=by omega
 have HNR:Hid (w.heap.size<w2.heap.size):=by have:=HPB.out;unfold Hid;omega
 obtain⟨⟨c0,c1,c2,c3,c4⟩,f0,f1,f2,f3,f4⟩:=hP3.cells
 have HT:Hid (∀ w,Calls Tryz.prog 81 #[.string s,.int .i64 j] w fun e w'=>e=.returned (KV (tkR s j).kind ((tkR s j).a:Nat) ((tkR s j).e:Nat) (tkR s j).t)∧Below w.heap.size w w'):=fun w=>token_at s j w hs hj
 have HZ:Hid _:=tk_zero s j hj
 have HA:Hid ((tkR s j).a=skip s j):=(tk_spec s j hj).1
 generalize tkR s j=tk at *
 go_wp2_with fail
 go_at_call 81
 refine (HT.out _).mono ?_
 rintro e w4 ⟨rfl,hb4⟩
 clear c0 c1 c2 c3 c4 f0 f1 f2 f3 f4 HT
 generalize w2.alloc (.cells (N12 a1 n1 s1 r1 t1 (.slice p1 m1 e1)) 57)=w3 at *
 generalize w2.heap.size=nb at *
 have hb5:Below w3.heap.size w3 (w4.alloc (.cells (K4 tk) 137)):=hb4.alloc hb4.size _
 have hP5:=hP3.below hb5
 have hr5:(w4.alloc (.cells (K4 tk) 137)).heap[w.heap.size]?=some (.cells NZ 57 (0,0)):=by rw [hb5.block _ (lt_blk hr3)];exact hr3
 have hn5:(w4.alloc (.cells (K4 tk) 137)).heap[nb]?=some (.cells (N12 a1 n1 s1 r1 t1 (.slice p1 m1 e1)) 57 (0,0)):=by rw [hb5.block _ (lt_blk hn3)];exact hn3
 have hk5:=blk_new w4 (.cells (K4 tk) 137)
 have hN5:Nd (w4.alloc (.cells (K4 tk) 137)) (Own w1 (w4.alloc (.cells (K4 tk) 137))) (NV a1 n1 s1 r1 t1 (.slice p1 m1 e1)) u:=hN3.mono (fun n hn=>hb5.block n hn.2) (fun n hn=>⟨hn.1,Nat.lt_of_lt_of_le hn.2 hb5.size⟩)
 have hKw5:=hKw3.below hb5
 go_upto_region 8 with fail
 generalize w4.alloc (.cells (K4 tk) 137)=w5 at *
 generalize w4.heap.size=kb at *
 clear hP3 hr3 hn3 hN3 hKw3 hb5 hb4 hP2 hr2 hKw2 hP hr hK3
 obtain⟨⟨c0,c1,c2,c3,c4⟩,f0,f1,f2,f3,f4⟩:=hP5.cells
 obtain⟨⟨z0,z1,z2,z3⟩,y0,y1,y2,y3⟩:=cells4f hk5
 by_cases hbd:bd=0
 ·have hb0:(bd == 0)=true:=beq_iff_eq.2 hbd
  have hb1:(bd != 0)=false:=by rw [bne,hb0];rfl
  by_cases hkz:tk.kind=0
  ·have hk0:(tk.kind != 0)=false:=by rw [bne_eq_false_iff_eq];exact hkz
   have HSK:Hid (¬ skip s j<s.size):=HZ.out.1 hkz
   have HBD:Hid (bd=0):=hbd
   clear hbd hkz HZ
   obtain⟨⟨g0,g1,g2,g3,g4,g5,g6,g7,g8,g9,g10,g11⟩,gf⟩:=cells12 hn5
   obtain⟨⟨d0,d1,d2,d3,d4,d5,d6,d7,d8,d9,d10,d11⟩,df⟩:=cells12 hr5
   go_wp2_with fail
   clear c0 c1 c2 c3 c4 f0 f1 f2 f3 f4 z0 z1 z2 z3 y0 y1 y2 y3 g0 g1 g2 g3 g4 g5 g6 g7 g8 g9 g10 g11 gf d0 d1 d2 d3 d4 d5 d6 d7 d8 d9 d10 d11 df
   refine fin12 hr5 (Q:=bodyPost _ _ _ _ _) ?_
   intro w9 hq9 hk9
   obtain⟨⟨b0,b1,b2,b3,b4,b5,b6,b7,b8,b9,b10,b11⟩,bf⟩:=cells12 hq9
   refine bodyPost_ret (v:=.tuple #[NV a1 n1 s1 r1 t1 (.slice p1 m1 e1),.int .i64 0,.int .i64 0]) (by simp [results,Tryz.results49,go_sem,b0,b1,b2,b3,b4,b5,b6,b7,b8,b9,b10,b11]) rfl ?_
   have q1:=HPB.out
   have q2:=HLE.out
   have q3:=HNR.out
   rcases HX.out with ⟨k',hx,_,_,hsk⟩ | ⟨f,_,_,hb⟩
   ·have hR:(X.bind fun t k=>if skip s k<s.size then .err (skip s k) 2 else .ok t 0)=Rs.ok u 0:=by
     rw [hx]
     show (if skip s k'<s.size then Rs.err (skip s k') 2 else Rs.ok u 0)=_
     rw [if_neg (by rw [← hsk];exact HSK.out)]
    rw [hR]
    have hB:Below w.heap.size w w9:=kp_below (hKw5.trans hk9 (fun n e=>by right;omega)) (by omega)
    refine⟨_,rfl,?_,hB⟩
    exact hN5.mono (fun n hn=>hk9.block n hn.2 (by have:=hn.1;have:=lt_blk hr1';omega)) (fun n hn=>⟨by have:=hn.1;omega,Nat.lt_of_lt_of_le hn.2 hk9.size⟩)
   ·exact absurd HBD.out hb
  ·have hk0:(tk.kind != 0)=true:=by rw [bne_iff_ne];exact hkz
   have HSK:Hid (skip s j<s.size):=by
    cases Nat.lt_or_ge (skip s j) s.size with
    | inl h=>exact h
    | inr h=>exact absurd (HZ.out.2 (by omega)) hkz
   have HBD:Hid (bd=0):=hbd
   clear hkz HZ
   go_wp2_with fail
   go_at_call 82
   subst hbd
   refine (fail_first pb j 0 wr' s tk.a 2 _ hP5).mono ?_
   rintro e w6 ⟨rfl,hP6,hK6⟩
   clear c0 c1 c2 c3 c4 f0 f1 f2 f3 f4 z0 z1 z2 z3 y0 y1 y2 y3
   have hr6:=hK6.blk hr5 hrp
   have hKw6:=hKw5.trans hK6 (fun n e=>.inl e)
   obtain⟨⟨c0,c1,c2,c3,c4⟩,f0,f1,f2,f3,f4⟩:=hP6.cells
   obtain⟨⟨d0,d1,d2,d3,d4,d5,d6,d7,d8,d9,d10,d11⟩,df⟩:=cells12 hr6
   go_wp2_with fail
   go_region
   clear c0 c1 c2 c3 c4 f0 f1 f2 f3 f4 d0 d1 d2 d3 d4 d5 d6 d7 d8 d9 d10 d11 df
   go_wp2_with fail
   refine fin12 hr6 (Q:=fun W=>bodyPost _ _ _ _ _ W.drew) ?_
   intro w9 hq9 hk9
   obtain⟨⟨b0,b1,b2,b3,b4,b5,b6,b7,b8,b9,b10,b11⟩,bf⟩:=cells12 hq9
   refine bodyPost_ret (v:=.tuple #[NV 0 0 nul .z .z (.slice none 0 0),.int .i64 (tk.a:Nat),.int .i64 2]) (by simp [results,Tryz.results49,go_sem,b0,b1,b2,b3,b4,b5,b6,b7,b8,b9,b10,b11]) rfl ?_
   have q1:=HPB.out
   have q2:=HLE.out
   have q3:=HNR.out
   have hB:Below w.heap.size w w9:=kp_below (hKw6.trans hk9 (fun n e=>by right;omega)) (by omega)
   rcases HX.out with ⟨k',hx,hbz,_,hsk⟩ | ⟨f,hx,hwf,hb⟩
   ·have hR:(X.bind fun t k=>if skip s k<s.size then .err (skip s k) 2 else .ok t 0)=Rs.err (skip s j) 2:=by
     rw [hx]
     show (if skip s k'<s.size then Rs.err (skip s k') 2 else Rs.ok u 0)=_
     rw [if_pos (by rw [← hsk];exact HSK.out),hsk]
    rw [hR]
    exact⟨by rw [HA.out],hB.drew⟩
   ·exact absurd rfl hb
 ·have hb0:(bd == 0)=false:=beq_eq_false_iff_ne.2 hbd
  have hb1:(bd != 0)=true:=by rw [bne,hb0];rfl
  have HBD:Hid (bd≠0):=hbd
  clear hbd HZ
  obtain⟨⟨d0,d1,d2,d3,d4,d5,d6,d7,d8,d9,d10,d11⟩,df⟩:=cells12 hr5
  go_wp2_with fail
  go_region
  clear c0 c1 c2 c3 c4 f0 f1 f2 f3 f4 d0 d1 d2 d3 d4 d5 d6 d7 d8 d9 d10 d11 df
  go_wp2_with fail
  refine fin12 hr5 (Q:=fun W=>bodyPost _ _ _ _ _ W.drew) ?_
  intro w9 hq9 hk9
  obtain⟨⟨b0,b1,b2,b3,b4,b5,b6,b7,b8,b9,b10,b11⟩,bf⟩:=cells12 hq9
  refine bodyPost_ret (v:=.tuple #[NV 0 0 nul .z .z (.slice none 0 0),.int .i64 wr',.int .i64 bd]) (by simp [results,Tryz.results49,go_sem,b0,b1,b2,b3,b4,b5,b6,b7,b8,b9,b10,b11]) rfl ?_
  have q1:=HPB.out
  have q2:=HLE.out
  have q3:=HNR.out
  have hB:Below w.heap.size w w9:=kp_below (hKw5.trans hk9 (fun n e=>by right;omega)) (by omega)
  rcases HX.out with ⟨k',hx,hbz,_,hsk⟩ | ⟨f,hx,hwf,hb⟩
  ·exact absurd hbz HBD.out
  ·have hR:(X.bind fun t k=>if skip s k<s.size then .err (skip s k) 2 else .ok t 0)=Rs.err f bd:=by rw [hx];rfl
   rw [hR,hwf]
   exact⟨rfl,hB.drew⟩
end Go.Proofs.YtgifkepklnhddaaGreatDoor.fm
namespace Go.Proofs.YtgifkepklnhddaaGreatDoor.fm
open Go.RowKit
theorem rparse_any (s:ByteArray) (w:World) (RR:Rs T) (hRR:parse lexP s=RR):Calls Tryz.prog 49 #[.string s] w (OutQ w RR):=by
 unfold parse at hRR
 by_cases h1:200<s.size
 ·rw [if_pos h1] at hRR
  subst hRR
  exact rparse_long s w h1
 rw [if_neg h1] at hRR
 by_cases h2:nx s 0≠61
 ·rw [if_pos h2] at hRR
  subst hRR
  exact rparse_no s w (by omega) h2
 rw [if_neg h2] at hRR
 subst hRR
 have h3:nx s 0=61:=Classical.byContradiction h2
 have hz:=nx_lt (s:=s) (k:=0) (by omega)
 exact rparse_go s w (by omega) hz h3 _ fun pb w1 hP=>(ref_to (s:=s) (by omega) s.size pb 1 0 0 w1 hP hz (by omega) (by omega)).2 1 (Nat.le_refl _) (by omega)
def GoodR {α:Type} (r:Rs α):Prop:=∀ k c,r=.err k c→c≠0
theorem GoodR.ok {α:Type} {a:α} {k:Nat}:GoodR (.ok a k):=fun _ _ h=>by cases h
theorem GoodR.two {α:Type} {k:Nat}:GoodR (.err k 2:Rs α):=fun _ _ h=>by cases h;decide
theorem GoodR.four {α:Type} {k:Nat}:GoodR (.err k 4:Rs α):=fun _ _ h=>by cases h;decide
theorem GoodR.bind {α β:Type} {r:Rs α} {f:α→Nat→Rs β} (h:GoodR r) (h2:∀ a k,r=.ok a k→GoodR (f a k)):GoodR (r.bind f):=by
 cases r with
 | ok a k=>exact h2 a k rfl
 | err k e=>exact fun k' c hc=>by cases hc;exact h k e rfl
section
variable (L:Lex) (s:ByteArray)
def Nz (f:Nat):Prop :=
 (∀ d k,k≤s.size→10*(s.size - k)+1≤f→GoodR (operand L s f d k)) ∧
 (∀ l d k,1≤l→k≤s.size→10*(s.size - k)+2+(5 - l)≤f→GoodR (expr L s f l d k)) ∧
 (∀ l d t k,1≤l→k≤s.size→10*(s.size - k)+1≤f→GoodR (rest L s f l d t k)) ∧
 (∀ d k,k≤s.size→10*(s.size - k)+8≤f→GoodR (args L s f d k)) ∧
 (∀ d a k,k≤s.size→10*(s.size - k)+1≤f→GoodR (more L s f d a k)) ∧
 (∀ d k,k≤s.size→10*(s.size - k)+7≤f→GoodR (arg L s f d k))
theorem nz:∀ f,Nz L s f:=by
 intro f
 induction f with
 | zero=>refine⟨?_,?_,?_,?_,?_,?_⟩<;>intros<;>omega
 | succ f ih =>
  obtain⟨i1,i2,i3,i4,i5,i6⟩:=ih
  obtain⟨p1,p2,p3,p4,p5,p6⟩:=prog L s f
  refine⟨?_,?_,?_,?_,?_,?_⟩
  ·intro d k0 hk hf
   have hs:=skip_spec s k0
   have hk1:=hs.2.2 hk
   have ht:=tok_spec s (skip s k0)
   rw [operand]
   split
   ·next c =>
    have hlt:=nx_lt (s:=s) (k:=skip s k0) (by omega)
    split
    ·exact .four
    ·exact (i1 _ _ (by omega) (by omega)).bind fun _ _ _=>.ok
   split
   ·next c =>
    have hlt:=nx_lt (s:=s) (k:=skip s k0) (by omega)
    split
    ·exact .four
    ·exact (i2 _ _ _ (Nat.le_refl _) (by omega) (by omega)).bind fun _ _ _=>by
      split
      ·exact .ok
      ·exact .two
   split
   ·split
    ·exact .two
    ·exact .ok
   split
   ·split
    ·exact .two
    ·exact .ok
   split
   ·next c =>
    have hlt:=nx_lt (s:=s) (k:=tokEnd s (skip s k0)) (by omega)
    split
    ·exact .four
    ·exact (i4 _ _ (by omega) (by omega)).bind fun _ _ _=>.ok
   ·split
    ·exact .two
    ·exact .ok
  ·intro l d k hl hk hf
   rw [expr]
   split
   ·exact i1 _ _ hk (by omega)
   ·refine (i2 _ _ _ (by omega) hk (by omega)).bind fun a k1 e=>?_
    have:=p2 _ _ _ _ _ (by omega) hk e
    exact i3 _ _ _ _ hl (by omega) (by omega)
  ·intro l d t k hl hk hf
   have hs:=skip_spec s k
   have hk1:=hs.2.2 hk
   rw [rest]
   split
   ·next c =>
    have ho:=opAt_spec s (skip s k)
    have h0:(opAt s (skip s k)).1≠0:=by
     intro e
     rw [e] at c
     simp [lev] at c
     omega
    refine (i2 _ _ _ (by omega) (by omega) (by omega)).bind fun a k1 e=>?_
    have:=p2 _ _ _ _ _ (by omega) (by omega) e
    exact i3 _ _ _ _ hl (by omega) (by omega)
   ·exact .ok
  ·intro d k0 hk hf
   have hs:=skip_spec s k0
   have hk1:=hs.2.2 hk
   rw [args]
   split
   ·exact .ok
   ·refine (i6 _ _ (by omega) (by omega)).bind fun a k1 e=>?_
    have:=p6 _ _ _ _ hk1 e
    exact i5 _ _ _ (by omega) (by omega)
  ·intro d a k0 hk hf
   have hs:=skip_spec s k0
   have hk1:=hs.2.2 hk
   rw [more]
   split
   ·next c =>
    have hlt:=nx_lt (s:=s) (k:=skip s k0) (by omega)
    refine (i6 _ _ (by omega) (by omega)).bind fun a k1 e=>?_
    have:=p6 _ _ _ _ (by omega) e
    exact i5 _ _ _ (by omega) (by omega)
   ·split
    ·exact .ok
    ·exact .two
  ·intro d k0 hk hf
   have hs:=skip_spec s k0
   have hk1:=hs.2.2 hk
   have hx:GoodR (expr L s f 1 d (skip s k0)):=i2 _ _ _ (Nat.le_refl _) hk1 (by omega)
   rw [arg]
   split
   ·exact hx
   ·split
    ·split
     ·exact .two
     ·exact .ok
    ·exact hx
theorem parse_nz:GoodR (parse L s):=by
 unfold parse
 split
 ·exact .four
 ·split
  ·exact .two
  ·next h =>
   have hz:=nx_lt (s:=s) (k:=0) (by omega)
   refine ((nz L s _).2.1 1 0 1 (Nat.le_refl _) hz (Nat.le_refl _)).bind fun a k _=>?_
   split
   ·exact .two
   ·exact .ok
end
def kOf:Rs T→Nat
 | .ok _ _=>0
 | .err k _=>k
def cOf:Rs T→Int
 | .ok _ _=>0
 | .err _ c=>c
theorem OutQ.open {w:World} {r:Rs T} {e:Ending} {w':World} (h:OutQ w r e w') :
  ∃ (a n:Int) (s1:ByteArray) (r1 t1:Rf) (p:Option Addr) (m c:Nat),e=.returned (.tuple #[NV a n s1 r1 t1 (.slice p m c),.int .i64 (kOf r:Nat),.int .i64 (cOf r)])∧Below w.heap.size w w':=by
 cases r with
 | ok t k =>
  obtain⟨v,h1,h2,h3⟩:=h
  cases h2 with
  | mk hk hl hs=>exact⟨_,_,_,_,_,_,_,_,h1,h3⟩
 | err k c=>exact⟨0,0,nul,.z,.z,none,0,0,h.1,h.2⟩
end Go.Proofs.YtgifkepklnhddaaGreatDoor.fm
namespace Go.Proofs.YtgifkepklnhddaaGreatDoor.ps
open Go.RowKit
open adr (C isC ckc)
theorem eqS_at {s:ByteArray} (h:0<s.size):eqS s=((((s[0]'h).toNat:Nat):Int) == 61):=by
 obtain⟨⟨l⟩⟩:=s
 cases l with
 | nil=>cases h
 | cons a l =>
  have e:((⟨⟨a::l⟩⟩:ByteArray).extract 0 1).toList=[a]:=by
   rw [ByteArray.toList_eq]
   simp [ByteArray.data_extract]
  unfold eqS
  rw [e]
  show (a == 61 && ([]:List UInt8) == [])=((a.toNat:Int) == 61)
  rw [Bool.eq_iff_iff]
  simp only [Bool.and_eq_true,beq_iff_eq]
  constructor
  ·rintro⟨rfl,-⟩;rfl
  ·intro h
   refine⟨?_,by first | rfl | trivial⟩
   have h2:a.toNat=61:=by omega
   exact UInt8.toNat_inj.1 h2
theorem bad_code (s:ByteArray):(fm.cOf (fm.parse fm.lexP s)=0∧isBadF s=false)∨(fm.cOf (fm.parse fm.lexP s)≠0∧isBadF s=true):=by
 unfold isBadF
 cases h:fm.parse fm.lexP s with
 | ok t k=>exact .inl ⟨rfl,rfl⟩
 | err k c=>exact .inr ⟨fm.parse_nz fm.lexP s k c h,rfl⟩
set_option maxRecDepth 100000 in
set_option maxHeartbeats 4000000 in
theorem rtext_any (s:ByteArray) (w:World) (h0:s.size≠0):Calls Tryz.prog 48 #[.string s] w fun e w'=>e=.returned (.int .i64 (ckT s))∧Below w.heap.size w w':=by
 have he:s.toList.isEmpty=false:=by
  cases h:s.toList.isEmpty with
  | false=>rfl
  | true=>exact absurd (emp_yes h) h0
 by_cases h1:200<s.size
 ·have hI:(200:Int)<(s.size:Int):=by omega
  rw [ckT_long h1]
  go_enter Tryz.func48,Tryz.ntmps48
  go_wp2_with fail
  go_ret
  exact⟨rfl,Below.refl _ _⟩
 ·have hI:¬ (200:Int)<(s.size:Int):=by omega
  have hz:0<s.size:=by omega
  have hlI:(0:Int)<(s.size:Int):=by omega
  have hq0:=eqS_at hz
  cases hq:eqS s with
  | false =>
   have hc:((((s[0]'hz).toNat:Nat):Int) == 61)=false:=by rw [← hq0];exact hq
   rw [ckT_const h0 (by omega) hq]
   clear hq0 hq
   go_enter Tryz.func48,Tryz.ntmps48
   go_wp2_with fail
   go_ret
   exact⟨rfl,Below.refl _ _⟩
  | true =>
   have hc:((((s[0]'hz).toNat:Nat):Int) == 61)=true:=by rw [← hq0];exact hq
   have HQ:Hid (eqS s=true):=hq
   have HP:Hid (Calls Tryz.prog 49 #[.string s] w (fm.OutQ w (fm.parse fm.lexP s))):=fm.rparse_any s w _ rfl
   have HBC:Hid ((fm.cOf (fm.parse fm.lexP s)=0∧isBadF s=false)∨(fm.cOf (fm.parse fm.lexP s)≠0∧isBadF s=true)):=bad_code s
   clear hq0 hq
   generalize fm.parse fm.lexP s=RR at *
   go_enter Tryz.func48,Tryz.ntmps48
   go_wp2_with fail
   refine HP.out.mono ?_
   intro e w1 ho
   obtain⟨a1,n1,s1,r1,t1,p1,m1,e1,rfl,hb1⟩:=ho.open
   have HB1:Hid (Below w.heap.size w w1):=hb1
   obtain⟨q,hq⟩:∃ q,fm.cOf RR=q:=⟨_,rfl⟩
   obtain⟨q',hq'⟩:∃ q,fm.kOf RR=q:=⟨_,rfl⟩
   have HBD:Hid ((q=0∧isBadF s=false)∨(q≠0∧isBadF s=true)):=by rw [← hq];exact HBC
   rw [hq,hq']
   clear ho hb1 HBC hq hq' HP
   by_cases h2:q=0
   ·have HE0:Hid (ckT s=0):=by
     rcases HBD.out with ⟨-,hb⟩ | ⟨hb,-⟩
     ·exact ckT_good h0 (by omega) HQ.out hb
     ·exact absurd h2 hb
    subst h2
    go_wp2_with fail
    go_ret
    exact⟨by rw [HE0.out];rfl,HB1.out.alloc HB1.out.size _⟩
   ·have HE0:Hid (ckT s=2):=by
     rcases HBD.out with ⟨hb,-⟩ | ⟨-,hb⟩
     ·exact absurd hb h2
     ·exact ckT_bad h0 (by omega) HQ.out hb
    go_wp2_with fail
    go_ret
    exact⟨by rw [HE0.out];rfl,HB1.out.alloc HB1.out.size _⟩
abbrev RG (w1:World) (gx oy ox:Nat) (y x:Fl) (wx:World):Prop:=wx.cell? ⟨gx,oy,none⟩=some (.int .i64 y.c)∧wx.cell? ⟨gx,oy+1,none⟩=some (.int .i64 y.r)∧wx.cell? ⟨gx,ox,none⟩=some (.int .i64 x.c)∧wx.cell? ⟨gx,ox+1,none⟩=some (.int .i64 x.r)∧Below w1.heap.size w1 wx
theorem rgb {w1:World} {gx oy ox:Nat} {y x:Fl} {wx:World} (h:RG w1 gx oy ox y x wx):Below w1.heap.size w1 wx:=h.2.2.2.2
set_option maxRecDepth 100000 in
set_option maxHeartbeats 8000000 in
theorem rcheck_any (p:Option Addr) (c:Nat) (xs:List Fl) (w:World) (hx:FM w p xs) :
  Calls Tryz.prog 19 #[.slice p xs.length c] w fun e w'=>(∃ t,e=.returned (.int .i64 t)∧Told xs t)∧Below w.heap.size w w':=by
 obtain⟨n,hn⟩:∃ n,xs.length=n:=⟨_,rfl⟩
 have HN:Hid (xs.length=n):=hn
 rw [hn]
 have HX:Hid (FM w p xs):=hx
 clear hx hn
 go_enter Tryz.func19,Tryz.ntmps19
 by_cases h2:n≤200
 ·have hl:¬ (200:Int)<(n:Int):=by omega
  have hl2:(n:Int)≤200:=by omega
  go_wp2_with fail
  go_loopw [3] (fun a wr=>∃ i:Nat,a=.int .i64 i∧i≤n∧FK xs i∧Below w.heap.size w wr) (fun a _=>n - (intOf a).toNat)
  case atStart=>exact⟨0,rfl,Nat.zero_le _,fun j hj=>absurd hj (Nat.not_lt_zero _),Below.refl _ _⟩
  case round =>
   obtain⟨i,rfl,hi,hF,hB⟩:=hrel
   have HK:Hid (FK xs i∧Below w.heap.size w wr):=⟨hF,hB⟩
   clear hF hB
   by_cases hin:i<n
   ·have hiN:(i:Int)<(n:Int):=by omega
    have hi0:(0:Int)≤(i:Int):=by omega
    obtain⟨x,hx⟩:∃ x,xs[i]?=some x:=⟨_,List.getElem?_eq_getElem (by rw [HN.out];exact hin)⟩
    have HXi:Hid (xs[i]?=some x):=hx
    obtain⟨gx,ox,rfl,hgx⟩:=HX.out.at hx
    obtain⟨q0,q1,q2⟩:=FM.cells (HX.out.below HK.out.2) hx
    clear hx
    go_wp2_with fail
    refine (rin_any x.c x.r _).mono ?_
    rintro e w1 ⟨rfl,hb1⟩
    have HW1:Hid (Below w.heap.size w w1):=bnext HK.out.2 hb1 HK.out.2.size
    obtain⟨b0,b1,b2⟩:=FM.cells (HX.out.below HW1.out) HXi.out
    clear hb1 q0 q1 q2
    cases hC:isC x.c x.r with
    | false =>
     have HC:Hid (isC x.c x.r=false):=hC
     clear hC
     go_wp2_with fail
     go_ret
     exact⟨⟨1,rfl,HK.out.1.found (by rw [HN.out];exact h2) HXi.out (cd_range HXi.out HC.out) (by decide)⟩,HW1.out⟩
    | true =>
     have HC:Hid (isC x.c x.r=true):=hC
     clear hC
     go_upto_region 9 with fail
     go_cut [39] (fun s39 wx=>∃ b:Bool,s39=.bool b∧b=ordB xs i x∧Below w1.heap.size w1 wx)
     case first =>
      by_cases hz:i=0
      ·subst hz
       go_quiet (fail)
       go_wp2_with fail
       go_meet
       case rel=>exact⟨false,rfl,rfl,drewN_below _ _⟩
      ·obtain⟨k,rfl⟩:∃ k,i=k+1:=⟨i - 1,by omega⟩
       obtain⟨y,hy⟩:∃ y,xs[k]?=some y:=⟨_,List.getElem?_eq_getElem (by rw [HN.out];omega)⟩
       have HY:Hid (xs[k]?=some y):=hy
       obtain⟨y0,y1,-⟩:=FM.cells (HX.out.below HW1.out) hy
       have SOF:Hid (∀ wx,Below w1.heap.size w1 wx→RG w1 gx (ox+k*3) (ox+(k+1)*3) y x wx):=fun wx hb=>⟨(hb.cell (p:=⟨gx,_,none⟩) (Nat.lt_of_lt_of_le hgx HW1.out.size)).trans y0,(hb.cell (p:=⟨gx,_,none⟩) (Nat.lt_of_lt_of_le hgx HW1.out.size)).trans y1,(hb.cell (p:=⟨gx,_,none⟩) (Nat.lt_of_lt_of_le hgx HW1.out.size)).trans b0,(hb.cell (p:=⟨gx,_,none⟩) (Nat.lt_of_lt_of_le hgx HW1.out.size)).trans b1,hb⟩
       have h0d:RG w1 gx (ox+k*3) (ox+(k+1)*3) y x w1.drew:=SOF.out _ (Below.refl _ _).drew
       have e1:((k+1:Nat):Int)=(k:Int)+1:=rfl
       have hk0:(0:Int)<(k:Int)+1:=by omega
       have hk00:(0:Int)≤(k:Int):=by omega
       have hkN:(k:Int)<(n:Int):=by omega
       have hk200:(k:Int)≤200:=by omega
       have hk1N:(k:Int)+1<(n:Int):=by omega
       have hk10:(0:Int)≤(k:Int)+1:=by omega
       have hk1t:((k:Int)+1).toNat=k+1:=by omega
       have hw1':IntKind.i64.wrap ((k:Int)+1 - 1)=(k:Int):=by rw [Int.add_sub_cancel];exact Go.IntWalk.i64_in _ (by omega)
       have hw2':IntKind.i64.wrap (k:Int)=(k:Int):=Go.IntWalk.i64_in _ (by omega)
       have hw3':(k:Int)+1 - 1=(k:Int):=by omega
       rw [e1]
       clear hy e1 b0 b1 b2
       go_region_held3 (fun wx=>RG w1 gx (ox+k*3) (ox+(k+1)*3) y x wx) (first | exact h0d | exact SOF.out _ (bnext (rgb (by assumption)) (by assumption) (rgb (by assumption)).size)) (first | (go_at_call 47;refine (rahead_any y.c y.r x.c x.r _).mono ?_;rintro e w2 ⟨rfl,hb2⟩;have hw2:=bnext (rgb (by assumption)) hb2 (rgb (by assumption)).size))
       all_goals
        go_wp2_with fail
        go_meet
        case rel =>
         refine⟨_,rfl,?_,hw2⟩
         unfold ordB
         simp only [HY.out]
         first | rfl | (simp [lt];done)
     case rest =>
     obtain⟨b,rfl,hA,hbc⟩:=hcut
     have HWc:Hid (Below w.heap.size w wc):=bnext HW1.out hbc HW1.out.size
     have HA:Hid (b=ordB xs i x):=hA
     clear hA hbc b0 b1 b2 HW1
     cases b with
     | true =>
      go_wp2_with fail
      go_ret
      exact⟨⟨5,rfl,HK.out.1.found (by rw [HN.out];exact h2) HXi.out (cd_order HXi.out HC.out HA.out.symm) (by decide)⟩,HWc.out⟩
     | false =>
      obtain⟨b0,b1,b2⟩:=FM.cells (HX.out.below HWc.out) HXi.out
      have HT:Hid (cd xs i=ckT x.s):=cd_text HXi.out HC.out HA.out.symm
      cases h0:x.s.toList.isEmpty with
      | true =>
       have HE0:Hid (x.s.size=0):=emp_yes h0
       go_wp2_with fail
       go_ret
       exact⟨⟨3,rfl,HK.out.1.found (by rw [HN.out];exact h2) HXi.out (HT.out.trans (ckT_emp HE0.out)) (by decide)⟩,HWc.out⟩
      | false =>
       have HRT:Hid (Calls Tryz.prog 48 #[.string x.s] wc fun e w'=>e=.returned (.int .i64 (ckT x.s))∧Below wc.heap.size wc w'):=rtext_any x.s wc (emp_no h0)
       obtain⟨q,hq⟩:∃ q,ckT x.s=q:=⟨_,rfl⟩
       rw [hq] at HT HRT
       clear hq
       go_wp2_with fail
       refine HRT.out.mono ?_
       rintro e w2 ⟨rfl,hb2⟩
       have HB2:Hid (Below w.heap.size w w2):=bnext HWc.out hb2 HWc.out.size
       clear hb2 HRT b0 b1 b2
       by_cases hk0:q=0
       ·subst hk0
        go_wp2_with fail
        exact⟨⟨i+1,rfl,hin,HK.out.1.snoc HT.out,HB2.out⟩,by simp [intOf];omega⟩
       ·go_wp2_with fail
        go_ret
        exact⟨⟨q,rfl,HK.out.1.found (by rw [HN.out];exact h2) HXi.out HT.out hk0⟩,HB2.out⟩
   ·have hin':¬ (i:Int)<(n:Int):=by omega
    go_wp2_with fail
    have e:i=n:=by omega
    subst e
    go_ret
    exact⟨⟨0,rfl,FK.none (by rw [HN.out];exact HK.out.1) (by rw [HN.out];exact h2)⟩,HK.out.2⟩
 ·have hl:(200:Int)<(n:Int):=by omega
  go_wp2_with fail
  go_ret
  exact⟨⟨4,rfl,.inl ⟨by rw [HN.out];omega,rfl⟩⟩,Below.refl _ _⟩
end Go.Proofs.YtgifkepklnhddaaGreatDoor.ps
namespace Go.Proofs.YtgifkepklnhddaaGreatDoor.fm
open Go.RowKit
def pwO:Option ByteArray→Value
 | some s=>.tuple #[.string s,.nilIface]
 | none=>.tuple #[.string nul,.iface 100 (.int .i64 4)]
theorem eqS_nx {s:ByteArray} (h:s.size≠0):ps.eqS s=decide (nx s 0=61):=by
 have h0:0<s.size:=by omega
 rw [ps.eqS_at h0,nx_in h0]
 by_cases hh:s[0].toNat=61
 ·rw [hh];rfl
 ·have h1:¬ ((s[0].toNat:Nat):Int)=61:=fun e=>hh (by omega)
  simp [hh,h1]
theorem rwV_pw {D:Chg} {g:ByteArray} {o:Option ByteArray} {T0:T} {x x1:List UInt8} {d d1:Nat} (hl:x.length+1≤200∧d≤30)
  (h:(chg D T0=T0∧x1=x∧d1=d∧o=some g)∨(chg D T0≠T0∧(x1.length+1≤200∧d1≤30)∧x1≠x∧o=some ⟨(61::x1).toArray⟩)∨(chg D T0≠T0∧¬ (x1.length+1≤200∧d1≤30)∧o=none)):rwV g x x1 d1=pwO o:=by
 rcases h with ⟨-,rfl,rfl,rfl⟩ | ⟨-,h1,h2,rfl⟩ | ⟨-,h1,rfl⟩
 ·unfold rwV;rw [if_pos hl,if_pos rfl];rfl
 ·unfold rwV;rw [if_pos h1,if_neg h2];rfl
 ·unfold rwV;rw [if_neg h1];rfl
set_option maxRecDepth 100000 in
set_option maxHeartbeats 4000000 in
theorem prew_const (g:ByteArray) (hg:nx g 0≠61) (f:Value) (w:World) {k n:Int} {s:ByteArray} {r t:Rf} {p:Option Addr} {q c:Nat} :
  Calls Tryz.prog 58 #[.string g,NV k n s r t (.slice p q c),f] w fun e w'=>e=.returned (.tuple #[.string g,.nilIface])∧Below w.heap.size w w':=by
 have HC:Hid (∀ wx,Calls Tryz.prog 91 #[.string g] wx fun e w'=>e=.returned (.bool true)∧w'=wx):=fun wx=>(constant_any g wx).mono (fun _ _ h=>by rw [decide_eq_false hg] at h;exact h)
 have hb0:Below w.heap.size w (w.alloc (.cells (N12 k n s r t (.slice p q c)) 57)):=(Below.refl _ _).alloc (Nat.le_refl _) _
 have HB:Hid (Below w.heap.size w (w.alloc (.cells (N12 k n s r t (.slice p q c)) 57))):=hb0
 clear hb0 hg
 go_enter Tryz.func58,Tryz.ntmps58
 go_wp2_with (first | (go_at_call 91;refine (HC.out _).mono ?_;rintro e w1 ⟨rfl,hw1⟩;have hv:=hw1.symm;clear hw1;subst hv))
 exact bodyPost_ret (v:=.tuple #[.string g,.nilIface]) (by simp [results,Tryz.results58,go_sem]) rfl ⟨rfl,HB.out⟩
set_option maxRecDepth 100000 in
set_option maxHeartbeats 4000000 in
theorem prew_ins (g:ByteArray) (hz:g.size≠0) (row:Bool) (at' many:Int) (hL:okL row at' many=true) (o:Option ByteArray) (h:RwS (Cw (inR row at' many)) g o) (br ba bm:Nat) (w:World) (hE:EnvW w) {P:Nat→Prop} (hP:∀ b,P b→b<w.heap.size) {k n:Int} {s:ByteArray} {r t:Rf} {p:Option Addr} {q c:Nat}
  (hN:ps.eqS g=true→∃ T kk,parse lexP g=.ok T kk∧Nd w P (NV k n s r t (.slice p q c)) T) (hb1:br<w.heap.size) (hb2:ba<w.heap.size) (hb3:bm<w.heap.size) (c1:w.cell? ⟨br,0,none⟩=some (.bool row)) (c2:w.cell? ⟨ba,0,none⟩=some (.int .i64 at')) (c3:w.cell? ⟨bm,0,none⟩=some (.int .i64 many)) :
  Calls Tryz.prog 58 #[.string g,NV k n s r t (.slice p q c),fv 26 #[ptr br,ptr ba,ptr bm]] w fun e w'=>e=.returned (pwO o)∧Below w.heap.size w w':=by
 rcases h with ⟨he,rfl⟩ | ⟨he,T0,k0,x,d,x1,d1,hp,hW,h6,hc,hO,hl,hW1,ho⟩
 ·exact prew_const g (by rw [eqS_nx hz] at he;exact of_decide_eq_false he) _ w
 ·obtain⟨T1,kk,hp1,hN1⟩:=hN he
  rw [hp] at hp1
  cases hp1
  have hg:nx g 0=61:=by rw [eqS_nx hz] at he;exact of_decide_eq_true he
  have hB:Bd 200 T0:=bd_cnt hO hc
  refine (rewrite3 g hg 26 (fun _ _=>rfl) (ptr br) (ptr ba) (ptr bm) w hE hP hN1 hW hO h6 hc hl hW1 (ok_chg hO) (kd_chg h6) (Nat.le_trans (cnt_chg hO) hc) (fun wx hb=>?_)).mono (fun e w' h=>?_)
  ·exact ins2_yes row at' many br ba bm wx (hE.next hb) (P:=P) (fun b h=>Nat.lt_of_lt_of_le (hP b h) hb.size) (hN1.mono (fun b h=>hb.block b (hP b h)) (fun _ h=>h)) hO ⟨x,d,hW,h6,hc,hl.1,hl.2⟩ hL (fits_gd (gd_of hW)) hB ((hb.cell (p:=⟨br,0,none⟩) hb1).trans c1) ((hb.cell (p:=⟨ba,0,none⟩) hb2).trans c2) ((hb.cell (p:=⟨bm,0,none⟩) hb3).trans c3)
  ·rw [rwV_pw hl ho] at h
   exact h
end Go.Proofs.YtgifkepklnhddaaGreatDoor.fm
namespace Go.Proofs.YtgifkepklnhddaaGreatDoor.ps
open adr (isC)
def Dst (l:List Fl):Prop:=l.Pairwise fun x y=>¬ (x.c=y.c∧x.r=y.r)
theorem Srt.dst {l:List Fl} (h:Srt l):Dst l:=h.imp (fun {x y} h=>by rw [lt_iff] at h;omega)
theorem Dst.perm {l l':List Fl} (h:Dst l) (hp:l.Perm l'):Dst l':=(hp.pairwise_iff (R:=fun x y:Fl=>¬ (x.c=y.c∧x.r=y.r)) (fun {_ _} h e=>h ⟨e.1.symm,e.2.symm⟩)).1 h
def ins (l:List Fl) (x:Fl):List Fl:=l.takeWhile (fun y=>lt y x.c x.r)++x::l.dropWhile (fun y=>lt y x.c x.r)
theorem ins_perm (l:List Fl) (x:Fl):(l++[x]).Perm (ins l x):=by
 unfold ins
 have e:l++[x]=l.takeWhile (fun y=>lt y x.c x.r)++(l.dropWhile (fun y=>lt y x.c x.r)++[x]):=by rw [← List.append_assoc,List.takeWhile_append_dropWhile]
 rw [e]
 exact List.Perm.append_left _ (List.perm_append_singleton _ _)
theorem ins_srt {l:List Fl} {x:Fl} (h:Srt l) (hd:∀ y∈l,¬ (y.c=x.c∧y.r=x.r)):Srt (ins l x):=by
 induction l with
 | nil=>simp [ins,Srt]
 | cons y l ih =>
  have h':=List.pairwise_cons.1 h
  by_cases hy:lt y x.c x.r=true
  ·have e:ins (y::l) x=y::ins l x:=by simp [ins,hy]
   rw [e]
   refine List.pairwise_cons.2 ⟨fun z hz=>?_,ih h'.2 (fun z hz=>hd z (by simp [hz]))⟩
   have hz':=(ins_perm l x).mem_iff.2 hz
   simp at hz'
   rcases hz' with hz' | rfl
   ·exact h'.1 z hz'
   ·exact hy
  ·have e:ins (y::l) x=x::y::l:=by simp [ins,hy]
   rw [e]
   refine List.pairwise_cons.2 ⟨fun z hz=>?_,h⟩
   have h1:=hd y (by simp)
   rw [lt_iff] at hy
   rcases List.mem_cons.1 hz with rfl | hz
   ·rw [lt_iff];omega
   ·have:=h'.1 z hz
    rw [lt_iff] at this ⊢
    omega
def sortR (l:List Fl):List Fl:=l.foldl ins []
theorem sortR_snoc (l:List Fl) (x:Fl):sortR (l++[x])=ins (sortR l) x:=by simp [sortR]
theorem fold_perm (l acc:List Fl):(acc++l).Perm (l.foldl ins acc):=by
 induction l generalizing acc with
 | nil=>rw [List.append_nil];exact List.Perm.refl _
 | cons x l ih =>
  rw [List.foldl_cons,show acc++x::l=(acc++[x])++l by simp]
  exact ((ins_perm acc x).append_right l).trans (ih _)
theorem fold_srt (l acc:List Fl) (h:Srt acc) (hd:Dst (acc++l)):Srt (l.foldl ins acc):=by
 induction l generalizing acc with
 | nil=>exact h
 | cons x l ih =>
  rw [List.foldl_cons]
  have hd':Dst ((acc++[x])++l):=by simpa using hd
  refine ih _ (ins_srt h (fun y hy=>?_)) (hd'.perm ((ins_perm acc x).append_right l))
  exact (List.pairwise_append.1 hd).2.2 y hy x (by simp)
theorem sortR_perm (l:List Fl):l.Perm (sortR l):=fold_perm l []
theorem sortR_len (l:List Fl):(sortR l).length=l.length:=(sortR_perm l).length_eq.symm
theorem sortR_srt {l:List Fl} (h:Dst l):Srt (sortR l):=fold_srt l [] (by simp [Srt]) h
theorem srt_same {l l':List Fl} (h:Srt l) (h':Srt l') (hp:l.Perm l'):l=l':=by
 refine List.Perm.eq_of_pairwise (le:=fun x y=>lt x y.c y.r=true) (fun x y _ _ h1 h2=>?_) h h' hp
 rw [lt_iff] at h1 h2
 omega
end Go.Proofs.YtgifkepklnhddaaGreatDoor.ps
namespace Go.Proofs.YtgifkepklnhddaaGreatDoor.ps
open Go.RowKit
open adr (C isC ckc)
structure WS (w:World) (bf:Nat) (f:Fl) (v:Value) (ys:List Fl) (wx:World):Prop where
 own:wx.ownsRow w.heap.size 44 3 v ys.length (flF ys)
 ne:v.ownBlock≠some bf
 box:wx.heap[bf]?=some (.cells #[.int .i64 f.c,.int .i64 f.r,.string f.s] 44 (0,0))
 le:w.heap.size≤bf
 below:Below w.heap.size w wx
theorem own_next {wx wy:World} {B:Nat} {v:Value} {n:Nat} {xs:List Value} (h:wx.ownsRow B 44 3 v n xs) (hb:Below wx.heap.size wx wy):wy.ownsRow B 44 3 v n xs:=by
 refine⟨h.1,?_⟩
 rcases h.2 with h0 | ⟨g,cap,cur,h1,h2,hg,h4⟩
 ·exact .inl h0
 ·exact .inr ⟨g,cap,cur,h1,h2,(hb.block g (fm.lt_blk hg)).trans hg,h4⟩
theorem WS.next {w:World} {bf:Nat} {f:Fl} {v:Value} {ys:List Fl} {wx wy:World} (h:WS w bf f v ys wx) (hb:Below wx.heap.size wx wy):WS w bf f v ys wy :=
 ⟨own_next h.own hb,h.ne,(hb.block _ (fm.lt_blk h.box)).trans h.box,h.le,bnext h.below hb h.below.size⟩
structure LV (w:World) (v:Value) (ys:List Fl) (wx:World):Prop where
 own:wx.ownsRow w.heap.size 44 3 v ys.length (flF ys)
 below:Below w.heap.size w wx
theorem LV.nil (w:World):LV w (.slice none 0 0) [] w:=⟨⟨rfl,.inl ⟨rfl,rfl⟩⟩,Below.refl _ _⟩
theorem LV.next {w:World} {v:Value} {ys:List Fl} {wx wy:World} (h:LV w v ys wx) (hb:Below wx.heap.size wx wy):LV w v ys wy:=⟨own_next h.own hb,bnext h.below hb h.below.size⟩
theorem LV.box {w:World} {v:Value} {ys:List Fl} {wx:World} (h:LV w v ys wx) (f:Fl):WS w wx.heap.size f v ys (wx.alloc (.cells #[.int .i64 f.c,.int .i64 f.r,.string f.s] 44)):=by
 have hb:Below wx.heap.size wx (wx.alloc (.cells #[.int .i64 f.c,.int .i64 f.r,.string f.s] 44)):=(Below.refl _ _).alloc (Nat.le_refl _) _
 exact⟨own_next h.own hb,fun e=>Nat.lt_irrefl _ (h.own.lt _ e).2,heap_alloc_new _ _,h.below.size,bnext h.below hb h.below.size⟩
theorem WS.set2 {w:World} {bf:Nat} {f:Fl} {v:Value} {ys:List Fl} {wx:World} (h:WS w bf f v ys wx) (c r:Int):WS w bf ⟨c,r,f.s⟩ v ys ((wx.setCell ⟨bf,0,none⟩ (.int .i64 c)).setCell ⟨bf,1,none⟩ (.int .i64 r)):=by
 have h1:=fm.blk_set (o:=0) (u:=.int .i64 c) h.box
 have h2:=fm.blk_set (o:=1) (u:=.int .i64 r) h1
 refine⟨⟨h.own.1,?_⟩,h.ne,by simpa using h2,h.le,(h.below.setCell h.le _).setCell h.le _⟩
 rcases h.own.2 with h0 | ⟨g,cap,cur,e1,e2,hg,h4⟩
 ·exact .inl h0
 ·have hne:g≠bf:=fun e=>h.ne (by rw [e1,e];rfl)
  exact .inr ⟨g,cap,cur,e1,e2,((Below.heap_setCell _ _ _ _ hne).trans (Below.heap_setCell _ _ _ _ hne)).trans hg,h4⟩
theorem WS.one {w:World} {bf:Nat} {f:Fl} {v:Value} {ys:List Fl} {wx:World} (h:WS w bf f v ys wx) (hy:ys.length≤1000) (y:Fl) :
  ∃ p n c w',(Builtin.append_ #[22,22] 22 #[v,.slice (some ⟨wx.heap.size,0,none⟩) 1 1]).run Tryz.prog (wx.alloc (.cells #[.int .i64 y.c,.int .i64 y.r,.string y.s] 44))=.ok (.slice p n c) w'∧LV w (.slice p n c) (ys++[y]) w':=by
 have h1:=h.next ((Below.refl _ _).alloc (Nat.le_refl _) (.cells #[.int .i64 y.c,.int .i64 y.r,.string y.s] 44))
 obtain⟨v',w',r1,r2,r3,r4,r5,r6⟩:=app_many (wx.alloc (.cells #[.int .i64 y.c,.int .i64 y.r,.string y.s] 44)) w.heap.size h1.below.size v ys.length (flF ys) h1.own hy (some ⟨wx.heap.size,0,none⟩) [y] 1 (fm_new wx y) (by simp)
 have ho:w'.ownsRow w.heap.size 44 3 v' (ys++[y]).length (flF (ys++[y])):=by rw [flF_app,List.length_append];exact r2
 obtain⟨p,c,rfl,-⟩:=FB.shape (own_base ho (Nat.zero_le _))
 exact⟨p,_,c,w',r1,ho,h1.below.trans r3⟩
end Go.Proofs.YtgifkepklnhddaaGreatDoor.ps
namespace Go.Proofs.YtgifkepklnhddaaGreatDoor.ps
open Go.RowKit
open adr (C isC ckc)
def mv1 (row:Bool) (at' many:Int) (x:Fl):Fl:=if row=true then (if x.r<at' then x else ⟨x.c,x.r+many,x.s⟩) else (if x.c<at' then x else ⟨x.c+many,x.r,x.s⟩)
theorem mv1_lt {row:Bool} {at' many:Int} (h0:0≤many) {x y:Fl} (h:lt x y.c y.r=true):lt (mv1 row at' many x) (mv1 row at' many y).c (mv1 row at' many y).r=true:=by
 rw [lt_iff] at h ⊢
 cases row<;>simp only [mv1]<;>repeat' split
 all_goals first | (exfalso;omega) | (simp_all;done) | (simp only [] at *;omega) | omega
def InU (row:Bool) (at' many:Int) (x:Fl) (u:Option (List Fl)):Prop:=∃ o,fm.RwS (fm.Cw (fm.inR row at' many)) x.s o∧u=if isC (mv1 row at' many x).c (mv1 row at' many x).r=true then o.map (fun s=>[⟨(mv1 row at' many x).c,(mv1 row at' many x).r,s⟩]) else none
structure Ress (U:Fl→Option (List Fl)→Prop) (xs:List Fl) (res:List (Option (List Fl))):Prop where
 len:res.length=xs.length
 at':∀ (i:Nat) x u,xs[i]?=some x→res[i]?=some u→U x u
def flt (res:List (Option (List Fl))) (k:Nat):List Fl:=(res.take k).flatMap (fun o=>o.getD [])
theorem flt_snoc {res:List (Option (List Fl))} {k:Nat} {l:List Fl} (h:res[k]?=some (some l)):flt res (k+1)=flt res k++l:=by
 unfold flt
 rw [List.take_add_one,h]
 simp
def NoN (res:List (Option (List Fl))) (k:Nat):Prop:=∀ i,i<k→res[i]?≠some none
theorem NoN.snoc {res:List (Option (List Fl))} {k:Nat} (h:NoN res k) {l:List Fl} (hl:res[k]?=some (some l)):NoN res (k+1):=fun i hi e=>by
 by_cases hk:i=k
 ·subst hk;rw [hl] at e;cases e
 ·exact h i (by omega) e
theorem NoN.all {res:List (Option (List Fl))} (h:NoN res res.length):none ∉ res:=fun hm=>by
 obtain⟨i,hi,e⟩:=List.getElem_of_mem hm
 exact h i hi (by rw [List.getElem?_eq_getElem hi,e])
def One (res:List (Option (List Fl))):Prop:=∀ (i:Nat) l,res[i]?=some (some l)→l.length≤1
theorem flt_len {res:List (Option (List Fl))} (h:One res):∀ k,(flt res k).length≤k
 | 0=>by simp [flt]
 | k+1=>by
  have ih:=flt_len h k
  cases hr:res[k]? with
  | none =>
   have e:flt res (k+1)=flt res k:=by unfold flt;rw [List.take_add_one,hr];simp
   rw [e];omega
  | some u =>
   cases u with
   | none =>
    have e:flt res (k+1)=flt res k:=by unfold flt;rw [List.take_add_one,hr];simp
    rw [e];omega
   | some l =>
    rw [flt_snoc hr,List.length_append]
    have:=h k l hr
    omega
theorem flt_srt {U:Fl→Option (List Fl)→Prop} {xs:List Fl} {res:List (Option (List Fl))} (hR:Ress U xs res) (hs:Srt xs) (h1:One res) (hm:∀ x y l l',lt x y.c y.r=true→U x (some l)→U y (some l')→∀ a∈l,∀ b∈l',lt a b.c b.r=true):∀ k,k≤xs.length→Srt (flt res k)∧∀ a∈flt res k,∃ i x l,i<k∧xs[i]?=some x∧U x (some l)∧a∈l
 | 0,_=>⟨by simp [flt,Srt],fun a ha=>by simp [flt] at ha⟩
 | k+1,hk=>by
  obtain⟨ih,ih2⟩:=flt_srt hR hs h1 hm k (by omega)
  obtain⟨x,hx⟩:∃ x,xs[k]?=some x:=⟨_,List.getElem?_eq_getElem (by omega)⟩
  obtain⟨u,hu⟩:∃ u,res[k]?=some u:=⟨_,List.getElem?_eq_getElem (by rw [hR.len];omega)⟩
  have hU:=hR.at' k x u hx hu
  cases u with
  | none =>
   have e:flt res (k+1)=flt res k:=by unfold flt;rw [List.take_add_one,hu];simp
   rw [e]
   exact⟨ih,fun a ha=>by obtain⟨i,x',l,hi,r⟩:=ih2 a ha;exact⟨i,x',l,by omega,r⟩⟩
  | some l =>
   rw [flt_snoc hu]
   refine⟨List.pairwise_append.2 ⟨ih,?_,fun a ha b hb=>?_⟩,fun a ha=>?_⟩
   ·have:=h1 k l hu
    match l,this with
    | [],_=>exact List.Pairwise.nil
    | [y],_=>exact List.pairwise_singleton _ _
   ·obtain⟨i,x',l',hi,hx',hU',ha'⟩:=ih2 a ha
    have hlt:lt x' x.c x.r=true:=by
     have h:=List.pairwise_iff_getElem.1 hs i k (by omega) (by omega) hi
     rw [(List.getElem?_eq_some_iff.1 hx').2,(List.getElem?_eq_some_iff.1 hx).2] at h
     exact h
    exact hm x' x l' l hlt hU' hU a ha' b hb
   ·rcases List.mem_append.1 ha with h | h
    ·obtain⟨i,x',l',hi,r⟩:=ih2 a h
     exact⟨i,x',l',by omega,r⟩
    ·exact⟨k,x,l,by omega,hx,hU,h⟩
theorem in_one {row:Bool} {at' many:Int} {xs:List Fl} {res:List (Option (List Fl))} (hR:Ress (InU row at' many) xs res):One res:=fun i l hl=>by
 have hi:=(List.getElem?_eq_some_iff.1 hl).1
 obtain⟨o,-,e⟩:=hR.at' i _ _ (List.getElem?_eq_getElem (by rw [← hR.len];exact hi)) hl
 split at e
 ·cases o with
  | none=>cases e
  | some s=>cases e;exact Nat.le_refl _
 ·cases e
theorem in_srt {row:Bool} {at' many:Int} (h0:0≤many) {xs:List Fl} {res:List (Option (List Fl))} (hR:Ress (InU row at' many) xs res) (hs:Srt xs):Srt (flt res xs.length):=by
 refine (flt_srt hR hs (in_one hR) (fun x y l l' hlt hx hy a ha b hb=>?_) _ (Nat.le_refl _)).1
 obtain⟨o,-,e⟩:=hx
 obtain⟨o',-,e'⟩:=hy
 split at e
 ·split at e'
  ·cases o with
   | none=>cases e
   | some s =>
    cases o' with
    | none=>cases e'
    | some s' =>
     cases e
     cases e'
     rw [List.mem_singleton] at ha hb
     subst ha hb
     have:=mv1_lt (row:=row) (at':=at') h0 hlt
     rw [lt_iff] at this ⊢
     exact this
  ·cases e'
 ·cases e
theorem told_read {xs:List Fl} (h:Told xs 0) {x:Fl} (hx:x∈xs):eqS x.s=true→∃ T0 k,fm.parse fm.lexP x.s=.ok T0 k:=fun he=>by
 obtain⟨i,hi,rfl⟩:=List.getElem_of_mem hx
 have hf:=h.fine
 have h0:ckT xs[i].s=0:=by
  rcases h with ⟨-,e⟩ | ⟨-,⟨-,h⟩ | ⟨e,-⟩⟩
  ·cases e
  ·exact (cd_zero (List.getElem?_eq_getElem hi) (h i hi)).2.2
  ·exact absurd rfl e
 obtain⟨-,h1,h2⟩:=hf.cell _ hx
 cases hp:fm.parse fm.lexP xs[i].s with
 | ok T0 k=>exact⟨T0,k,rfl⟩
 | err k e =>
  rw [ckT_bad h1 h2 he (by unfold isBadF;rw [hp];rfl)] at h0
  cases h0
theorem in_ex {xs:List Fl} (h:Told xs 0) (row:Bool) (at' many:Int) (h0:0≤many):∃ res,Ress (InU row at' many) xs res:=by
 obtain⟨res,hl,hp⟩:=fm.lst_ex (fun (_:Nat) (x:Fl) (u:Option (List Fl))=>InU row at' many x u) xs (fun i x hx=>by
  obtain⟨o,ho⟩:=fm.rw_ex (C:=fm.Cw (fm.inR row at' many)) (fm.in_keep row at' many h0) (fm.cw_box (fm.in_keep row at' many h0)) x.s (told_read h (List.mem_of_getElem? hx))
  exact⟨_,o,ho,rfl⟩)
 exact⟨res,hl,hp⟩
def ChO (n:Nat) (res:List (Option (List Fl))) (ok:Bool) (t:Int) (v:Value) (q:Int) (w':World):Prop :=
 (t≠0∧v=.slice none 0 0∧q=t)∨(t=0∧ok=false∧v=.slice none 0 0∧q=1)∨(t=0∧ok=true∧none∈res∧v=.slice none 0 0∧q=4) ∨
 (t=0∧ok=true∧none ∉ res∧q=0∧∃ p c,v=.slice p (flt res n).length c∧FM w' p (flt res n))
end Go.Proofs.YtgifkepklnhddaaGreatDoor.ps
namespace Go.Proofs.YtgifkepklnhddaaGreatDoor.ps
open Go.RowKit
open adr (C isC ckc)
structure TW (w:World) (u:Value) (us:List Fl) (v:Value) (ys:List Fl) (wx:World):Prop where
 old:wx.ownsRow w.heap.size 44 3 u us.length (flF us)
 own:wx.ownsRow w.heap.size 44 3 v ys.length (flF ys)
 ne:∀ b,u.ownBlock=some b→v.ownBlock≠some b
 below:Below w.heap.size w wx
theorem TW.start {w:World} {u:Value} {us:List Fl} {wx:World} (h:LV w u us wx):TW w u us (.slice none 0 0) [] wx:=⟨h.own,⟨rfl,.inl ⟨rfl,rfl⟩⟩,fun _ _ e=>by simp [Value.ownBlock] at e,h.below⟩
theorem TW.next {w:World} {u:Value} {us:List Fl} {v:Value} {ys:List Fl} {wx wy:World} (h:TW w u us v ys wx) (hb:Below wx.heap.size wx wy):TW w u us v ys wy:=⟨own_next h.old hb,own_next h.own hb,h.ne,bnext h.below hb h.below.size⟩
theorem TW.done {w:World} {u:Value} {us:List Fl} {v:Value} {ys:List Fl} {wx:World} (h:TW w u us v ys wx):LV w v ys wx:=⟨h.own,h.below⟩
theorem TW.more {w:World} {u:Value} {us:List Fl} {v:Value} {ys:List Fl} {wx:World} (h:TW w u us v ys wx) (hy:ys.length≤1000) {p:Option Addr} {zs:List Fl} (hz:FM wx p zs) (hl:zs.length≤1000) {n:Nat} (hn:zs.length=n) (c:Nat) :
  ∃ p' n' c' w',(Builtin.append_ #[22,22] 22 #[v,.slice p n c]).run Tryz.prog wx=.ok (.slice p' n' c') w'∧TW w u us (.slice p' n' c') (ys++zs) w':=by
 subst hn
 obtain⟨v',w',h1,h2,h3,h4,h5,h6⟩:=app_many wx w.heap.size h.below.size v ys.length (flF ys) h.own hy p zs c hz hl
 have ho:w'.ownsRow w.heap.size 44 3 v' (ys++zs).length (flF (ys++zs)):=by rw [flF_app,List.length_append];exact h2
 obtain⟨p',c',rfl,-⟩:=FB.shape (own_base ho (Nat.zero_le _))
 refine⟨p',_,c',w',h1,⟨⟨h.old.1,?_⟩,ho,fun b hb e=>?_,h.below.trans h3⟩⟩
 ·rcases h.old.2 with h0 | ⟨g,cap,cur,e1,e2,hg,e4⟩
  ·exact .inl h0
  ·exact .inr ⟨g,cap,cur,e1,e2,(h4 g (fm.lt_blk hg) (h.ne g (by rw [e1];rfl))).trans hg,e4⟩
 ·rcases h5 b e with e' | e'
  ·exact h.ne b hb e'
  ·have:=(h.old.lt b hb).2
   omega
theorem TW.fm {w:World} {u:Value} {us:List Fl} {v:Value} {ys:List Fl} {wx:World} (h:TW w u us v ys wx) {p:Option Addr} {n c:Nat} (e:u=.slice p n c):FM wx p us:=by
 obtain⟨p',c',e',hM⟩:=FB.shape (own_base h.old (Nat.zero_le _))
 rw [e] at e'
 injection e' with e1
 subst e1
 exact hM
theorem FM.take {w:World} {p:Option Addr} {xs:List Fl} (h:FM w p xs) (k:Nat):FM w p (xs.take k):=by
 rcases h with h | ⟨g,o,h1,h2,h3⟩
 ·left;rw [h];simp
 ·refine .inr ⟨g,o,h1,h2,fun t u hu=>h3 t u ?_⟩
  have e:flF xs=flF (xs.take k)++flF (xs.drop k):=by rw [← flF_app,List.take_append_drop]
  rw [e,List.getElem?_append_left (List.getElem?_eq_some_iff.1 hu).1]
  exact hu
theorem FM.dropk {w:World} {g o:Nat} {xs:List Fl} (h:FM w (Option.some ⟨g,o,none⟩) xs) (k:Nat) (hk:k≤xs.length):FM w (Option.some ⟨g,o+k*3,none⟩) (xs.drop k):=by
 rcases h with h | ⟨g',o',h1,h2,h3⟩
 ·left;rw [h];simp
 ·injection h1 with h1;injection h1 with e1 e2;subst e1 e2
  refine .inr ⟨g,o+k*3,rfl,h2,fun t u hu=>?_⟩
  have e:flF xs=flF (xs.take k)++flF (xs.drop k):=by rw [← flF_app,List.take_append_drop]
  have hl:(flF (xs.take k)).length=k*3:=by rw [flF_len,List.length_take,Nat.min_eq_left hk]
  have:=h3 (k*3+t) u (by rw [e,List.getElem?_append_right (by omega),hl,Nat.add_sub_cancel_left];exact hu)
  rwa [← Nat.add_assoc] at this
def Hd (us:List Fl) (x:Fl) (k:Nat):Prop:=∀ j y,j<k→us[j]?=some y→lt y x.c x.r=true
theorem ins_cut {us:List Fl} {x:Fl} {k:Nat} (hk:k≤us.length) (h:Hd us x k) (h2:∀ y,us[k]?=some y→lt y x.c x.r=false):ins us x=us.take k++[x]++us.drop k:=by
 have key:us.takeWhile (fun y=>lt y x.c x.r)=us.take k∧us.dropWhile (fun y=>lt y x.c x.r)=us.drop k:=by
  induction us generalizing k with
  | nil=>simp
  | cons y us ih =>
   cases k with
   | zero =>
    have:=h2 y rfl
    simp [this]
   | succ k =>
    have hy:=h 0 y (by omega) rfl
    have:=ih (k:=k) (by simpa using hk) (fun j z hj hz=>h (j+1) z (by omega) (by simpa using hz)) (fun z hz=>h2 z (by simpa using hz))
    simp [hy,this]
 unfold ins
 rw [key.1,key.2]
 simp
abbrev SG (wr:World) (gy oy gx ox:Nat) (y x:Fl) (wx:World):Prop:=wx.cell? ⟨gy,oy,none⟩=some (.int .i64 y.c)∧wx.cell? ⟨gy,oy+1,none⟩=some (.int .i64 y.r)∧wx.cell? ⟨gx,ox,none⟩=some (.int .i64 x.c)∧wx.cell? ⟨gx,ox+1,none⟩=some (.int .i64 x.r)∧Below wr.heap.size wr wx
theorem sgb {wr:World} {gy oy gx ox:Nat} {y x:Fl} {wx:World} (h:SG wr gy oy gx ox y x wx):Below wr.heap.size wr wx:=h.2.2.2.2
set_option maxRecDepth 100000 in
set_option maxHeartbeats 8000000 in
theorem rsorted_any (p:Option Addr) (c:Nat) (xs:List Fl) (w:World) (hx:FM w p xs) (hl:xs.length≤200) :
  Calls Tryz.prog 23 #[.slice p xs.length c] w fun e w'=>(∃ q d,e=.returned (.slice q xs.length d)∧FM w' q (sortR xs))∧Below w.heap.size w w':=by
 obtain⟨n,hn⟩:∃ n,xs.length=n:=⟨_,rfl⟩
 have HN:Hid (xs.length=n):=hn
 rw [hn] at hl ⊢
 have HX:Hid (FM w p xs):=hx
 have hn2:(n:Int)≤200:=by omega
 clear hx hn
 go_enter Tryz.func23,Tryz.ntmps23
 go_wp2_with fail
 go_loopw [3,4] (fun v i wr=>∃ k:Nat,i=.int .i64 k∧k≤n∧(∃ p c,v=.slice p (sortR (xs.take k)).length c)∧LV w v (sortR (xs.take k)) wr) (fun _ i _=>n - (intOf i).toNat)
 case atStart=>exact⟨0,rfl,Nat.zero_le _,⟨none,0,rfl⟩,LV.nil w⟩
 case round =>
  generalize wr=wo at *
  obtain⟨k,rfl,hk,⟨pv,cv,rfl⟩,hL⟩:=hrel
  have HL:Hid (LV w (.slice pv (sortR (xs.take k)).length cv) (sortR (xs.take k)) wo):=hL
  have HM:Hid ((sortR (xs.take k)).length=k):=by unfold Hid;rw [sortR_len,List.length_take,HN.out];omega
  clear hL
  rw [HM.out] at HL ⊢
  by_cases hin:k<n
  ·have hiN:(k:Int)<(n:Int):=by omega
   have hi0:(0:Int)≤(k:Int):=by omega
   have hi200:(k:Int)≤200:=by omega
   obtain⟨x,hx⟩:∃ x,xs[k]?=some x:=⟨_,List.getElem?_eq_getElem (by rw [HN.out];exact hin)⟩
   have HXi:Hid (xs[k]?=some x):=hx
   obtain⟨gx,ox,rfl,hgx⟩:=HX.out.at hx
   have HSn:Hid (sortR (xs.take (k+1))=ins (sortR (xs.take k)) x):=by unfold Hid;rw [List.take_add_one,hx];exact sortR_snoc _ _
   clear hx
   generalize sortR (xs.take k)=us at *
   go_upto_block 2 with fail
   go_cut [5] (fun s5 wx=>∃ m:Nat,s5=.int .i64 m∧m≤k∧ins us x=us.take m++[x]++us.drop m∧Below wo.heap.size wo wx)
   case first =>
    have HW0:Hid (Below w.heap.size w wo∧FM wo pv us):=⟨HL.out.below,(TW.start HL.out).fm rfl⟩
    go_wp2_with fail
    go_loopw [5] (fun j wy=>∃ m:Nat,j=.int .i64 m∧m≤k∧Hd us x m∧Below wo.heap.size wo wy) (fun j _=>k - (intOf j).toNat)
    case atStart=>exact⟨0,rfl,Nat.zero_le _,fun j y hj=>absurd hj (Nat.not_lt_zero _),Below.refl _ _⟩
    case round =>
     obtain⟨m,rfl,hm,hH,hbw⟩:=hrel
     have HH:Hid (Hd us x m∧Below wo.heap.size wo wr):=⟨hH,hbw⟩
     have HBW:Hid (Below w.heap.size w wr):=bnext HW0.out.1 hbw HW0.out.1.size
     clear hH hbw
     by_cases hmk:m<k
     ·have hmI:(m:Int)<(k:Int):=by omega
      have hm0:(0:Int)≤(m:Int):=by omega
      have hmb:(m == k)=false:=by simp;omega
      obtain⟨y,hy⟩:∃ y,us[m]?=some y:=⟨_,List.getElem?_eq_getElem (by rw [HM.out];exact hmk)⟩
      have HY:Hid (us[m]?=some y):=hy
      obtain⟨gy,oy,rfl,hgy⟩:=HW0.out.2.at hy
      obtain⟨y0,y1,-⟩:=FM.cells (HW0.out.2.below HH.out.2) hy
      obtain⟨x0,x1,-⟩:=FM.cells (HX.out.below HBW.out) HXi.out
      have SOF:Hid (∀ wx,Below wr.heap.size wr wx→SG wr gy (oy+m*3) gx (ox+k*3) y x wx):=fun wx hb=>⟨(hb.cell (p:=⟨gy,_,none⟩) (Nat.lt_of_lt_of_le hgy HH.out.2.size)).trans y0,(hb.cell (p:=⟨gy,_,none⟩) (Nat.lt_of_lt_of_le hgy HH.out.2.size)).trans y1,(hb.cell (p:=⟨gx,_,none⟩) (Nat.lt_of_lt_of_le hgx HBW.out.size)).trans x0,(hb.cell (p:=⟨gx,_,none⟩) (Nat.lt_of_lt_of_le hgx HBW.out.size)).trans x1,hb⟩
      have h0d:SG wr gy (oy+m*3) gx (ox+k*3) y x wr.drew:=SOF.out _ (Below.refl _ _).drew
      clear hy
      go_upto_region 6 with fail
      go_cut [29] (fun s29 wx=>s29=.bool (lt y x.c x.r)∧Below wr.heap.size wr wx)
      case first =>
       go_region_held3 (fun wx=>SG wr gy (oy+m*3) gx (ox+k*3) y x wx) (first | exact h0d | exact SOF.out _ (bnext (sgb (by assumption)) (by assumption) (sgb (by assumption)).size)) (first | (go_at_call 47;refine (rahead_any y.c y.r x.c x.r _).mono ?_;rintro e w2 ⟨rfl,hb2⟩;have hw2:=bnext (sgb (by assumption)) hb2 (sgb (by assumption)).size))
       all_goals
        go_wp2_with fail
        go_meet
        case rel=>exact⟨rfl,hw2⟩
      case rest =>
      obtain⟨rfl,hb2⟩:=hcut
      have HB2:Hid (Below wo.heap.size wo wc):=bnext HH.out.2 hb2 HH.out.2.size
      clear hb2 y0 y1 x0 x1 h0d SOF
      cases hlt:lt y x.c x.r with
      | true =>
       have HLT:Hid (lt y x.c x.r=true):=hlt
       clear hlt
       go_wp2_with fail
       refine⟨⟨m+1,rfl,hmk,fun j z hj hz=>?_,HB2.out⟩,by simp [intOf];omega⟩
       by_cases e:j=m
       ·subst e
        rw [HY.out] at hz
        injection hz with hz
        subst hz
        exact HLT.out
       ·exact HH.out.1 j z (by omega) hz
      | false =>
       have HLT:Hid (lt y x.c x.r=false):=hlt
       clear hlt
       go_wp2_with fail
       go_meet
       case rel =>
        refine⟨m,rfl,hm,ins_cut (by rw [HM.out];exact hm) HH.out.1 (fun z hz=>?_),HB2.out⟩
        rw [HY.out] at hz
        injection hz with hz
        subst hz
        exact HLT.out
     ·have e:m=k:=by omega
      subst e
      go_upto_region 6 with fail
      go_cut [29] (fun s29 wx=>s29=.bool false∧Below wr.heap.size wr wx)
      case first =>
       go_quiet (fail)
       go_wp2_with fail
       go_meet
       case rel=>exact⟨rfl,drewN_below _ _⟩
      case rest =>
      obtain⟨rfl,hb2⟩:=hcut
      have HB2:Hid (Below wo.heap.size wo wc):=bnext HH.out.2 hb2 HH.out.2.size
      clear hb2
      go_wp2_with fail
      go_meet
      case rel =>
       refine⟨m,rfl,Nat.le_refl _,ins_cut (by rw [HM.out];exact Nat.le_refl _) HH.out.1 (fun z hz=>?_),HB2.out⟩
       have:=(List.getElem?_eq_some_iff.1 hz).1
       have:=HM.out
       omega
   case rest =>
    obtain⟨m,rfl,hm,hI,hbc⟩:=hcut
    have HI:Hid (ins us x=us.take m++[x]++us.drop m):=hI
    have HT:Hid (TW w (.slice pv k cv) us (.slice none 0 0) [] wc):=TW.start (HL.out.next hbc)
    have hm0:(0:Int)≤(m:Int):=by omega
    have hmk:(m:Int)≤(k:Int):=by omega
    clear hI hbc HL
    have HU:Hid (∀ t,us.take t++us.drop t=us):=fun t=>List.take_append_drop t us
    rcases HT.out.old.2 with ⟨e,h0⟩ | ⟨g,cap,cur,e,hbg,hg,hcap,-⟩
    ·injection e with e1 e2 e3
     subst e1 e3
     have hk0:k=0:=by have:=HM.out;omega
     subst hk0
     have hm00:m=0:=by omega
     subst hm00
     obtain⟨p1,n1,c1,w1,hr1,hT1⟩:=HT.out.more (by simp) ((HT.out.fm rfl).take 0) (by rw [List.length_take];omega) (n:=0) (by rw [List.length_take,HM.out]<;>omega) 0
     have HR1:Hid ((Builtin.append_ #[22,22] 22 #[.slice none 0 0,.slice (none) 0 0]).run Tryz.prog wc=.ok (.slice p1 n1 c1) w1):=hr1
     have HT1:Hid (TW w (.slice (none) 0 0) us (.slice p1 n1 c1) (us.take 0) w1):=hT1
     clear hr1 hT1 HT e2
     go_upto_region 10 with (first | (at_builtin;refine fm.wpList_append_eq rfl _ _ 22 rfl _ _ _ _ rfl rfl HR1.out ?_))
     obtain⟨q0,q1,q2⟩:=FM.cells (HX.out.below HT1.out.below) HXi.out
     rw [Nat.zero_mul,Nat.add_zero] at q0 q1 q2
     obtain⟨p2,n2,c2,w2,hr2,hT2⟩:=(HT1.out.next ((Below.refl _ _).alloc (Nat.le_refl _) (.cells #[.int .i64 x.c,.int .i64 x.r,.string x.s] 44))).more (by rw [List.length_take];omega) (fm_new w1 x) (by simp) (n:=1) rfl 1
     have HR2:Hid ((Builtin.append_ #[22,22] 22 #[.slice p1 n1 c1,.slice (some ⟨w1.heap.size,0,none⟩) 1 1]).run Tryz.prog (w1.alloc (.cells #[.int .i64 x.c,.int .i64 x.r,.string x.s] 44))=.ok (.slice p2 n2 c2) w2):=hr2
     have HT2:Hid (TW w (.slice (none) 0 0) us (.slice p2 n2 c2) (us.take 0++[x]) w2):=hT2
     clear hr2 hT2
     go_upto_region 11 with (first | (at_builtin;refine fm.wpList_append_eq rfl _ _ 22 rfl _ _ _ _ rfl rfl HR2.out ?_))
     clear q0 q1 q2 HR1 HR2 HT1
     obtain⟨p3,n3,c3,w3,hr3,hT3⟩:=HT2.out.more (p:=none) (zs:=us.drop 0) (by simp) (.inl (by rw [List.drop_eq_nil_iff,HM.out]<;>exact Nat.le_refl _)) (by rw [List.length_drop,HM.out]<;>omega) (n:=0) (by rw [List.length_drop,HM.out]<;>omega) 0
     have HR3:Hid ((Builtin.append_ #[22,22] 22 #[.slice p2 n2 c2,.slice none 0 0]).run Tryz.prog w2=.ok (.slice p3 n3 c3) w3):=hr3
     have HT3:Hid (LV w (.slice p3 n3 c3) (sortR (xs.take (0+1))) w3):=by
      unfold Hid
      rw [HSn.out,HI.out]
      exact hT3.done
     clear hr3 hT3 HT2
     obtain⟨p4,c4,e4,-⟩:=FB.shape (own_base HT3.out.own (Nat.zero_le _))
     injection e4 with e5 e6 e7
     subst e5 e6 e7
     go_wp2_with (first | (at_builtin;refine fm.wpList_append_eq rfl _ _ 22 rfl _ _ _ _ rfl rfl HR3.out ?_))
     exact⟨⟨0+1,rfl,hin,⟨_,_,rfl⟩,HT3.out⟩,by simp [intOf];omega⟩
    ·injection e with e1 e2 e3
     subst e1 e3
     have hcI:(k:Int)≤(cv:Int):=by have:=HM.out;omega
     have hmc0:(m:Int)≤(cv:Int):=by omega
     obtain⟨p1,n1,c1,w1,hr1,hT1⟩:=HT.out.more (by simp) ((HT.out.fm rfl).take m) (by rw [List.length_take];omega) (n:=m) (by rw [List.length_take,HM.out];omega) cv
     have HR1:Hid ((Builtin.append_ #[22,22] 22 #[.slice none 0 0,.slice (some ⟨g,0,none⟩) m cv]).run Tryz.prog wc=.ok (.slice p1 n1 c1) w1):=hr1
     have HT1:Hid (TW w (.slice (some ⟨g,0,none⟩) k cv) us (.slice p1 n1 c1) (us.take m) w1):=hT1
     clear hr1 hT1 hg hbg hcap HT e2
     go_upto_region 10 with (first | (at_builtin;refine fm.wpList_append_eq rfl _ _ 22 rfl _ _ _ _ rfl rfl HR1.out ?_))
     obtain⟨q0,q1,q2⟩:=FM.cells (HX.out.below HT1.out.below) HXi.out
     obtain⟨p2,n2,c2,w2,hr2,hT2⟩:=(HT1.out.next ((Below.refl _ _).alloc (Nat.le_refl _) (.cells #[.int .i64 x.c,.int .i64 x.r,.string x.s] 44))).more (by rw [List.length_take];omega) (fm_new w1 x) (by simp) (n:=1) rfl 1
     have HR2:Hid ((Builtin.append_ #[22,22] 22 #[.slice p1 n1 c1,.slice (some ⟨w1.heap.size,0,none⟩) 1 1]).run Tryz.prog (w1.alloc (.cells #[.int .i64 x.c,.int .i64 x.r,.string x.s] 44))=.ok (.slice p2 n2 c2) w2):=hr2
     have HT2:Hid (TW w (.slice (some ⟨g,0,none⟩) k cv) us (.slice p2 n2 c2) (us.take m++[x]) w2):=hT2
     clear hr2 hT2
     go_upto_region 11 with (first | (at_builtin;refine fm.wpList_append_eq rfl _ _ 22 rfl _ _ _ _ rfl rfl HR2.out ?_))
     clear q0 q1 q2 HR1 HR2 HT1
     by_cases hmc:m=cv
     ·have hkc:k=m:=by have:=HM.out;omega
      subst hmc
      subst hkc
      obtain⟨p3,n3,c3,w3,hr3,hT3⟩:=HT2.out.more (p:=some ⟨g,0,none⟩) (zs:=us.drop k) (by simp;omega) (.inl (by rw [List.drop_eq_nil_iff,HM.out];exact Nat.le_refl _)) (by rw [List.length_drop,HM.out];omega) (n:=0) (by rw [List.length_drop,HM.out];omega) 0
      have HR3:Hid ((Builtin.append_ #[22,22] 22 #[.slice p2 n2 c2,.slice (some ⟨g,0,none⟩) 0 0]).run Tryz.prog w2=.ok (.slice p3 n3 c3) w3):=hr3
      have HT3:Hid (LV w (.slice p3 n3 c3) (sortR (xs.take (k+1))) w3):=by
       unfold Hid
       rw [HSn.out,HI.out]
       exact hT3.done
      clear hr3 hT3 HT2
      obtain⟨p4,c4,e4,-⟩:=FB.shape (own_base HT3.out.own (Nat.zero_le _))
      injection e4 with e5 e6 e7
      subst e5 e6 e7
      go_wp2_with (first | (at_builtin;refine fm.wpList_append_eq rfl _ _ 22 rfl _ _ _ _ rfl rfl HR3.out ?_))
      exact⟨⟨k+1,rfl,hin,⟨_,_,rfl⟩,HT3.out⟩,by simp [intOf];omega⟩
     ·have hmc1:¬ cv=m:=fun e=>hmc e.symm
      obtain⟨p3,n3,c3,w3,hr3,hT3⟩:=HT2.out.more (p:=some ⟨g,m*3,none⟩) (zs:=us.drop m) (by simp;omega) (by have:=FM.dropk (HT2.out.fm rfl) m (by rw [HM.out];exact hm);rwa [Nat.zero_add] at this) (by rw [List.length_drop,HM.out];omega) (n:=k - m) (by rw [List.length_drop,HM.out]) (cv - m)
      have HR3:Hid ((Builtin.append_ #[22,22] 22 #[.slice p2 n2 c2,.slice (some ⟨g,m*3,none⟩) (k - m) (cv - m)]).run Tryz.prog w2=.ok (.slice p3 n3 c3) w3):=hr3
      have HT3:Hid (LV w (.slice p3 n3 c3) (sortR (xs.take (k+1))) w3):=by
       unfold Hid
       rw [HSn.out,HI.out]
       exact hT3.done
      clear hr3 hT3 HT2
      obtain⟨p4,c4,e4,-⟩:=FB.shape (own_base HT3.out.own (Nat.zero_le _))
      injection e4 with e5 e6 e7
      subst e5 e6 e7
      go_wp2_with (first | (at_builtin;refine fm.wpList_append_eq rfl _ _ 22 rfl _ _ _ _ rfl rfl HR3.out ?_))
      exact⟨⟨k+1,rfl,hin,⟨_,_,rfl⟩,HT3.out⟩,by simp [intOf];omega⟩
  ·have hin':¬ (k:Int)<(n:Int):=by omega
   have e:k=n:=by omega
   subst e
   have HL':Hid (FM wo pv (sortR xs)∧Below w.heap.size w wo):=by
    have h1:=HL.out
    rw [List.take_of_length_le (by rw [HN.out];exact Nat.le_refl _)] at h1
    exact⟨(TW.start h1).fm rfl,h1.below⟩
   go_wp2_with fail
   go_ret
   exact⟨⟨pv,⟨cv,rfl⟩,HL'.out.1⟩,HL'.out.2⟩
end Go.Proofs.YtgifkepklnhddaaGreatDoor.ps

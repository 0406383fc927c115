import Derived.Test.YtgifkepklnhddaaGreatDoorQ7Jl
import Derived.Test.YtgifkepklnhddaaGreatDoorQ7Jd
import Derived.Test.YtgifkepklnhddaaGreatDoorQ7Qa
import Derived.Test.YtgifkepklnhddaaGreatDoorQ7Ji
import Derived.Test.YtgifkepklnhddaaGreatDoorQ7Jk
import Derived.Test.YtgifkepklnhddaaGreatDoorQ7Jj
import Derived.Test.YtgifkepklnhddaaGreatDoorQ7As
import Derived.Test.YtgifkepklnhddaaGreatDoorQ7Jc
import Derived.ProofKit
import Derived.OpenShut
import Derived.Deep.Slices
import Derived.Deep.Strs
import Derived.Lib.SmallJoins
namespace Go.Proofs.YtgifkepklnhddaaGreatDoor.fm
open Go.RowKit
set_option maxRecDepth 100000 in
set_option maxHeartbeats 16000000 in
theorem rformed_any {w:World} {P:Nat→Prop} {v:Value} {t0:T} (h:Nd w P v t0):∀ x d,W ink t0 x d→x.length≤100000000→∀ b:Bool,(t0.kd=6→b=true)→∀ w1,Below w.heap.size w w1 →
  Calls Tryz.prog 86 #[v,.bool b] w1 fun e w'=>e=.returned (.bool true)∧Below w1.heap.size w1 w':=by
 have HIn:Hid (∀ c r wx,adr.isC c r=true→Calls Tryz.prog 21 #[.agg #[.int .i64 c,.int .i64 r]] wx fun e w'=>e=.returned (.bool true)∧Below wx.heap.size wx w'):=fun c r wx h=>(ps.rin_any c r wx).mono fun e w' q=>by rw [h] at q;exact q
 induction h with
 | @mk k n s r t p m c us ts hk hl hs ih =>
 intro x d hW hxl b hb6 w1 hb1
 have HM:Hid (m=ts.length):=by show _=_;rw [hk.1,hl]
 have hB0:Below w1.heap.size w1 (w1.alloc (.cells (N12 k n s r t (.slice p m c)) 57)):=(Below.refl _ _).alloc (Nat.le_refl _) _
 have hbl:=heap_alloc_new w1 (.cells (N12 k n s r t (.slice p m c)) 57)
 cases hW with
 | num h0 h1 =>
  obtain rfl:m=0:=HM.out
  obtain⟨⟨a0,a1,a2,a3,a4,a5,a6,a7,a8,a9,a10,a11⟩,-⟩:=cells12 hbl
  have HB:Hid (Below w1.heap.size w1 (w1.alloc (.cells (N12 1 n nul .z .z (.slice p 0 c)) 57))):=hB0
  clear hB0 hbl ih hk hl hs hb6 h1
  go_enter Tryz.func86,Tryz.ntmps86
  go_wp2_with fail
  go_ret
  exact⟨rfl,HB.out⟩
 | text h =>
  obtain rfl:m=0:=HM.out
  obtain⟨⟨a0,a1,a2,a3,a4,a5,a6,a7,a8,a9,a10,a11⟩,-⟩:=cells12 hbl
  have HB:Hid (Below w1.heap.size w1 (w1.alloc (.cells (N12 2 0 s .z .z (.slice p 0 c)) 57))):=hB0
  clear hB0 hbl ih hk hl hs hb6 h
  go_enter Tryz.func86,Tryz.ntmps86
  go_wp2_with fail
  all_goals
   go_ret
   exact⟨rfl,HB.out⟩
 | truth h =>
  obtain rfl:m=0:=HM.out
  obtain⟨⟨a0,a1,a2,a3,a4,a5,a6,a7,a8,a9,a10,a11⟩,-⟩:=cells12 hbl
  have HB:Hid (Below w1.heap.size w1 (w1.alloc (.cells (N12 3 n nul .z .z (.slice p 0 c)) 57))):=hB0
  clear hB0 hbl ih hk hl hs hb6
  rcases h with rfl | rfl
  all_goals
   go_enter Tryz.func86,Tryz.ntmps86
   go_wp2_with fail
   go_ret
   exact⟨rfl,HB.out⟩
 | @bad nb h h6 =>
  obtain rfl:m=0:=HM.out
  obtain⟨⟨a0,a1,a2,a3,a4,a5,a6,a7,a8,a9,a10,a11⟩,-⟩:=cells12 hbl
  have HB:Hid (Below w1.heap.size w1 (w1.alloc (.cells (N12 4 (nb:Int) nul .z .z (.slice p 0 c)) 57))):=hB0
  have q1:(1:Int)≤(nb:Int):=by omega
  have q2:(nb:Int)≤6:=by omega
  clear hB0 hbl ih hk hl hs hb6 h h6
  go_enter Tryz.func86,Tryz.ntmps86
  go_wp2_with fail
  go_ret
  exact⟨rfl,HB.out⟩
 | ref h =>
  obtain rfl:m=0:=HM.out
  obtain⟨⟨a0,a1,a2,a3,a4,a5,a6,a7,a8,a9,a10,a11⟩,-⟩:=cells12 hbl
  have HB:Hid (Below w1.heap.size w1 (w1.alloc (.cells (N12 5 0 nul r .z (.slice p 0 c)) 57))):=hB0
  have hr0:¬ r.c=0:=by have h3:=(adr.isC_iff.1 h).1.1;omega
  have hr1:(r.c == 0)=false:=beq_eq_false_iff_ne.2 hr0
  have HR:Hid (adr.isC r.c r.r=true):=h
  clear hB0 hbl ih hk hl hs hb6 h hxl
  go_enter Tryz.func86,Tryz.ntmps86
  go_wp2_with (first | (go_at_call 21;refine (HIn.out _ _ _ HR.out).mono ?_;rintro e w2 ⟨rfl,hb2⟩))
  go_ret
  exact⟨rfl,bnext HB.out hb2 HB.out.size⟩
 | box h h2 =>
  obtain rfl:m=0:=HM.out
  obtain rfl:b=true:=hb6 rfl
  have hr0:¬ r.c=0:=by have h3:=(adr.isC_iff.1 h).1.1;omega
  have hr1:(r.c == 0)=false:=beq_eq_false_iff_ne.2 hr0
  have HR:Hid (∀ wx,Calls Tryz.prog 21 #[.agg #[.int .i64 r.c,.int .i64 r.r]] wx fun e w'=>e=.returned (.bool true)∧Below wx.heap.size wx w'):=fun wx=>HIn.out _ _ wx h
  have HT:Hid (∀ wx,Calls Tryz.prog 21 #[.agg #[.int .i64 t.c,.int .i64 t.r]] wx fun e w'=>e=.returned (.bool true)∧Below wx.heap.size wx w'):=fun wx=>HIn.out _ _ wx h2
  have HB:Hid (Below w1.heap.size w1 (w1.alloc (.cells #[.int .i64 6,.int .i64 0,.string nul,.int .i64 r.c,.int .i64 r.r,.bool r.fc,.bool r.fr,.int .i64 t.c,.int .i64 t.r,.bool t.fc,.bool t.fr,.slice p 0 c] 57))∧(w1.alloc (.cells #[.int .i64 6,.int .i64 0,.string nul,.int .i64 r.c,.int .i64 r.r,.bool r.fc,.bool r.fr,.int .i64 t.c,.int .i64 t.r,.bool t.fc,.bool t.fr,.slice p 0 c] 57)).heap[w1.heap.size]?=some (.cells #[.int .i64 6,.int .i64 0,.string nul,.int .i64 r.c,.int .i64 r.r,.bool r.fc,.bool r.fr,.int .i64 t.c,.int .i64 t.r,.bool t.fc,.bool t.fr,.slice p 0 c] 57 (0,0))):=⟨hB0,hbl⟩
  clear hB0 hbl ih hk hl hs hb6 h h2 hxl HIn
  go_enter Tryz.func86,Tryz.ntmps86
  go_upto_region 1 with fail
  generalize w1.alloc (.cells #[.int .i64 6,.int .i64 0,.string nul,.int .i64 r.c,.int .i64 r.r,.bool r.fc,.bool r.fr,.int .i64 t.c,.int .i64 t.r,.bool t.fc,.bool t.fr,.slice p 0 c] 57)=W at *
  have HLe:Hid (w1.heap.size≤W.heap.size):=HB.out.1.size
  generalize hbz:w1.heap.size=B at *
  have HZ:Hid (w1.heap.size=B):=hbz
  clear hbz
  obtain⟨⟨a0,a1,a2,a3,a4,a5,a6,a7,a8,a9,a10,a11⟩,-⟩:=cells12 HB.out.2
  go_wp2_with (first | (go_at_call 21;first | (with_reducible refine (HR.out _).mono ?_;rintro e w5 ⟨rfl,hb5⟩;obtain⟨⟨-,-,-,-,-,-,-,c7,c8,-⟩,-⟩:=cells12 ((hb5.block _ (lt_blk HB.out.2)).trans HB.out.2)) | (with_reducible refine (HT.out _).mono ?_;rintro e w6 ⟨rfl,hb6⟩)))
  go_ret
  exact⟨rfl,by rw [HZ.out];exact bnext (bnext HB.out.1 hb5 HLe.out) hb6 (Nat.le_trans HLe.out hb5.size)⟩
 | @neg a x1 d1 ha h =>
  obtain rfl:m=1:=HM.out
  obtain⟨g,o,u,t1,rfl,hg,hu,ht1,hc⟩:=kid_at hk hl hs 0 (by decide)
  have et:t1=a:=by simpa using ht1.symm
  subst et
  have hx1:x1.length≤100000000:=by
   unfold brk at hxl
   split at hxl<;>simp at hxl<;>omega
  have HI:Hid (∀ wx,Below w1.heap.size w1 wx→Calls Tryz.prog 86 #[u,.bool false] wx fun e w'=>e=.returned (.bool true)∧Below wx.heap.size wx w'):=fun wx hb=>ih 0 u t1 hu ht1 x1 d1 h hx1 false (fun e=>absurd e ha) wx (bnext hb1 hb hb1.size)
  have hN:=hs 0 u t1 hu ht1
  have HG:Hid (g<w1.heap.size):=Nat.lt_of_lt_of_le hg hb1.size
  cases hN with
  | @mk k1 n1 s1 ra rb p1 m1 q1 us1 ts1 _ _ _ =>
  have HKV:Hid (∀ wx,Below w1.heap.size w1 wx→_):=fun wx hb=>kid_val (i:=0) hg (bnext hb1 hb hb1.size) hc
  have HB:Hid (Below w1.heap.size w1 (w1.alloc (.cells #[.int .i64 7,.int .i64 0,.string nul,.int .i64 0,.int .i64 0,.bool false,.bool false,.int .i64 0,.int .i64 0,.bool false,.bool false,.slice (some ⟨g,o,none⟩) 1 c] 57))∧(w1.alloc (.cells #[.int .i64 7,.int .i64 0,.string nul,.int .i64 0,.int .i64 0,.bool false,.bool false,.int .i64 0,.int .i64 0,.bool false,.bool false,.slice (some ⟨g,o,none⟩) 1 c] 57)).heap[w1.heap.size]?=some (.cells #[.int .i64 7,.int .i64 0,.string nul,.int .i64 0,.int .i64 0,.bool false,.bool false,.int .i64 0,.int .i64 0,.bool false,.bool false,.slice (some ⟨g,o,none⟩) 1 c] 57 (0,0))):=⟨hB0,hbl⟩
  clear hB0 hbl ih hk hl hs hu ht1 hc hxl hb6 ha
  go_enter Tryz.func86,Tryz.ntmps86
  go_upto_region 1 with fail
  generalize w1.alloc (.cells #[.int .i64 7,.int .i64 0,.string nul,.int .i64 0,.int .i64 0,.bool false,.bool false,.int .i64 0,.int .i64 0,.bool false,.bool false,.slice (some ⟨g,o,none⟩) 1 c] 57)=W at *
  have HLe:Hid (w1.heap.size≤W.heap.size):=HB.out.1.size
  obtain⟨⟨a0,a1,a2,a3,a4,a5,a6,a7,a8,a9,a10,a11⟩,-⟩:=cells12 HB.out.2
  obtain⟨b0,b1,b2,b3,b4,b5,b6,b7,b8,b9,b10,b11⟩:=HKV.out W HB.out.1
  simp only [Nat.zero_mul,Nat.add_zero] at b0 b1 b2 b3 b4 b5 b6 b7 b8 b9 b10 b11
  go_wp2_with (first | (go_at_call 86;refine (HI.out _ HB.out.1).mono ?_;rintro e w2 ⟨rfl,hb2⟩))
  go_ret
  exact⟨rfl,bnext HB.out.1 hb2 HLe.out⟩
 | @two op a b' x1 x2 d1 d2 h1 h11 ha hb hx hy =>
  obtain rfl:m=2:=HM.out
  obtain⟨g,o,u,t1,rfl,hg,hu,ht1,hc⟩:=kid_at hk hl hs 0 (by decide)
  obtain⟨g',o',u',t2,e2,-,hu',ht2,hc'⟩:=kid_at hk hl hs 1 (by decide)
  injection e2 with e2
  injection e2 with e2 e3
  subst e2 e3
  have et:t1=a:=by simpa using ht1.symm
  subst et
  have et:t2=b':=by simpa using ht2.symm
  subst et
  have hlb:∀ (l:Nat) (t:T) (x:List UInt8),x.length≤(brk l t x).length:=fun l t x=>by
   unfold brk
   split
   ·simp only [List.length_cons,List.length_append];omega
   ·exact Nat.le_refl _
  have hxl':(brk (lev op) t1 x1).length+(opT op).length+(brk (lev op+1) t2 x2).length≤100000000:=by
   have h:=hxl
   simp only [List.length_append] at h
   omega
  have hx1:x1.length≤100000000:=by have:=hlb (lev op) t1 x1;omega
  have hx2:x2.length≤100000000:=by have:=hlb (lev op+1) t2 x2;omega
  have HI1:Hid (∀ wx,Below w1.heap.size w1 wx→Calls Tryz.prog 86 #[u,.bool false] wx fun e w'=>e=.returned (.bool true)∧Below wx.heap.size wx w'):=fun wx hbx=>ih 0 u t1 hu ht1 x1 d1 hx hx1 false (fun e=>absurd e ha) wx (bnext hb1 hbx hb1.size)
  have HI2:Hid (∀ wx,Below w1.heap.size w1 wx→Calls Tryz.prog 86 #[u',.bool false] wx fun e w'=>e=.returned (.bool true)∧Below wx.heap.size wx w'):=fun wx hbx=>ih 1 u' t2 hu' ht2 x2 d2 hy hx2 false (fun e=>absurd e hb) wx (bnext hb1 hbx hb1.size)
  have hN:=hs 0 u t1 hu ht1
  have hN':=hs 1 u' t2 hu' ht2
  cases hN with
  | @mk k1 n1 s1 ra rb p1 m1 q1 us1 ts1 _ _ _ =>
  cases hN' with
  | @mk k2 n2 s2 rc rd p2 m2 q2 us2 ts2 _ _ _ =>
  have HKV:Hid (∀ wx,Below w1.heap.size w1 wx→_):=fun wx hb=>kid_val (i:=0) hg (bnext hb1 hb hb1.size) hc
  have HKW:Hid (∀ wx,Below w1.heap.size w1 wx→_):=fun wx hb=>kid_val (i:=1) hg (bnext hb1 hb hb1.size) hc'
  have q1:(1:Int)≤(op:Nat):=by omega
  have q2:((op:Nat):Int)≤11:=by omega
  have HB:Hid (Below w1.heap.size w1 (w1.alloc (.cells #[.int .i64 8,.int .i64 (op:Nat),.string nul,.int .i64 0,.int .i64 0,.bool false,.bool false,.int .i64 0,.int .i64 0,.bool false,.bool false,.slice (some ⟨g,o,none⟩) 2 c] 57))∧(w1.alloc (.cells #[.int .i64 8,.int .i64 (op:Nat),.string nul,.int .i64 0,.int .i64 0,.bool false,.bool false,.int .i64 0,.int .i64 0,.bool false,.bool false,.slice (some ⟨g,o,none⟩) 2 c] 57)).heap[w1.heap.size]?=some (.cells #[.int .i64 8,.int .i64 (op:Nat),.string nul,.int .i64 0,.int .i64 0,.bool false,.bool false,.int .i64 0,.int .i64 0,.bool false,.bool false,.slice (some ⟨g,o,none⟩) 2 c] 57 (0,0))):=⟨hB0,hbl⟩
  clear hB0 hbl ih hk hl hs hu ht1 hc hu' ht2 hc' hxl hxl' hlb hb6 ha hb h1 h11
  go_enter Tryz.func86,Tryz.ntmps86
  go_upto_region 1 with fail
  generalize w1.alloc (.cells #[.int .i64 8,.int .i64 (op:Nat),.string nul,.int .i64 0,.int .i64 0,.bool false,.bool false,.int .i64 0,.int .i64 0,.bool false,.bool false,.slice (some ⟨g,o,none⟩) 2 c] 57)=W at *
  have HLe:Hid (w1.heap.size≤W.heap.size):=HB.out.1.size
  obtain⟨⟨a0,a1,a2,a3,a4,a5,a6,a7,a8,a9,a10,a11⟩,-⟩:=cells12 HB.out.2
  obtain⟨b0,b1,b2,b3,b4,b5,b6,b7,b8,b9,b10,b11⟩:=HKV.out W HB.out.1
  simp only [Nat.zero_mul,Nat.add_zero] at b0 b1 b2 b3 b4 b5 b6 b7 b8 b9 b10 b11
  go_wp2_with (first | (go_at_call 86;first | (with_reducible refine (HI1.out _ HB.out.1).mono ?_;rintro e w5 ⟨rfl,hb5⟩;obtain⟨⟨-,-,-,-,-,-,-,-,-,-,-,e11⟩,-⟩:=cells12 ((hb5.block _ (lt_blk HB.out.2)).trans HB.out.2);obtain⟨c0,c1,c2,c3,c4,c5,c6,c7,c8,c9,c10,c11⟩:=HKW.out w5 (bnext HB.out.1 hb5 HB.out.1.size);simp only [Nat.one_mul] at c0 c1 c2 c3 c4 c5 c6 c7 c8 c9 c10 c11) | (with_reducible refine (HI2.out _ (bnext HB.out.1 hb5 HB.out.1.size)).mono ?_;rintro e w6 ⟨rfl,hb6⟩)))
  go_ret
  exact⟨rfl,bnext (bnext HB.out.1 hb5 HLe.out) hb6 (Nat.le_trans HLe.out hb5.size)⟩
 | @call nm0 ts0 xs ds hn hx hd h =>
  have hxl':(commas xs).length≤100000000:=by
   have h3:=hxl
   simp only [List.length_append,List.length_cons,List.length_nil] at h3
   omega
  have hm8:m≤100000001:=by
   have:=commasN_len xs
   have e:=HM.out
   omega
  have HX:Hid (m=xs.length):=by have e:=HM.out;show _=_;omega
  have hsz:s.size≤200:=by
   have h2:=hn
   unfold isNm at h2
   simp only [Bool.and_eq_true,decide_eq_true_eq] at h2
   omega
  have he:s.toList.isEmpty=false:=by
   rw [ByteArray.toList_eq]
   cases hq:s.data.toList with
   | nil=>exact absurd hq (isNm_word hn).2
   | cons a l=>rfl
  have HC:Hid (∀ wx,Calls Tryz.prog 117 #[.string s] wx fun e w'=>e=.returned (.bool true)∧w'=wx):=fun wx=>(called_any s wx hsz).mono fun e w' q=>by rw [hn] at q;exact q
  have HK:Hid (Kids w P p m c us):=hk
  have HL:Hid (us.length=ts.length):=hl
  have HS:Hid (∀ (i:Nat) u t',us[i]?=some u→ts[i]?=some t'→Nd w P u t'):=hs
  have HI:Hid (∀ (j:Nat) u t',us[j]?=some u→ts[j]?=some t'→∀ wx,Below w1.heap.size w1 wx→Calls Tryz.prog 86 #[u,.bool true] wx fun e w'=>e=.returned (.bool true)∧Below wx.heap.size wx w'):=fun j u t' hu ht wx hb=>by
   have hjl:=(List.getElem?_eq_some_iff.1 ht).1
   obtain⟨xj,hxj⟩:∃ xj,xs[j]?=some xj:=⟨_,List.getElem?_eq_getElem (by omega)⟩
   obtain⟨dj,hdj⟩:∃ dj,ds[j]?=some dj:=⟨_,List.getElem?_eq_getElem (by omega)⟩
   have hle:xj.length≤(commas xs).length:=by
    have h1:=commas_take hxj
    have h2:=h1.2
    rw [h1.1] at h2
    split at h2
    ·exact h2
    ·simp only [List.length_append,List.length_cons] at h2;omega
   exact ih j u t' hu ht xj dj (h j t' xj dj ht hxj hdj) (by omega) true (fun _=>rfl) wx (bnext hb1 hb hb1.size)
  have HB:Hid (Below w1.heap.size w1 (w1.alloc (.cells #[.int .i64 9,.int .i64 0,.string s,.int .i64 0,.int .i64 0,.bool false,.bool false,.int .i64 0,.int .i64 0,.bool false,.bool false,.slice p m c] 57))∧(w1.alloc (.cells #[.int .i64 9,.int .i64 0,.string s,.int .i64 0,.int .i64 0,.bool false,.bool false,.int .i64 0,.int .i64 0,.bool false,.bool false,.slice p m c] 57)).heap[w1.heap.size]?=some (.cells #[.int .i64 9,.int .i64 0,.string s,.int .i64 0,.int .i64 0,.bool false,.bool false,.int .i64 0,.int .i64 0,.bool false,.bool false,.slice p m c] 57 (0,0))):=⟨hB0,hbl⟩
  clear hB0 hbl ih hk hl hs hxl hxl' hn hx hd h hsz hb6
  go_enter Tryz.func86,Tryz.ntmps86
  go_upto_region 1 with fail
  generalize w1.alloc (.cells #[.int .i64 9,.int .i64 0,.string s,.int .i64 0,.int .i64 0,.bool false,.bool false,.int .i64 0,.int .i64 0,.bool false,.bool false,.slice p m c] 57)=W at *
  have HLe:Hid (w1.heap.size≤W.heap.size):=HB.out.1.size
  obtain⟨⟨a0,a1,a2,a3,a4,a5,a6,a7,a8,a9,a10,a11⟩,-⟩:=cells12 HB.out.2
  go_wp2_with (first | (go_at_call 117;refine (HC.out _).mono ?_;rintro e w2 ⟨rfl,hw⟩;have hv:=hw.symm;clear hw;subst hv))
  go_loopw [7,8] (fun s7 s8 wr=>∃ j:Nat,s8=.int .i64 (j:Int)∧j≤m∧Hid (Below W.heap.size W wr)) (fun _ s8 _=>m - (intOf s8).toNat)
  case atStart=>exact⟨0,rfl,Nat.zero_le _,Below.refl _ _⟩
  case round =>
   obtain⟨j,rfl,hj,HR⟩:=hrel
   have hj0:(0:Int)≤(j:Int):=by omega
   clear a0 a1 a2 a3 a4 a5 a6 a7 a8 a9 a10 a11
   obtain⟨-,-,-,a11⟩:=blk_at HB.out.2 HR.out
   by_cases hlt:j<m
   ·have hlt':(j:Int)<(m:Int):=by omega
    obtain⟨g,o,u,t1,rfl,hg,hu,ht1,hc⟩:=kid_at HK.out HL.out HS.out j hlt
    have HIj:Hid (∀ wx,Below w1.heap.size w1 wx→Calls Tryz.prog 86 #[u,.bool true] wx fun e w'=>e=.returned (.bool true)∧Below wx.heap.size wx w'):=HI.out j u t1 hu ht1
    have hN:=HS.out j u t1 hu ht1
    have HBr:Hid (Below w1.heap.size w1 wr):=bnext HB.out.1 HR.out HLe.out
    clear hu ht1
    cases hN with
    | @mk k1 n1 s1 ra rb p1 m1 q1 us1 ts1 _ _ _ =>
    obtain⟨b0,b1,b2,b3,b4,b5,b6,b7,b8,b9,b10,b11⟩:=kid_val (i:=j) hg (bnext hb1 HBr.out hb1.size) hc
    clear hc
    go_wp2_with (first | (go_at_call 86;refine (HIj.out _ HBr.out).mono ?_;rintro e w3 ⟨rfl,hb3⟩))
    exact⟨⟨j+1,rfl,hlt,bnext HR.out hb3 HR.out.size⟩,by simp [intOf];omega⟩
   ·have hlt':¬ (j:Int)<(m:Int):=by omega
    obtain rfl:j=m:=by omega
    go_wp2_with fail
    go_ret
    exact⟨rfl,bnext HB.out.1 HR.out HLe.out⟩
end Go.Proofs.YtgifkepklnhddaaGreatDoor.fm
namespace Go.Proofs.YtgifkepklnhddaaGreatDoor.fm
def Fx {α:Type} (r:Rs α):Prop:=∃ j,r=.err j 4
theorem Fx.bind {α β:Type} {r:Rs α} (h:Fx r) (f:α→Nat→Rs β):Fx (r.bind f):=by
 obtain⟨j,rfl⟩:=h
 exact⟨j,rfl⟩
theorem Fx.ite {α:Type} {c:Prop} [Decidable c] {j:Nat} {r:Rs α} (h:¬ c→Fx r):Fx (if c then .err j 4 else r):=by
 by_cases hc:c
 ·rw [if_pos hc];exact⟨j,rfl⟩
 ·rw [if_neg hc];exact h hc
section
variable (L:Lex)
def No (x:List UInt8) (dp v:Nat):Prop:=∀ s k d,At s k x→St s (k+x.length)→d≤30→30<d+dp→lev (opAt s (k+x.length)).1≤v →
 nx s (tokEnd s k)≠58∧∀ l,1≤l→l≤v→Fx (Expr L s l d k)
theorem no_flat {x:List UInt8} {v:Nat}:No L x 0 v:=fun s k d _ _ h1 h2 _=>by omega
theorem no_operand {x:List UInt8} {dp:Nat} (h:∀ s k d,At s k x→St s (k+x.length)→d≤30→30<d+dp→nx s (tokEnd s k)≠58∧Fx (Operand L s d k)):No L x dp 5:=by
 intro s k d ha hst h1 h2 _
 have hx:=h s k d ha hst h1 h2
 refine⟨hx.1,fun l h1 h5=>?_⟩
 have hle:=ha.le
 rw [Expr_chain L s _ l d k rfl h1 h5 (by omega)]
 exact hx.2.bind _
theorem no_bracket {x:List UInt8} {dp v:Nat} (h:No L x dp v) (hv:1≤v):No L (40::(x++[41])) (dp+1) 5:=by
 refine no_operand L fun s k d ha hst hd1 hd2=>?_
 have h1:=ha.cons
 have h2:=h1.2.app
 have h3:=(At.cons (y:=[]) h2.2).1
 have e3:nx s (k+1+x.length)=41:=h3
 have hw:isW (nx s k)=false:=by rw [h1.1];decide
 have hle:=ha.le
 refine⟨by rw [tok_out hw,h1.1];decide,?_⟩
 have hsk:skip s k=k:=skip_at (by rw [h1.1];decide)
 have e1:nx s k=40:=h1.1
 rw [Operand_eq L s d k (by omega),hsk,if_neg (by omega),if_pos e1]
 refine Fx.ite fun h30=>?_
 exact ((h s (k+1) (d+1) h2.1 (St.of (.inr (.inl e3))) (by omega) (by omega) (by rw [lev_41 (.inr (.inl e3))];omega)).2 1 (Nat.le_refl _) hv).bind _
theorem no_opd {t:T} {x:List UInt8} {dp:Nat} (h:Cl L t x dp (lv t)) (hn:No L x dp (lv t)) (hv:1≤lv t) (l0:Nat) (h5:l0≤5):∃ v,l0≤v∧Cl L t (brk l0 t x) (brd l0 t dp) v∧No L (brk l0 t x) (brd l0 t dp) v:=by
 unfold brk brd
 by_cases hl:loose l0 t=true
 ·rw [if_pos hl,if_pos hl];exact⟨5,h5,cl_bracket L h hv,no_bracket L hn hv⟩
 ·rw [if_neg hl,if_neg hl]
  refine⟨lv t,?_,h,hn⟩
  unfold loose at hl
  unfold lv
  split
  ·next c=>simp [c] at hl;exact hl
  ·exact h5
def ArgNo (x:List UInt8) (dp:Nat):Prop:=∀ s k d,At s k x→(nx s (k+x.length)=44∨nx s (k+x.length)=41)→d≤30→30<d+dp→Fx (Arg L s d k)
theorem arg_no {x:List UInt8} {dp v:Nat} (h:No L x dp v) (hv:1≤v) (hh:Hd x):ArgNo L x dp:=by
 intro s k d ha hx hd1 hd2
 have hx':nx s (k+x.length)=44∨nx s (k+x.length)=41∨nx s (k+x.length)=0:=by rcases hx with h | h<;>simp [h]
 have hle:=ha.le
 have hq:=h s k d ha (St.of hx') hd1 hd2 (by rw [lev_41 hx'];omega)
 have h58:=hq.1
 have hr:=hq.2 1 (Nat.le_refl _) hv
 rw [Arg_eq L s d k (by omega),skip_at (hh.ne ha).1]
 split
 ·exact hr
 ·rw [if_neg h58];exact hr
theorem more_no (s:ByteArray) (d:Nat):∀ (ts:List T) (xs:List (List UInt8)) (acc:List T) (k:Nat),xs.length=ts.length →
  (∀ (i:Nat) t x,ts[i]?=some t→xs[i]?=some x→(∀ k,At s k x→(nx s (k+x.length)=44∨nx s (k+x.length)=41)→Arg L s d k=.ok t (k+x.length))∨(∀ k,At s k x→(nx s (k+x.length)=44∨nx s (k+x.length)=41)→Fx (Arg L s d k))) →
  (∃ (i:Nat) (t:T) (x:List UInt8),ts[i]?=some t∧xs[i]?=some x∧∀ k,At s k x→(nx s (k+x.length)=44∨nx s (k+x.length)=41)→Fx (Arg L s d k)) →
  At s k (xs.flatMap (fun y=>44::y)++[41])→Fx (More L s d acc k):=by
 intro ts
 induction ts with
 | nil =>
  intro xs acc k _ _ hE _
  obtain⟨i,t,x,h1,-⟩:=hE
  simp at h1
 | cons t ts ih =>
  intro xs acc k hl hA hE ha
  cases xs with
  | nil=>simp at hl
  | cons x xs =>
   simp only [List.flatMap_cons,List.cons_append,List.append_assoc] at ha
   have h1:=ha.cons
   have h2:=h1.2.app
   have hle:=ha.le
   have hn:nx s (k+1+x.length)=44∨nx s (k+1+x.length)=41:=by
    cases xs with
    | nil=>exact .inr (At.cons (y:=[]) h2.2).1
    | cons y ys=>simp only [List.flatMap_cons,List.cons_append] at h2;exact .inl h2.2.cons.1
   have e1:nx s k=44:=h1.1
   rw [More_eq L s d acc k (by omega),skip_at (by omega),if_pos e1]
   rcases hA 0 t x (by simp) (by simp) with hok | hno
   ·rw [hok (k+1) h2.1 hn]
    show Fx (More L s d (acc++[t]) (k+1+x.length))
    refine ih xs (acc++[t]) _ (by simpa using hl) (fun i t x h1 h2=>hA (i+1) t x (by simpa using h1) (by simpa using h2)) ?_ h2.2
    obtain⟨i,t',x',q1,q2,q3⟩:=hE
    cases i with
    | zero =>
     simp at q1 q2
     subst q1 q2
     obtain⟨j,ej⟩:=q3 (k+1) h2.1 hn
     rw [hok (k+1) h2.1 hn] at ej
     cases ej
    | succ i=>exact⟨i,t',x',by simpa using q1,by simpa using q2,q3⟩
   ·exact (hno (k+1) h2.1 hn).bind _
theorem args_no (s:ByteArray) (d k:Nat) (ts:List T) (xs:List (List UInt8)) (hl:xs.length=ts.length) (hh:∀ (i:Nat) x,xs[i]?=some x→Hd x)
  (hA:∀ (i:Nat) t x,ts[i]?=some t→xs[i]?=some x→(∀ k,At s k x→(nx s (k+x.length)=44∨nx s (k+x.length)=41)→Arg L s d k=.ok t (k+x.length))∨(∀ k,At s k x→(nx s (k+x.length)=44∨nx s (k+x.length)=41)→Fx (Arg L s d k)))
  (hE:∃ (i:Nat) (t:T) (x:List UInt8),ts[i]?=some t∧xs[i]?=some x∧∀ k,At s k x→(nx s (k+x.length)=44∨nx s (k+x.length)=41)→Fx (Arg L s d k)) (ha:At s k (commas xs++[41])) :
  Fx (Args L s d k):=by
 have hle:=ha.le
 cases xs with
 | nil =>
  obtain⟨i,t,x,-,h1,-⟩:=hE
  simp at h1
 | cons x xs =>
  cases ts with
  | nil=>simp at hl
  | cons t ts =>
   rw [commas_cons] at ha
   simp only [List.append_assoc] at ha
   have h2:=ha.app
   have hn:nx s (k+x.length)=44∨nx s (k+x.length)=41:=by
    cases xs with
    | nil=>exact .inr (At.cons (y:=[]) h2.2).1
    | cons y ys=>simp only [List.flatMap_cons,List.cons_append] at h2;exact .inl h2.2.cons.1
   have hne:=(hh 0 x (by simp)).ne h2.1
   rw [Args_eq L s d k (by omega),skip_at hne.1,if_neg hne.2.2.2.1]
   rcases hA 0 t x (by simp) (by simp) with hok | hno
   ·rw [hok k h2.1 hn]
    show Fx (More L s d [t] (k+x.length))
    refine more_no L s d ts xs [t] _ (by simpa using hl) (fun i t x h1 h2=>hA (i+1) t x (by simpa using h1) (by simpa using h2)) ?_ h2.2
    obtain⟨i,t',x',q1,q2,q3⟩:=hE
    cases i with
    | zero =>
     simp at q1 q2
     subst q1 q2
     obtain⟨j,ej⟩:=q3 k h2.1 hn
     rw [hok k h2.1 hn] at ej
     cases ej
    | succ i=>exact⟨i,t',x',by simpa using q1,by simpa using q2,q3⟩
   ·exact (hno k h2.1 hn).bind _
theorem foldr_hit (ds:List Nat) (m:Nat):m<ds.foldr max 0→∃ (i:Nat) (d:Nat),ds[i]?=some d∧m<d:=by
 induction ds with
 | nil=>intro h;simp at h
 | cons a ds ih =>
  intro h
  simp only [List.foldr_cons] at h
  by_cases ha:m<a
  ·exact⟨0,a,rfl,ha⟩
  ·obtain⟨i,d,h1,h2⟩:=ih (by omega)
   exact⟨i+1,d,by simpa using h1,h2⟩
theorem read_no {K:Ink} (F:Fit L K) {t:T} {x:List UInt8} {dp:Nat} (h:W K t x dp):(t.kd≠6→No L x dp (lv t))∧ArgNo L x dp:=by
 induction h with
 | num h0 h1=>exact⟨fun _=>no_flat L,fun s k d _ _ h1 h2=>by omega⟩
 | text hs=>exact⟨fun _=>no_flat L,fun s k d _ _ h1 h2=>by omega⟩
 | truth hn=>exact⟨fun _=>no_flat L,fun s k d _ _ h1 h2=>by omega⟩
 | bad h1 h6=>exact⟨fun _=>no_flat L,fun s k d _ _ h1 h2=>by omega⟩
 | ref hr=>exact⟨fun _=>no_flat L,fun s k d _ _ h1 h2=>by omega⟩
 | box hr ht=>exact⟨fun _=>no_flat L,fun s k d _ _ h1 h2=>by omega⟩
 | @neg a x d ha h ih =>
  have hb:=read_back L F h
  have hh:Hd (45::brk 5 a x):=⟨45,_,rfl,by simp⟩
  obtain⟨v,hv,-,hn0⟩:=no_opd L (hb.2.1 ha) (ih.1 ha) (lv_pos h) 5 (by omega)
  have hn:No L (45::brk 5 a x) (brd 5 a d+1) 5:=no_operand L fun s k e hat hst hd1 hd2=>by
   have h1:=hat.cons
   have e1:nx s k=45:=h1.1
   have hle:=hat.le
   simp only [List.length_cons] at hle
   have hst':St s (k+1+(brk 5 a x).length):=by rw [show k+1+(brk 5 a x).length=k+(45::brk 5 a x).length from by simp;omega];exact hst
   refine⟨by rw [tok_out (by rw [e1];decide),e1];decide,?_⟩
   rw [Operand_eq L s e k (by omega),skip_at (by omega),if_pos e1]
   refine Fx.ite fun h30=>?_
   have hr:=(hn0 s (k+1) (e+1) h1.2 hst' (by omega) (by omega) (by have:=lev_le (opAt s (k+1+(brk 5 a x).length)).1;omega)).2 5 (by omega) hv
   rw [Expr_five L s _ _ (by omega)] at hr
   exact hr.bind _
  exact⟨fun _=>hn,arg_no L hn (by omega) hh⟩
 | @two op a b x y d e h1 h11 ha hb hx hy ihx ihy =>
  have hbx:=read_back L F hx
  have hby:=read_back L F hy
  have hle4:=lev_le op
  have hpos:=lev_pos (op:=op) (by omega)
  obtain⟨v1,hv1,c1,n1⟩:=no_opd L (hbx.2.1 ha) (ihx.1 ha) (lv_pos hx) (lev op) (by omega)
  obtain⟨v2,hv2,c2,n2⟩:=no_opd L (hby.2.1 hb) (ihy.1 hb) (lv_pos hy) (lev op+1) (by omega)
  have hha:Hd (brk (lev op) a x):=hd_brk hbx.1
  have hhb:Hd (brk (lev op+1) b y):=hd_brk hby.1
  have hh:Hd (brk (lev op) a x++opT op++brk (lev op+1) b y):=by
   obtain⟨c,r,e,hc⟩:=hha
   exact⟨c,r++opT op++brk (lev op+1) b y,by rw [e];simp,hc⟩
  have hlv:lv (.nd 8 op nul .z .z [a,b])=lev op:=by simp [lv,T.kd,T.nm]
  have hn:No L (brk (lev op) a x++opT op++brk (lev op+1) b y) (max (brd (lev op) a d) (brd (lev op+1) b e)) (lev op):=by
   intro s k d0 hat hst hd1 hd2 hv
   have hle:=hat.le
   have hat':At s k (brk (lev op) a x++(opT op++brk (lev op+1) b y)):=by rw [← List.append_assoc];exact hat
   have s1:=hat'.app
   have s2:=s1.2.app
   have ho:=op_at h1 h11 s1.2 hhb
   have hnx:St s (k+(brk (lev op) a x).length):=by
    have:=s1.2
    have hc:op=1∨op=2∨op=3∨op=4∨op=5∨op=6∨op=7∨op=8∨op=9∨op=10∨op=11:=by omega
    rcases hc with rfl | rfl | rfl | rfl | rfl | rfl | rfl | rfl | rfl | rfl | rfl
    all_goals (simp only [opT,List.cons_append] at this;have q:=this.cons.1;exact⟨by rw [q];decide,by rw [q];decide,by rw [q];decide,by rw [q];decide,by rw [q];decide⟩)
   have hlen:k+(brk (lev op) a x++opT op++brk (lev op+1) b y).length=k+(brk (lev op) a x).length+(opT op).length+(brk (lev op+1) b y).length:=by simp;omega
   rw [hlen] at hst hv
   by_cases hda:d0+brd (lev op) a d≤30
   ·have r1:=c1 s k d0 s1.1 hnx hda (by rw [ho];exact hv1)
    refine⟨r1.1,fun l hl1 hl2=>?_⟩
    have r2:=(n2 s _ d0 s2.2 hst hd1 (by omega) (by omega)).2 (lev op+1) (by omega) hv2
    have hsk:=skip_at hnx.b
    rw [r1.2 l hl1 (by omega),Chain_some L s _ l d0 a _ rfl hl1 (by have:=s1.1.le;omega) (by rw [hsk,ho];exact hl2),hsk,ho]
    exact r2.bind _
   ·have r1:=n1 s k d0 s1.1 hnx hd1 (by omega) (by rw [ho];exact hv1)
    exact⟨r1.1,fun l hl1 hl2=>r1.2 l hl1 (by omega)⟩
  exact⟨fun _=>by rw [hlv];exact hn,arg_no L hn hpos hh⟩
 | @call name ts xs ds hn hx hd h ih =>
  have hwd:=isNm_word hn
  have hh:Hd (name.data.toList++40::(commas xs++[41])):=by
   obtain⟨c,r,e,hc⟩:=hd_word hwd.1 hwd.2
   exact⟨c,r++40::(commas xs++[41]),by rw [e];simp,hc⟩
  have hno:No L (name.data.toList++40::(commas xs++[41])) (ds.foldr max 0+1) 5:=no_operand L fun s k e hat hst hd1 hd2=>by
   have s1:=hat.app
   have s2:=s1.2.cons
   have hle:=hat.le
   have e2:nx s (k+name.data.toList.length)=40:=s2.1
   have ht:=tok_at s1.1 hwd.1 (by rw [e2];decide)
   have htk:tok s k=name:=by unfold tok;rw [ht,extract_at s1.1]
   have hq:=hd_word hwd.1 hwd.2
   obtain⟨c,r,er,hcc⟩:=hq
   have hcw:=hwd.1 c (by rw [er];simp)
   have hk1:nx s k=c.toNat:=by have:=s1.1;rw [er] at this;exact this.cons.1
   rw [← hk1] at hcw
   have hx4:nx s k≠32∧nx s k≠45∧nx s k≠40∧nx s k≠34∧nx s k≠35:=by
    refine⟨?_,?_,?_,?_,?_⟩<;>intro e<;>rw [e] at hcw<;>simp [isW] at hcw
   refine⟨by rw [ht,e2];decide,?_⟩
   rw [Operand_eq L s e k (by omega),skip_at hx4.1,if_neg hx4.2.1,if_neg hx4.2.2.1,if_neg hx4.2.2.2.1,if_neg hx4.2.2.2.2,ht,htk,if_pos ⟨hn,e2⟩]
   refine Fx.ite fun h30=>?_
   have hof:∀ (i:Nat) x,xs[i]?=some x→∃ (t:T) (d:Nat),ts[i]?=some t∧ds[i]?=some d:=fun i x h1=>by
    have hi:=(List.getElem?_eq_some_iff.1 h1).1
    exact⟨_,_,List.getElem?_eq_getElem (by omega),List.getElem?_eq_getElem (by omega)⟩
   refine (args_no L s (e+1) (k+name.data.toList.length+1) ts xs hx (fun i x h1=>?_) (fun i t x h1 h2=>?_) ?_ s2.2).bind _
   ·obtain⟨t,d,h2,h3⟩:=hof i x h1
    exact (read_back L F (h i t x d h2 h1 h3)).1
   ·obtain⟨t',d,h2',h3⟩:=hof i x h2
    by_cases hd':e+1+d≤30
    ·exact .inl fun k hk hq=>(read_back L F (h i t x d h1 h2 h3)).2.2 s k (e+1) hk hq hd'
    ·exact .inr fun k hk hq=>(ih i t x d h1 h2 h3).2 s k (e+1) hk hq (by omega) (by omega)
   ·obtain⟨i,d,h3,hlt⟩:=foldr_hit ds (29 - e) (by omega)
    have hi:=(List.getElem?_eq_some_iff.1 h3).1
    have h1:ts[i]?=some ts[i]:=List.getElem?_eq_getElem (by omega)
    have h2:xs[i]?=some xs[i]:=List.getElem?_eq_getElem (by omega)
    exact⟨i,_,_,h1,h2,fun k hk hq=>(ih i _ _ d h1 h2 h3).2 s k (e+1) hk hq (by omega) (by omega)⟩
  exact⟨fun _=>hno,arg_no L hno (by omega) hh⟩
theorem parse_no {K:Ink} (F:Fit L K) {t:T} {x:List UInt8} {dp:Nat} (h:W K t x dp) (hk:t.kd≠6) (hd:30<dp) (hs:x.length+1≤200):Fx (parse L ⟨(61::x).toArray⟩):=by
 have hb:=read_no L F h
 have hsz:(⟨(61::x).toArray⟩:ByteArray).size=x.length+1:=by show (61::x).toArray.size=_;simp
 have hat:At ⟨(61::x).toArray⟩ 0 (61::x):=⟨[],[],by simp,rfl⟩
 have h1:=hat.cons
 have hend:nx ⟨(61::x).toArray⟩ (1+x.length)=0:=nx_out (by rw [hsz];omega)
 have hr:=(hb.1 hk ⟨(61::x).toArray⟩ (0+1) 0 h1.2 (St.of (.inr (.inr (by rw [Nat.zero_add];exact hend)))) (by omega) (by omega) (by rw [Nat.zero_add,lev_41 (.inr (.inr hend))];omega)).2 1 (Nat.le_refl _) (lv_pos h)
 unfold parse
 rw [if_neg (by omega),if_neg (by rw [h1.1];decide)]
 exact hr.bind _
end
end Go.Proofs.YtgifkepklnhddaaGreatDoor.fm
namespace Go.Proofs.YtgifkepklnhddaaGreatDoor.fm
open Go.RowKit
def rpV (x:List UInt8) (d:Nat):Value:=if x.length+1≤200∧d≤30 then .tuple #[.string ⟨(61::x).toArray⟩,.int .i64 0] else .tuple #[.string nul,.int .i64 4]
theorem rpV_yes {x:List UInt8} {d:Nat} (h:x.length+1≤200∧d≤30):rpV x d=.tuple #[.string ⟨(61::x).toArray⟩,.int .i64 0]:=if_pos h
theorem rpV_no {x:List UInt8} {d:Nat} (h:¬ (x.length+1≤200∧d≤30)):rpV x d=.tuple #[.string nul,.int .i64 4]:=if_neg h
set_option maxRecDepth 100000 in
set_option maxHeartbeats 16000000 in
theorem rprint_any {w:World} {P:Nat→Prop} {k n:Int} {s:ByteArray} {r t:Rf} {p:Option Addr} {q c:Nat} {t0:T} (h:Nd w P (NV k n s r t (.slice p q c)) t0) {x:List UInt8} {d:Nat} (hW:W ink t0 x d) (hxl:x.length≤100000000) (h6:t0.kd≠6) (hc:t0.cnt≤200) (w1:World) (hb1:Below w.heap.size w w1) :
  Calls Tryz.prog 52 #[NV k n s r t (.slice p q c)] w1 fun e w'=>e=.returned (rpV x d)∧Below w1.heap.size w1 w':=by
 have hB0:Below w1.heap.size w1 (w1.alloc (.cells (N12 k n s r t (.slice p q c)) 57)):=(Below.refl _ _).alloc (Nat.le_refl _) _
 have hbl:=heap_alloc_new w1 (.cells (N12 k n s r t (.slice p q c)) 57)
 have HCt:Hid (∀ wx,Below w1.heap.size w1 wx→Calls Tryz.prog 85 #[NV k n s r t (.slice p q c),.int .i64 200] wx fun e w'=>e=.returned (.int .i64 (t0.cnt:Int))∧Below wx.heap.size wx w'):=fun wx hb=>rcount_any h 200 hc (by omega) wx (bnext hb1 hb hb1.size)
 have HFo:Hid (∀ wx,Below w1.heap.size w1 wx→Calls Tryz.prog 86 #[NV k n s r t (.slice p q c),.bool false] wx fun e w'=>e=.returned (.bool true)∧Below wx.heap.size wx w'):=fun wx hb=>rformed_any h x d hW hxl false (fun e=>absurd e h6) wx (bnext hb1 hb hb1.size)
 have HTx:Hid (∀ wx,Below w1.heap.size w1 wx→Calls Tryz.prog 87 #[NV k n s r t (.slice p q c)] wx fun e w'=>e=.returned (.string (bs x))∧Below wx.heap.size wx w'):=fun wx hb=>rtextN_any h x d hW hxl wx (bnext hb1 hb hb1.size)
 have HPo:Hid (x.length+1≤200→d≤30→∀ wx,Calls Tryz.prog 49 #[.string ⟨(61::x).toArray⟩] wx (OutQ wx (.ok t0 0))):=fun q1 q2 wx=>rparse_any _ wx _ (back_one hW h6 q1 q2)
 have HPn:Hid (x.length+1≤200→¬ d≤30→∃ j,∀ wx,Calls Tryz.prog 49 #[.string ⟨(61::x).toArray⟩] wx (OutQ wx (.err j 4))):=fun q1 q2=>by
  obtain⟨j,ej⟩:=parse_no lexP fit hW h6 (by omega) q1
  exact⟨j,fun wx=>rparse_any _ wx _ ej⟩
 have hcc:(t0.cnt:Int)≤200:=by omega
 have hsz:(bs x).size≤100000000:=hxl
 have HS:Hid ((⟨#[61]⟩:ByteArray)++bs x=⟨(61::x).toArray⟩):=bs_app [61] x
 have HSz:Hid ((⟨(61::x).toArray⟩:ByteArray).size=x.length+1):=by show (61::x).toArray.size=_;simp
 have HB:Hid (Below w1.heap.size w1 (w1.alloc (.cells #[.int .i64 k,.int .i64 n,.string s,.int .i64 r.c,.int .i64 r.r,.bool r.fc,.bool r.fr,.int .i64 t.c,.int .i64 t.r,.bool t.fc,.bool t.fr,.slice p q c] 57))∧(w1.alloc (.cells #[.int .i64 k,.int .i64 n,.string s,.int .i64 r.c,.int .i64 r.r,.bool r.fc,.bool r.fr,.int .i64 t.c,.int .i64 t.r,.bool t.fc,.bool t.fr,.slice p q c] 57)).heap[w1.heap.size]?=some (.cells #[.int .i64 k,.int .i64 n,.string s,.int .i64 r.c,.int .i64 r.r,.bool r.fc,.bool r.fr,.int .i64 t.c,.int .i64 t.r,.bool t.fc,.bool t.fr,.slice p q c] 57 (0,0))):=⟨hB0,hbl⟩
 clear hB0 hbl h hW hxl h6 hc
 generalize hSd:(⟨(61::x).toArray⟩:ByteArray)=S at *
 have HSd:Hid ((⟨(61::x).toArray⟩:ByteArray)=S):=hSd
 clear hSd
 generalize bs x=sx at *
 generalize t0.cnt=cc at *
 go_enter Tryz.func52,Tryz.ntmps52
 go_upto_region 1 with fail
 generalize w1.alloc (.cells #[.int .i64 k,.int .i64 n,.string s,.int .i64 r.c,.int .i64 r.r,.bool r.fc,.bool r.fr,.int .i64 t.c,.int .i64 t.r,.bool t.fc,.bool t.fr,.slice p q c] 57)=W at *
 have HLe:Hid (w1.heap.size≤W.heap.size):=HB.out.1.size
 obtain⟨⟨a0,a1,a2,a3,a4,a5,a6,a7,a8,a9,a10,a11⟩,-⟩:=cells12 HB.out.2
 go_upto_region 4 with (first | (go_at_call 85;refine (HCt.out _ HB.out.1).mono ?_;rintro e w2 ⟨rfl,hb2⟩))
 have HB2:Hid (Below W.heap.size W w2):=hb2
 clear a0 a1 a2 a3 a4 a5 a6 a7 a8 a9 a10 a11 hb2 HCt
 obtain⟨⟨a0,a1,a2,a3,a4,a5,a6,a7,a8,a9,a10,a11⟩,-⟩:=cells12 ((HB2.out.block _ (lt_blk HB.out.2)).trans HB.out.2)
 go_upto_region 7 with (first | (go_at_call 86;refine (HFo.out _ (bnext HB.out.1 HB2.out HLe.out)).mono ?_;rintro e w3 ⟨rfl,hb3⟩))
 have HB3:Hid (Below W.heap.size W w3):=bnext HB2.out hb3 HB2.out.size
 clear a0 a1 a2 a3 a4 a5 a6 a7 a8 a9 a10 a11 hb3 HFo HB2
 obtain⟨⟨a0,a1,a2,a3,a4,a5,a6,a7,a8,a9,a10,a11⟩,-⟩:=cells12 ((HB3.out.block _ (lt_blk HB.out.2)).trans HB.out.2)
 go_cut [6] (fun s6 wx=>s6=.string S∧Hid (Below W.heap.size W wx))
 case first =>
  go_wp2_with (first | (go_at_call 87;refine (HTx.out _ (bnext HB.out.1 HB3.out HLe.out)).mono ?_;rintro e w4 ⟨rfl,hb4⟩))
  go_meet
  case rel=>exact⟨by rw [← HS.out],bnext HB3.out hb4 HB3.out.size⟩
 case rest =>
 obtain⟨rfl,HR⟩:=hcut
 clear a0 a1 a2 a3 a4 a5 a6 a7 a8 a9 a10 a11 HTx HB3 HS hsz
 apply_assumption
 by_cases h2:x.length+1≤200
 ·have hi:¬ (200:Int)<(S.size:Int):=by have:=HSz.out;omega
  by_cases h3:d≤30
  ·have HP:Hid (∀ wx,Calls Tryz.prog 49 #[.string S] wx (OutQ wx (.ok t0 0))):=HPo.out h2 h3
   have HV:Hid (rpV x d=.tuple #[.string S,.int .i64 0]):=by show _=_;rw [rpV_yes ⟨h2,h3⟩,HSd.out]
   clear HPo HPn h2 h3
   go_wp2_with (first | (go_at_call 49;refine (HP.out _).mono ?_;rintro e w5 ⟨v,rfl,hN5,hb5⟩;cases hN5))
   exact bodyPost_ret (v:=.tuple #[.string S,.int .i64 0]) (by simp [results,Tryz.results52,go_sem]) rfl ⟨by rw [HV.out],(bnext (bnext HB.out.1 HR.out HLe.out) hb5 (Nat.le_trans HLe.out HR.out.size)).alloc (bnext (bnext HB.out.1 HR.out HLe.out) hb5 (Nat.le_trans HLe.out HR.out.size)).size _⟩
  ·obtain⟨j,hj⟩:=HPn.out h2 h3
   have HP:Hid (∀ wx,Calls Tryz.prog 49 #[.string S] wx (OutQ wx (.err j 4))):=hj
   have HV:Hid (rpV x d=.tuple #[.string nul,.int .i64 4]):=rpV_no fun e=>h3 e.2
   clear HPo HPn h2 h3 hj
   go_wp2_with (first | (go_at_call 49;refine (HP.out _).mono ?_;rintro e w5 ⟨rfl,hb5⟩))
   exact bodyPost_ret (v:=.tuple #[.string nul,.int .i64 4]) (by simp [results,Tryz.results52,go_sem]) rfl ⟨by rw [HV.out],(bnext (bnext HB.out.1 HR.out HLe.out) hb5 (Nat.le_trans HLe.out HR.out.size)).alloc (bnext (bnext HB.out.1 HR.out HLe.out) hb5 (Nat.le_trans HLe.out HR.out.size)).size _⟩
 ·have hi:(200:Int)<(S.size:Int):=by have:=HSz.out;omega
  have HV:Hid (rpV x d=.tuple #[.string nul,.int .i64 4]):=rpV_no fun e=>h2 e.1
  clear HPo HPn h2
  go_wp2_with fail
  exact bodyPost_ret (v:=.tuple #[.string nul,.int .i64 4]) (by simp [results,Tryz.results52,go_sem]) rfl ⟨by rw [HV.out],bnext HB.out.1 HR.out HLe.out⟩
end Go.Proofs.YtgifkepklnhddaaGreatDoor.fm
namespace Go.Proofs.YtgifkepklnhddaaGreatDoor.fm
open Go.RowKit
theorem not_emp {s:ByteArray} (h0:s.size≠0):s.toList.isEmpty=false:=by
 cases h:s.toList.isEmpty with
 | false=>rfl
 | true=>exact absurd (ps.emp_yes h) h0
set_option maxRecDepth 100000 in
set_option maxHeartbeats 8000000 in
theorem rrew_const (kk:Int) (row:Bool) (at' many cs rs fx fy tx ty:Int) (s:ByteArray) (hz:s.size≠0) (hq:ps.eqS s=false) (w:World) :
  Calls Tryz.prog 22 #[.string s,.agg (C10 kk row at' many cs rs fx fy tx ty)] w fun e w'=>e=.returned (.tuple #[.string s,.int .i64 0])∧Below w.heap.size w w':=by
 have he:=not_emp hz
 have hz':0<s.size:=by omega
 have hlI:(0:Int)<(s.size:Int):=by omega
 have hc:((((s[0]'hz').toNat:Nat):Int) == 61)=false:=by rw [← ps.eqS_at hz'];exact hq
 have HB:Hid (Below w.heap.size w (w.alloc (.cells (C10 kk row at' many cs rs fx fy tx ty) 49))):=(Below.refl _ _).alloc (Nat.le_refl _) _
 clear hq hz
 go_enter Tryz.func22,Tryz.ntmps22
 go_wp2_with fail
 exact bodyPost_ret (v:=.tuple #[.string s,.int .i64 0]) (by simp [results,Tryz.results22,go_sem]) rfl ⟨rfl,HB.out⟩
set_option maxRecDepth 100000 in
set_option maxHeartbeats 8000000 in
theorem rrew_any (kk:Int) (row:Bool) (at' many cs rs fx fy tx ty:Int) (D:Chg)
  (hr:∀ r,isK r→∀ wx,Calls Tryz.prog 83 #[.agg (C10 kk row at' many cs rs fx fy tx ty),RV r] wx fun e w'=>SRef D r e∧Below wx.heap.size wx w')
  (hx:∀ a b,isK a→isK b→∀ wx,Calls Tryz.prog 84 #[.agg (C10 kk row at' many cs rs fx fy tx ty),RV a,RV b] wx fun e w'=>SBox D a b e∧Below wx.heap.size wx w') :
  ps.RewO D (.agg (C10 kk row at' many cs rs fx fy tx ty)):=by
 intro s o hz h w
 rcases h with ⟨he,rfl⟩ | ⟨he,T0,k0,x,d,x1,d1,hp,hW,h6,hc,hO,hl,hW1,ho⟩
 ·exact rrew_const kk row at' many cs rs fx fy tx ty s hz he w
 have HPa:Hid (∀ wx,Calls Tryz.prog 49 #[.string s] wx (OutQ wx (.ok T0 k0))):=fun wx=>rparse_any s wx _ hp
 have hG:=gp_of hW
 have hB:Bd 200 T0:=bd_cnt hO hc
 have HOn:Hid (∀ {w0 w1:World} {v:Value},Nd w1 (Own w0 w1) v T0→∀ wx,Below w1.heap.size w1 wx→Calls Tryz.prog 50 #[.agg (C10 kk row at' many cs rs fx fy tx ty),v] wx fun e w'=>∃ v',e=.returned v'∧Nd w' (Own wx w') v' (chg D T0)∧Below wx.heap.size wx w'):=fun hN wx hb=>ron_any kk row at' many cs rs fx fy tx ty D hr hx hN hG hB wx hb
 have HSm:Hid (∀ {wa w0 w1:World} {P:Nat→Prop} {v v':Value},Nd wa (Own w0 wa) v T0→Nd wa P v' (chg D T0)→Below wa.heap.size wa w1→Calls Tryz.prog 51 #[v,v'] w1 fun e w'=>SO T0 (chg D T0) e∧Below w1.heap.size w1 w'):=fun h1 h2 hb=>same_exact h1 hB _ _ h2 _ hb
 have hlen:x1.length≤100000000:=by
  have h1:=(len_le hW1).1
  have h2:(chg D T0).cnt≤200:=Nat.le_trans (cnt_chg hO) hc
  omega
 have HPr:Hid (∀ {wa:World} {P:Nat→Prop} {k n:Int} {s:ByteArray} {r t:Rf} {p:Option Addr} {q c:Nat},Nd wa P (NV k n s r t (.slice p q c)) (chg D T0)→∀ w1,Below wa.heap.size wa w1→Calls Tryz.prog 52 #[NV k n s r t (.slice p q c)] w1 fun e w'=>e=.returned (rpV x1 d1)∧Below w1.heap.size w1 w'):=fun hN w1 hb=>rprint_any hN hW1 hlen (kd_chg h6) (Nat.le_trans (cnt_chg hO) hc) w1 hb
 have HO:Hid ((chg D T0=T0∧x1=x∧d1=d∧o=some s)∨(chg D T0≠T0∧(x1.length+1≤200∧d1≤30)∧x1≠x∧o=some ⟨(61::x1).toArray⟩)∨(chg D T0≠T0∧¬ (x1.length+1≤200∧d1≤30)∧o=none)):=ho
 have hem:=not_emp hz
 have hz':0<s.size:=by omega
 have hlI:(0:Int)<(s.size:Int):=by omega
 have hcc:((((s[0]'hz').toNat:Nat):Int) == 61)=true:=by rw [← ps.eqS_at hz'];exact he
 have hb0:Below w.heap.size w (w.alloc (.cells (C10 kk row at' many cs rs fx fy tx ty) 49)):=(Below.refl _ _).alloc (Nat.le_refl _) _
 have hbc:=blk_new w (.cells (C10 kk row at' many cs rs fx fy tx ty) 49)
 have HBC:Hid (Below w.heap.size w (w.alloc (.cells (C10 kk row at' many cs rs fx fy tx ty) 49))∧(w.alloc (.cells (C10 kk row at' many cs rs fx fy tx ty) 49)).heap[w.heap.size]?=some (.cells (C10 kk row at' many cs rs fx fy tx ty) 49 (0,0))):=⟨hb0,hbc⟩
 clear hr hx hp hW h6 hc hO hl hW1 ho hG hB hlen hz he hb0 hbc
 generalize chg D T0=T1 at *
 go_enter Tryz.func22,Tryz.ntmps22
 go_upto_region 3 with fail
 dsimp only [C10] at HBC
 generalize w.alloc (.cells #[.int .i64 kk,.bool row,.int .i64 at',.int .i64 many,.int .i64 cs,.int .i64 rs,.int .i64 fx,.int .i64 fy,.int .i64 tx,.int .i64 ty] 49)=W0 at *
 go_upto_region 4 with (first | (go_at_call 49;refine (HPa.out _).mono ?_;rintro e w1 ⟨v,rfl,hN1,hb1⟩;obtain⟨k1,n1,s1,r1,t1,p1,m1,q1,rfl⟩:=nd_nv hN1))
 have hal:=blk_new w1 (.cells (N12 k1 n1 s1 r1 t1 (.slice p1 m1 q1)) 57)
 have hba:Below w1.heap.size w1 (w1.alloc (.cells (N12 k1 n1 s1 r1 t1 (.slice p1 m1 q1)) 57)):=(Below.refl _ _).alloc (Nat.le_refl _) _
 have hbW:=bnext hb1 hba hb1.size
 have hcb:=(hbW.block _ (lt_blk HBC.out.2)).trans HBC.out.2
 have H1:Hid (Nd w1 (Own W0 w1) (NV k1 n1 s1 r1 t1 (.slice p1 m1 q1)) T0∧Below w1.heap.size w1 (w1.alloc (.cells (N12 k1 n1 s1 r1 t1 (.slice p1 m1 q1)) 57))∧Below W0.heap.size W0 w1∧(w1.alloc (.cells (N12 k1 n1 s1 r1 t1 (.slice p1 m1 q1)) 57)).heap[w1.heap.size]?=some (.cells (N12 k1 n1 s1 r1 t1 (.slice p1 m1 q1)) 57 (0,0))):=⟨hN1,hba,hb1,hal⟩
 obtain⟨c0,c1,c2,c3,c4,c5,c6,c7,c8,c9⟩:=cells10 hcb
 obtain⟨⟨a0,a1,a2,a3,a4,a5,a6,a7,a8,a9,a10,a11⟩,af⟩:=cells12 hal
 clear hal hba hbW hcb hN1 hb1 HPa hem hcc hlI
 dsimp only [N12] at H1 a0 a1 a2 a3 a4 a5 a6 a7 a8 a9 a10 a11
 generalize hWA:w1.alloc (.cells #[.int .i64 k1,.int .i64 n1,.string s1,.int .i64 r1.c,.int .i64 r1.r,.bool r1.fc,.bool r1.fr,.int .i64 t1.c,.int .i64 t1.r,.bool t1.fc,.bool t1.fr,.slice p1 m1 q1] 57)=WA at *
 clear hWA
 go_upto_region 7 with (first | (go_at_call 50;refine (HOn.out H1.out.1 _ H1.out.2.1).mono ?_;rintro e w2 ⟨v',rfl,hN2,hb2⟩;obtain⟨k2,n2,s2,r2,t2,p2,m2,q2,rfl⟩:=nd_nv hN2))
 have hal:=blk_new w2 (.cells (N12 k2 n2 s2 r2 t2 (.slice p2 m2 q2)) 57)
 have hba:Below w2.heap.size w2 (w2.alloc (.cells (N12 k2 n2 s2 r2 t2 (.slice p2 m2 q2)) 57)):=(Below.refl _ _).alloc (Nat.le_refl _) _
 have hbW:=bnext hb2 hba hb2.size
 have hcb:=(hbW.block _ (lt_blk H1.out.2.2.2)).trans H1.out.2.2.2
 have hbW1:=bnext H1.out.2.1 hb2 H1.out.2.1.size
 have hN1':=H1.out.1.mono (w':=w2) (Q:=Own W0 w2) (fun b hb=>hbW1.block b hb.2) (fun b hb=>⟨hb.1,Nat.lt_of_lt_of_le hb.2 hbW1.size⟩)
 have hbA:Below w.heap.size w w2:=bnext (bnext HBC.out.1 H1.out.2.2.1 HBC.out.1.size) hbW1 (Nat.le_trans HBC.out.1.size H1.out.2.2.1.size)
 have H2:Hid (Nd w2 (Own W0 w2) (NV k1 n1 s1 r1 t1 (.slice p1 m1 q1)) T0∧Nd w2 (Own WA w2) (NV k2 n2 s2 r2 t2 (.slice p2 m2 q2)) T1∧Below w2.heap.size w2 (w2.alloc (.cells (N12 k2 n2 s2 r2 t2 (.slice p2 m2 q2)) 57))∧Below w.heap.size w w2∧(w2.alloc (.cells (N12 k2 n2 s2 r2 t2 (.slice p2 m2 q2)) 57)).heap[w2.heap.size]?=some (.cells (N12 k2 n2 s2 r2 t2 (.slice p2 m2 q2)) 57 (0,0))):=⟨hN1',hN2,hba,hbA,hal⟩
 clear c0 c1 c2 c3 c4 c5 c6 c7 c8 c9 a0 a1 a2 a3 a4 a5 a6 a7 a8 a9 a10 a11 af
 obtain⟨⟨a0,a1,a2,a3,a4,a5,a6,a7,a8,a9,a10,a11⟩,af⟩:=cells12 hcb
 obtain⟨⟨b0,b1,b2,b3,b4,b5,b6,b7,b8,b9,b10,b11⟩,bf⟩:=cells12 hal
 clear hal hba hbW hcb hbW1 hN1' hbA hN2 hb2 HOn H1 HBC
 dsimp only [N12] at H2 a0 a1 a2 a3 a4 a5 a6 a7 a8 a9 a10 a11 b0 b1 b2 b3 b4 b5 b6 b7 b8 b9 b10 b11
 generalize hWB:w2.alloc (.cells #[.int .i64 k2,.int .i64 n2,.string s2,.int .i64 r2.c,.int .i64 r2.r,.bool r2.fc,.bool r2.fr,.int .i64 t2.c,.int .i64 t2.r,.bool t2.fc,.bool t2.fr,.slice p2 m2 q2] 57)=WB at *
 clear hWB
 go_upto_region 8 with (first | (go_at_call 51;refine (HSm.out H2.out.1 H2.out.2.1 H2.out.2.2.1).mono ?_;rintro e w3 ⟨hso,hb3⟩;obtain⟨b,rfl,hbt⟩:=hso.bool))
 have HB3:Hid (Below w.heap.size w w3):=bnext (bnext H2.out.2.2.2.1 H2.out.2.2.1 H2.out.2.2.2.1.size) hb3 (Nat.le_trans H2.out.2.2.2.1.size H2.out.2.2.1.size)
 have hcb:=(hb3.block _ (lt_blk H2.out.2.2.2.2)).trans H2.out.2.2.2.2
 have hN3:=H2.out.2.1.mono (w':=w3) (Q:=Own WA w3) (fun b hb=>(bnext H2.out.2.2.1 hb3 H2.out.2.2.1.size).block b hb.2) (fun b hb=>⟨hb.1,Nat.lt_of_lt_of_le hb.2 (bnext H2.out.2.2.1 hb3 H2.out.2.2.1.size).size⟩)
 have HN3:Hid (Nd w3 (Own WA w3) (NV k2 n2 s2 r2 t2 (.slice p2 m2 q2)) T1):=hN3
 have HBT:Hid (b=true↔T0=T1):=hbt
 clear a0 a1 a2 a3 a4 a5 a6 a7 a8 a9 a10 a11 af b0 b1 b2 b3 b4 b5 b6 b7 b8 b9 b10 b11 bf hb3 HSm hso hN3 hbt H2
 obtain⟨⟨b0,b1,b2,b3,b4,b5,b6,b7,b8,b9,b10,b11⟩,bf⟩:=cells12 hcb
 clear hcb
 cases b with
 | true =>
  have HS:Hid (o=some s):=by
   have h:=HBT.out.1 rfl
   rcases HO.out with ⟨-,-,-,h1⟩ | ⟨h1,-⟩ | ⟨h1,-⟩
   ·exact h1
   ·exact absurd h.symm h1
   ·exact absurd h.symm h1
  clear HBT HO HPr
  go_wp2_with fail
  exact bodyPost_ret (v:=.tuple #[.string s,.int .i64 0]) (by simp [results,Tryz.results22,go_sem]) rfl ⟨by rw [HS.out];rfl,HB3.out⟩
 | false =>
  have HS:Hid (((x1.length+1≤200∧d1≤30)∧o=some ⟨(61::x1).toArray⟩)∨(¬ (x1.length+1≤200∧d1≤30)∧o=none)):=by
   have h:¬ T0=T1:=fun e=>by have:=HBT.out.2 e;cases this
   rcases HO.out with ⟨h1,-⟩ | ⟨-,h1,-,h2⟩ | ⟨-,h1⟩
   ·exact absurd h1.symm h
   ·exact .inl ⟨h1,h2⟩
   ·exact .inr h1
  clear HBT HO
  have HPP:Hid (∀ wx,Below w3.heap.size w3 wx→Calls Tryz.prog 52 #[NV k2 n2 s2 r2 t2 (.slice p2 m2 q2)] wx fun e w'=>e=.returned (rpV x1 d1)∧Below wx.heap.size wx w'):=fun wx hb=>HPr.out HN3.out wx hb
  clear HPr
  by_cases hsm:x1.length+1≤200∧d1≤30
  ·have HS1:Hid (o=some ⟨(61::x1).toArray⟩):=by
    rcases HS.out with ⟨-,h⟩ | ⟨h,-⟩
    ·exact h
    ·exact absurd hsm h
   have HP1:Hid (∀ wx,Below w3.heap.size w3 wx→Calls Tryz.prog 52 #[NV k2 n2 s2 r2 t2 (.slice p2 m2 q2)] wx fun e w'=>e=.returned (.tuple #[.string ⟨(61::x1).toArray⟩,.int .i64 0])∧Below wx.heap.size wx w'):=by rw [← rpV_yes hsm];exact HPP
   clear HPP HS hsm
   generalize (⟨(61::x1).toArray⟩:ByteArray)=S at *
   go_wp2_with (first | (go_at_call 52;refine (HP1.out _ (Below.refl _ _)).mono ?_;rintro e w4 ⟨rfl,hb4⟩))
   exact bodyPost_ret (v:=.tuple #[.string S,.int .i64 0]) (by simp [results,Tryz.results22,go_sem]) rfl ⟨by rw [HS1.out];rfl,bnext HB3.out hb4 HB3.out.size⟩
  ·have HS1:Hid (o=none):=by
    rcases HS.out with ⟨h,-⟩ | ⟨-,h⟩
    ·exact absurd h hsm
    ·exact h
   have HP1:Hid (∀ wx,Below w3.heap.size w3 wx→Calls Tryz.prog 52 #[NV k2 n2 s2 r2 t2 (.slice p2 m2 q2)] wx fun e w'=>e=.returned (.tuple #[.string nul,.int .i64 4])∧Below wx.heap.size wx w'):=by rw [← rpV_no hsm];exact HPP
   clear HPP HS hsm
   go_wp2_with (first | (go_at_call 52;refine (HP1.out _ (Below.refl _ _)).mono ?_;rintro e w4 ⟨rfl,hb4⟩))
   exact bodyPost_ret (v:=.tuple #[.string nul,.int .i64 4]) (by simp [results,Tryz.results22,go_sem]) rfl ⟨by rw [HS1.out];rfl,bnext HB3.out hb4 HB3.out.size⟩
end Go.Proofs.YtgifkepklnhddaaGreatDoor.fm
namespace Go.Proofs.YtgifkepklnhddaaGreatDoor.ps
open Go.RowKit
open adr (C)
theorem eqIn33 (x:Fl) (m:Nat) (W:World):(Op.equalIn (m+4) 44 (FV x) (FV x)).run Tryz.prog W=.ok true W:=by
 have hS:Tryz.prog.underlying 44=some (.struct (Tryz.prog.fieldsOf 44)):=by kernel_rfl
 have hp:Tryz.prog.stoodInHeld 44=false:=by kernel_rfl
 rw [run_equalIn_struct W (m+3) 44 _ _ hS hp]
 simp only [Program.fieldsOf,Tryz.underlying44]
 simp [Op.eqFields,go_sem,eqIn30]
theorem neq33 (x:Fl) (W:World):(binOp BinOp.neq 44 (FV x) (FV x)).run Tryz.prog W=.ok (.bool false) W:=by
 rw [run_neq_struct,show (10000:Nat)=9996+4 from rfl,eqIn33];rfl
set_option maxRecDepth 100000 in
set_option maxHeartbeats 4000000 in
theorem sheets_eq (p q:Option Addr) (c d:Nat) (xs:List Fl) (w:World) (hx:FM w p xs) (hy:FM w q xs) (hl:xs.length≤1000) :
  Calls Tryz.prog 29 #[.slice p xs.length c,.slice q xs.length d] w fun e w'=>e=.returned (.bool true)∧Below w.heap.size w w':=by
 obtain⟨n,hn⟩:∃ n,xs.length=n:=⟨_,rfl⟩
 have HN:Hid (xs.length=n):=hn
 have HX:Hid (FM w p xs∧FM w q xs):=⟨hx,hy⟩
 have hl1:(n:Int)≤1000:=by omega
 rw [hn]
 clear hx hy hl hn
 go_enter Tryz.func29,Tryz.ntmps29
 go_wp2_with fail
 go_loopw [5] (fun a wr=>∃ i:Nat,a=.int .i64 i∧i≤n∧Below w.heap.size w wr) (fun a _=>n - (intOf a).toNat)
 case atStart=>exact⟨0,rfl,Nat.zero_le _,Below.refl _ _⟩
 case round =>
  obtain⟨i,rfl,hi,hb⟩:=hrel
  have HB:Hid (Below w.heap.size w wr):=hb
  clear hb
  by_cases hin:i<n
  ·have hiN:(i:Int)<(n:Int):=by omega
   have hi0:(0:Int)≤(i:Int):=by omega
   obtain⟨x,hx⟩:∃ x,xs[i]?=some x:=⟨_,List.getElem?_eq_getElem (by rw [HN.out];exact hin)⟩
   obtain⟨gx,ox,rfl,-⟩:=HX.out.1.at hx
   obtain⟨gy,oy,rfl,-⟩:=HX.out.2.at hx
   obtain⟨q0,q1,q2⟩:=FM.cells (HX.out.1.below HB.out) hx
   obtain⟨r0,r1,r2⟩:=FM.cells (HX.out.2.below HB.out) hx
   have e33:=fun W=>neq33 x W
   clear hx
   go_wp2_with fail
   go_cut [25] (fun s25 wx=>s25=.bool false∧wx=wr.drew)
   case first =>
    go_region
    all_goals
     go_wp2_with fail
     go_meet
     case rel=>exact⟨rfl,rfl⟩
   case rest =>
   obtain⟨rfl,rfl⟩:=hcut
   go_wp2_with fail
   exact⟨⟨i+1,rfl,hin,HB.out.drew⟩,by simp [intOf];omega⟩
  ·have hin':¬ (i:Int)<(n:Int):=by omega
   go_wp2_with fail
   go_ret
   exact⟨rfl,HB.out⟩
theorem told_same (e:Int) (w:World) (hT:ErrTy w):Calls Tryz.prog 28 #[errV e,.int .i64 e] w fun r w'=>r=.returned (.bool true)∧Below w.heap.size w w':=by
 by_cases h:e=0
 ·subst h
  exact same_nil 0 w
 ·rw [errV_some h]
  refine (same_errno e e w hT).mono ?_
  rintro r w' ⟨rfl,hb⟩
  exact⟨by simp,hb⟩
set_option maxHeartbeats 1600000 in
theorem made_any (p q:Option Addr) (c d m:Nat) (zs:List Fl) (e:Int) (w:World) (hm:zs.length=m) (hx:FM w p zs) (hy:FM w q zs) (hl:m≤1000) (hT:ErrTy w) :
  Calls Tryz.prog 10 #[.slice p m c,errV e,.slice q m d,.int .i64 e] w fun r w'=>r=.returned (.bool true)∧Below w.heap.size w w':=by
 subst hm
 have H1:Hid (Calls Tryz.prog 28 #[errV e,.int .i64 e] w fun r w'=>r=.returned (.bool true)∧Below w.heap.size w w'):=told_same e w hT
 have H2:Hid (∀ wx,Below w.heap.size w wx→Calls Tryz.prog 29 #[.slice p zs.length c,.slice q zs.length d] wx fun r w'=>r=.returned (.bool true)∧Below wx.heap.size wx w'):=fun wx hb=>sheets_eq p q c d zs wx (hx.below hb) (hy.below hb) hl
 generalize errV e=ev at *
 clear hx hy hl hT
 go_enter Tryz.func10,Tryz.ntmps10
 go_wp2_with fail
 refine H1.out.mono ?_
 rintro r w1 ⟨rfl,hb1⟩
 have HB1:Hid (Below w.heap.size w w1):=hb1
 clear hb1
 go_wp2_with fail
 refine (H2.out _ HB1.out).mono ?_
 rintro r w2 ⟨rfl,hb2⟩
 have HB2:Hid (Below w.heap.size w w2):=bnext HB1.out hb2 HB1.out.size
 clear hb2
 go_wp2_with fail
 go_ret
 exact⟨rfl,HB2.out⟩
end Go.Proofs.YtgifkepklnhddaaGreatDoor.ps
namespace Go.Proofs.YtgifkepklnhddaaGreatDoor.fm
open Go.RowKit
theorem ins_ref (row:Bool) (at' many:Int) (h:okL row at' many=true) (r:Rf) (hr:isK r) (wx:World):Calls Tryz.prog 83 #[.agg (C10 2 row at' many 0 0 0 0 0 0),RV r] wx fun e w'=>SRef (Cw (inR row at' many)) r e∧Below wx.heap.size wx w':=by
 unfold okL at h
 simp only [Bool.and_eq_true,decide_eq_true_eq] at h
 have hm:0≤many∧many≤99:=⟨h.1.2,Int.le_trans h.2 (by unfold cntOf;split<;>decide)⟩
 exact (rref_ins row at' many 0 0 0 0 0 0 r wx hr hm).mono fun e w' h=>⟨⟨_,_,h.1,rfl⟩,h.2⟩
theorem ins_box (row:Bool) (at' many:Int) (h:okL row at' many=true) (a b:Rf) (ha:isK a) (hb:isK b) (wx:World):Calls Tryz.prog 84 #[.agg (C10 2 row at' many 0 0 0 0 0 0),RV a,RV b] wx fun e w'=>SBox (Cw (inR row at' many)) a b e∧Below wx.heap.size wx w':=by
 unfold okL at h
 simp only [Bool.and_eq_true,decide_eq_true_eq] at h
 have hm:0≤many∧many≤99:=⟨h.1.2,Int.le_trans h.2 (by unfold cntOf;split<;>decide)⟩
 exact (rbox_ins row at' many 0 0 0 0 0 0 a b wx ha hb hm).mono fun e w' h=>⟨⟨_,_,_,h.1,rfl⟩,h.2⟩
end Go.Proofs.YtgifkepklnhddaaGreatDoor.fm
namespace Go.Proofs.YtgifkepklnhddaaGreatDoor.ps
open Go.RowKit
open adr (C isC ckc)
open fm (fv)
theorem ChO.pair2 {n:Nat} {res:List (Option (List Fl))} {ok:Bool} {t:Int} {v v':Value} {q q':Int} {w1 w2:World} (h:ChO n res ok t v q w1) (h':ChO n res ok t v' q' w2) (hb:Below w1.heap.size w1 w2) (hl:(flt res n).length≤1000∨v=.slice none 0 0) :
  q=q'∧∃ pz cz pz' cz' zs m,v=.slice pz m cz∧v'=.slice pz' m cz'∧zs.length=m∧FM w2 pz zs∧FM w2 pz' zs∧m≤1000:=by
 have nil:∀ {a b:Value},a=.slice none 0 0→b=.slice none 0 0→∃ pz cz pz' cz' zs m,a=.slice pz m cz∧b=.slice pz' m cz'∧zs.length=m∧FM w2 pz zs∧FM w2 pz' zs∧m≤1000:=fun h1 h2=>⟨none,0,none,0,[],0,h1,h2,rfl,.inl rfl,.inl rfl,by omega⟩
 rcases h with ⟨a1,a2,a3⟩ | ⟨a1,a2,a3,a4⟩ | ⟨a1,a2,a3,a4,a5⟩ | ⟨a1,a2,a3,a4,p,c,a5,a6⟩
 ·rcases h' with ⟨b1,b2,b3⟩ | ⟨b1,-⟩ | ⟨b1,-⟩ | ⟨b1,-⟩
  ·exact⟨by rw [a3,b3],nil a2 b2⟩
  all_goals exact absurd b1 a1
 ·rcases h' with ⟨b1,-⟩ | ⟨b1,b2,b3,b4⟩ | ⟨b1,b2,-⟩ | ⟨b1,b2,-⟩
  ·exact absurd a1 b1
  ·exact⟨by rw [a4,b4],nil a3 b3⟩
  all_goals (rw [a2] at b2;cases b2)
 ·rcases h' with ⟨b1,-⟩ | ⟨b1,b2,-⟩ | ⟨b1,b2,b3,b4,b5⟩ | ⟨b1,b2,b3,-⟩
  ·exact absurd a1 b1
  ·rw [a2] at b2;cases b2
  ·exact⟨by rw [a5,b5],nil a4 b4⟩
  ·exact absurd a3 b3
 ·rcases h' with ⟨b1,-⟩ | ⟨b1,b2,-⟩ | ⟨b1,b2,b3,-⟩ | ⟨b1,b2,b3,b4,p',c',b5,b6⟩
  ·exact absurd a1 b1
  ·rw [a2] at b2;cases b2
  ·exact absurd b3 a3
  ·refine⟨by rw [a4,b4],p,c,p',c',flt res n,_,a5,b5,rfl,a6.below hb,b6,?_⟩
   rcases hl with h | h
   ·exact h
   ·rw [h] at a5
    injection a5 with e1 e2 e3
    omega
theorem threeA (w:World) (A B D:Obj):(((w.alloc A).alloc B).alloc D).heap[w.heap.size]?=some A∧(((w.alloc A).alloc B).alloc D).heap[w.heap.size+1]?=some B∧(((w.alloc A).alloc B).alloc D).heap[w.heap.size+1+1]?=some D:=fm.three w A B D
set_option maxRecDepth 100000 in
set_option maxHeartbeats 4000000 in
theorem pinsert_any (p:Option Addr) (c:Nat) (xs:List Fl) (row:Bool) (at' many:Int) (w:World) (hx:FM w p xs) (hE:EnvP w) (hW:fm.EnvW w) (res:List (Option (List Fl))) (hres:Told xs 0→fm.okL row at' many=true→Ress (InU row at' many) xs res) :
  Calls Tryz.prog 9 #[.slice p xs.length c,.bool row,.int .i64 at',.int .i64 many] w fun e w'=>(∃ t v q,e=.returned (.tuple #[v,errV q])∧Told xs t∧ChO xs.length res (fm.okL row at' many) t v q w')∧Below w.heap.size w w':=by
 obtain⟨h1,h2,h3⟩:=threeA w (.cells #[.bool row] 4) (.cells #[.int .i64 at'] 3) (.cells #[.int .i64 many] 3)
 have hb:Below w.heap.size w (((w.alloc (.cells #[.bool row] 4)).alloc (.cells #[.int .i64 at'] 3)).alloc (.cells #[.int .i64 many] 3)):=(((Below.refl _ _).alloc (Nat.le_refl _) _).alloc (by simp) _).alloc (by simp;omega) _
 have H:=changed_ins p c xs row at' many w.heap.size (w.heap.size+1) (w.heap.size+1+1) _ (hx.below hb) (hE.below hb hE.size) (hW.next hb) res hres (fm.lt_blk h1) (fm.lt_blk h2) (fm.lt_blk h3) (by rw [fm.cell_blk h1];rfl) (by rw [fm.cell_blk h2];rfl) (by rw [fm.cell_blk h3];rfl)
 have c1:(((w.alloc (.cells #[.bool row] 4)).alloc (.cells #[.int .i64 at'] 3)).alloc (.cells #[.int .i64 many] 3)).cell? ⟨w.heap.size,0,none⟩=some (.bool row):=by rw [fm.cell_blk h1];rfl
 have c2:(((w.alloc (.cells #[.bool row] 4)).alloc (.cells #[.int .i64 at'] 3)).alloc (.cells #[.int .i64 many] 3)).cell? ⟨w.heap.size+1,0,none⟩=some (.int .i64 at'):=by rw [fm.cell_blk h2];rfl
 have c3:(((w.alloc (.cells #[.bool row] 4)).alloc (.cells #[.int .i64 at'] 3)).alloc (.cells #[.int .i64 many] 3)).cell? ⟨w.heap.size+1+1,0,none⟩=some (.int .i64 many):=by rw [fm.cell_blk h3];rfl
 obtain⟨n,hn⟩:∃ n,xs.length=n:=⟨_,rfl⟩
 rw [hn] at H ⊢
 have HC:Hid (Calls Tryz.prog 24 #[.slice p n c,.bool row,.int .i64 at',.int .i64 many,.agg (CLO w.heap.size (w.heap.size+1) (w.heap.size+1+1))] (((w.alloc (.cells #[.bool row] 4)).alloc (.cells #[.int .i64 at'] 3)).alloc (.cells #[.int .i64 many] 3)) fun e w'=>(∃ t v q,e=.returned (.tuple #[v,errV q])∧Told xs t∧ChO n res (fm.okL row at' many) t v q w')∧Below (((w.alloc (.cells #[.bool row] 4)).alloc (.cells #[.int .i64 at'] 3)).alloc (.cells #[.int .i64 many] 3)).heap.size (((w.alloc (.cells #[.bool row] 4)).alloc (.cells #[.int .i64 at'] 3)).alloc (.cells #[.int .i64 many] 3)) w'):=H
 have HB:Hid (Below w.heap.size w (((w.alloc (.cells #[.bool row] 4)).alloc (.cells #[.int .i64 at'] 3)).alloc (.cells #[.int .i64 many] 3))):=hb
 clear H hb h1 h2 h3 hx hE hW hres hn
 go_enter Tryz.func9,Tryz.ntmps9
 go_upto_region 1 with fail
 generalize ((w.alloc (.cells #[.bool row] 4)).alloc (.cells #[.int .i64 at'] 3)).alloc (.cells #[.int .i64 many] 3)=W at *
 go_wp2_with (first | (go_at_call 24;refine HC.out.mono ?_;rintro e w1 ⟨⟨t,v,q,rfl,hT,hO⟩,hb⟩;obtain⟨ev,hev⟩:∃ ev,errV q=ev:=⟨_,rfl⟩;rw [hev]))
 have HEV:Hid (∃ t v' q,(Ending.returned (.tuple #[v,ev]))=.returned (.tuple #[v',errV q])∧Told xs t∧ChO n res (fm.okL row at' many) t v' q w1):=⟨t,v,q,by rw [hev],hT,hO⟩
 have HBB:Hid (Below w.heap.size w w1):=bnext HB.out hb HB.out.size
 clear hT hO hev hb HC HB
 exact bodyPost_ret (v:=.tuple #[v,ev]) (by simp [results,Tryz.results9,go_sem]) rfl ⟨HEV.out,HBB.out⟩
set_option maxRecDepth 100000 in
set_option maxHeartbeats 4000000 in
theorem rowsInsert_law (p:Option Addr) (c:Nat) (xs:List Fl) (row:Bool) (at' many:Int) (w:World) (hx:FM w p xs) (hE:EnvP w) (hW:fm.EnvW w) (hT:ErrTy w) :
  Calls Tryz.prog 3 #[.slice p xs.length c,.bool row,.int .i64 at',.int .i64 many] w fun e w'=>e=.returned (.bool true)∧Below w.heap.size w w':=by
 obtain⟨res,hres⟩:∃ res,Told xs 0→fm.okL row at' many=true→Ress (InU row at' many) xs res:=by
  by_cases h:Told xs 0∧fm.okL row at' many=true
  ·obtain⟨res,hr⟩:=in_ex h.1 row at' many (by have h2:=h.2;unfold fm.okL at h2;simp only [Bool.and_eq_true,decide_eq_true_eq] at h2;exact h2.1.2)
   exact⟨res,fun _ _=>hr⟩
  ·exact⟨[],fun a b=>absurd ⟨a,b⟩ h⟩
 have H1:Hid (Calls Tryz.prog 8 #[.slice p xs.length c,.bool row,.int .i64 at',.int .i64 many] w fun e w'=>(∃ t v q,e=.returned (.tuple #[v,.int .i64 q])∧Told xs t∧ChO xs.length res (fm.okL row at' many) t v q w')∧Below w.heap.size w w'):=rinsert_any p c xs row at' many w hx res hres (fun h=>fm.rrew_any 2 row at' many 0 0 0 0 0 0 _ (fun r hr wx=>fm.ins_ref row at' many h r hr wx) (fun a b ha hb wx=>fm.ins_box row at' many h a b ha hb wx))
 have H2:Hid (∀ wx,Below w.heap.size w wx→Calls Tryz.prog 9 #[.slice p xs.length c,.bool row,.int .i64 at',.int .i64 many] wx fun e w'=>(∃ t v q,e=.returned (.tuple #[v,errV q])∧Told xs t∧ChO xs.length res (fm.okL row at' many) t v q w')∧Below wx.heap.size wx w'):=fun wx hb=>pinsert_any p c xs row at' many wx (hx.below hb) (hE.below hb hE.size) (hW.next hb) res hres
 have HT:Hid (ErrTy w):=hT
 have HLn:Hid (∀ t v q wx,Told xs t→ChO xs.length res (fm.okL row at' many) t v q wx→(flt res xs.length).length≤1000∨v=.slice none 0 0):=fun t v q wx ht h=>by
  rcases h with ⟨-,h,-⟩ | ⟨-,-,h,-⟩ | ⟨-,-,-,h,-⟩ | ⟨h0,h1,-⟩
  ·exact .inr h
  ·exact .inr h
  ·exact .inr h
  ·subst h0
   exact .inl (Nat.le_trans (flt_len (in_one (hres ht h1)) _) (Nat.le_trans ht.fine.len (by omega)))
 obtain⟨n,hn⟩:∃ n,xs.length=n:=⟨_,rfl⟩
 rw [hn] at H1 H2 HLn ⊢
 clear hx hE hT hn hres hW
 go_enter Tryz.func3,Tryz.ntmps3
 go_wp2_with fail
 refine H1.out.mono ?_
 rintro e w1 ⟨⟨t,v,q,rfl,hT1,hS1⟩,hb1⟩
 have HS1:Hid (Told xs t∧ChO n res (fm.okL row at' many) t v q w1∧Below w.heap.size w w1):=⟨hT1,hS1,hb1⟩
 clear hT1 hS1 hb1 H1
 go_wp2_with fail
 refine (H2.out _ HS1.out.2.2).mono ?_
 rintro e w2 ⟨⟨t',v',q',rfl,hT2,hS2⟩,hb2⟩
 have et:t'=t:=hT2.one HS1.out.1
 subst et
 obtain⟨rfl,pz,cz,pz',cz',zs,m,rfl,rfl,hm,hM,hM',hl⟩:=HS1.out.2.1.pair2 hS2 hb2 (HLn.out _ _ _ _ HS1.out.1 HS1.out.2.1)
 have HB2:Hid (Below w.heap.size w w2):=bnext HS1.out.2.2 hb2 HS1.out.2.2.size
 have HM:Hid (Calls Tryz.prog 10 #[.slice pz' m cz',errV q,.slice pz m cz,.int .i64 q] w2 fun r w'=>r=.returned (.bool true)∧Below w2.heap.size w2 w'):=made_any pz' pz cz' cz m zs q w2 hm hM' hM hl (HT.out.below HB2.out HT.out.1)
 generalize errV q=ev at *
 clear HS1 hT2 hS2 hb2 hm hM hM' hl
 go_wp2_with fail
 refine HM.out.mono ?_
 rintro e w3 ⟨rfl,hb3⟩
 have HB3:Hid (Below w.heap.size w w3):=bnext HB2.out hb3 HB2.out.size
 clear hb3
 go_wp2_with fail
 go_ret
 exact⟨rfl,HB3.out⟩
end Go.Proofs.YtgifkepklnhddaaGreatDoor.ps
namespace Go.Proofs.YtgifkepklnhddaaGreatDoor.ps
open Go.ChangeShapes Go.WideShapes Go.ChangeAt Go.RowKit
theorem vcof3:Tryz.prog.cellsOf 3=1:=by kernel_rfl
theorem vcof9:Tryz.prog.cellsOf 9=1:=by kernel_rfl
theorem vcof30:Tryz.prog.cellsOf 32=2:=by kernel_rfl
theorem vcof33:Tryz.prog.cellsOf 44=3:=by kernel_rfl
theorem add_plain (g o k:Nat):(⟨g,o,none⟩:Addr).add k=⟨g,o+k,none⟩:=by
 unfold Addr.add
 by_cases h:k=0<;>simp [h]
theorem l2 {α:Type} {l:List α} (h:l.length=2):∃ a b,l=[a,b]:=by
 match l,h with
 | [a,b],_=>exact⟨a,b,rfl⟩
theorem l3 {α:Type} {l:List α} (h:l.length=3):∃ a b c,l=[a,b,c]:=by
 match l,h with
 | [a,b,c],_=>exact⟨a,b,c,rfl⟩
theorem flF_inv {xs:List Fl} {t:Nat} {u:Value} (h:(flF xs)[t]?=some u):∃ i j x,t=i*3+j∧j<3∧xs[i]?=some x∧(fl3 x)[j]?=some u:=by
 have hl:=(List.getElem?_eq_some_iff.1 h).1
 rw [flF_len] at hl
 have hi:t / 3<xs.length:=by omega
 have hx:xs[t / 3]?=some (xs[t / 3]):=List.getElem?_eq_getElem hi
 have hj:t % 3<3:=Nat.mod_lt _ (by decide)
 have e:t=t / 3*3+t % 3:=by omega
 obtain⟨v,hv⟩:∃ v,(fl3 (xs[t / 3]))[t % 3]?=some v:=⟨_,List.getElem?_eq_getElem (show t % 3<(fl3 (xs[t / 3])).length from hj)⟩
 have:=flF_at hx hv
 rw [← e,h] at this
 injection this with this
 subst this
 exact⟨t / 3,t % 3,_,e,hj,hx,hv⟩
section
variable {H:Type} {enc:TypeId×Value→H} {W:World} {base:Nat} {spare:Nat→Bool} {held:Bool}
set_option maxRecDepth 100000 in
theorem cell_trod {fuel:Nat} {cs:List Value} {x:DataW H×List MemPlace} (h:DataW.trod enc Tryz.prog W base spare held fuel 32 cs=some x) :
  ∃ (c r:Int),cs=[.int .i64 c,.int .i64 r]:=by
 obtain⟨y0,y1,n,rfl,hl,h0,h1⟩:=trod_struct2 Tryz.underlying32 h
 obtain⟨a,b,rfl⟩:=l2 (hl.trans vcof30)
 simp only [vcof3,List.drop_zero,List.drop_succ_cons,List.take_succ_cons,List.take_zero] at h0 h1
 obtain⟨c,e0,-,-⟩:=DataW.trod_int Tryz.underlying3 h0
 obtain⟨r,e1,-,-⟩:=DataW.trod_int Tryz.underlying3 h1
 simp at e0 e1
 subst e0 e1
 exact⟨c,r,rfl⟩
set_option maxRecDepth 100000 in
theorem fl_trod {fuel:Nat} {cs:List Value} {x:DataW H×List MemPlace} (h:DataW.trod enc Tryz.prog W base spare held fuel 44 cs=some x) :
  ∃ f:Fl,cs=fl3 f:=by
 obtain⟨y0,y1,n,rfl,hl,h0,h1⟩:=trod_struct2 Tryz.underlying44 h
 obtain⟨a,b,d,rfl⟩:=l3 (hl.trans vcof33)
 simp only [vcof30,vcof9,List.drop_zero,List.drop_succ_cons,List.take_succ_cons,List.take_zero] at h0 h1
 obtain⟨c,r,e0⟩:=cell_trod h0
 obtain⟨s,e1,-,-⟩:=DataW.trod_string Tryz.underlying9 h1
 simp at e0 e1
 obtain⟨rfl,rfl⟩:=e0
 subst e1
 exact⟨⟨c,r,s⟩,rfl⟩
set_option maxRecDepth 100000 in
theorem open_fills {r0:Reach} {b0:Nat} {v:Value} {d:DataW H} {q:List MemPlace} (hv:Value.okWide Tryz.prog W r0 b0 22 v) (h:DataW.Trod enc Tryz.prog W 0 spare held 22 v d q) :
  ∃ (p:Option Addr) (xs:List Fl) (cap:Nat),v=.slice p xs.length cap∧FM W p xs∧(p=none→cap=0):=by
 obtain⟨p,len,cap,rfl⟩:=okWide_slice Tryz.underlying22 hv
 obtain⟨fuel,hf⟩:=h
 rcases Go.Deep.open_slice Tryz.underlying22 hf with ⟨e,-⟩ | ⟨a,len',cap',m,n,D,Pl,e,-,hlc,hcm,hm,-,hel⟩
 ·simp [Value.cells] at e
  obtain⟨rfl,rfl,rfl⟩:=e
  exact⟨none,[],0,rfl,.inl rfl,fun _=>rfl⟩
 simp [Value.cells] at e
 obtain⟨rfl,rfl,rfl⟩:=e
 have hle:len≤m:=by rw [hm];split<;>omega
 rw [vcof33] at hel
 haveI:Inhabited Fl:=⟨⟨0,0,nul⟩⟩
 obtain⟨F,hF⟩:=Go.Deep.choose_lt (α:=Fl) (n:=len) (p:=fun i y=>W.cells? 0 (a.add (i*3)) 3=some (fl3 y)) (fun i hi=>by
  obtain⟨cs',g1,g2⟩:=hel i (by omega)
  obtain⟨f,rfl⟩:=fl_trod g2
  exact⟨f,g1⟩)
 have hlen:((List.range len).map F).length=len:=by simp
 refine⟨some a,(List.range len).map F,cap,by rw [hlen],?_,fun e=>by cases e⟩
 by_cases h0:len=0
 ·left;subst h0;rfl
 right
 have hc0:∀ i,i<len→∀ j,j<3→W.cell? (a.add (i*3+j))=(fl3 (F i))[j]?:=fun i hi j hj=>by
  have:=(World.cells?_some (hF i hi)).2.2 j hj
  rw [Go.Deep.add_add] at this
  exact this
 have hsp:W.cell? a=some (.int .i64 (F 0).c):=by
  have:=hc0 0 (by omega) 0 (by omega)
  simpa [Addr.add] using this
 have hspot:=World.cell?_spot hsp
 obtain⟨g,o,sp⟩:=a
 simp only at hspot
 subst hspot
 refine⟨g,o,rfl,?_,fun t u hu=>?_⟩
 ·unfold World.cell? at hsp
  rcases Nat.lt_or_ge g W.heap.size with h | h
  ·exact h
  ·rw [Array.getElem?_eq_none h] at hsp
   simp at hsp
 ·obtain⟨i,j,x,rfl,hj,hx,hu'⟩:=flF_inv hu
  have hi:i<len:=by have:=(List.getElem?_eq_some_iff.1 hx).1;rw [hlen] at this;exact this
  have hxF:x=F i:=by
   rw [List.getElem?_map,List.getElem?_range hi] at hx
   simpa using hx.symm
  subst hxF
  have:=hc0 i hi j hj
  rw [add_plain,hu'] at this
  exact this
end
end Go.Proofs.YtgifkepklnhddaaGreatDoor.ps

import Derived.Test.YtgifkepklnhddaaGreatDoorQ7Qa
import Derived.Test.YtgifkepklnhddaaGreatDoorQ7Pc
import Derived.Test.YtgifkepklnhddaaGreatDoorQ7Jk
import Derived.Test.YtgifkepklnhddaaGreatDoorQ7Conv
import Derived.Lib.ItoaLen
import Derived.Lib.ItoaMem
import Derived.Test.YtgifkepklnhddaaGreatDoorProg
import Derived.WalkKit
import Derived.ProofKit
import Derived.WalkSpells
import Derived.WalkLawsBesides
import Derived.Below
import Derived.Lib.Bytealg
import Derived.Lib.Walk
import Derived.Deep.DeepCutAuto
import Derived.Deep.RegionHeld3
import Derived.Sort.Grow
import Derived.OwnWalk
import Derived.Deep.AppendLies
import Derived.Deep.RegionHeldLaw
import Derived.Deep.CutBlock
import Derived.Lib.AppendStr
import Derived.Laws.BytesString
import Derived.Test.YtgifkepklnhddaaGreatDoorQ7Pa
import Derived.Test.YtgifkepklnhddaaGreatDoorQ7Ja
import Derived.Test.YtgifkepklnhddaaGreatDoorQ7Yc
import Derived.Test.YtgifkepklnhddaaGreatDoorQ7Jb
namespace Go.Proofs.YtgifkepklnhddaaGreatDoor.fm
open Go.RowKit
abbrev bs (x:List UInt8):ByteArray:=⟨x.toArray⟩
theorem bs_app (x y:List UInt8):bs x++bs y=bs (x++y):=by
 apply ByteArray.ext
 simp [ByteArray.data_append]
theorem tightO_any (op:Nat) (h1:1≤op) (h11:op≤11) (w:World):Calls Tryz.prog 112 #[.int .i64 (op:Nat)] w fun e w'=>e=.returned (.int .i64 (lev op:Nat))∧w'=w:=by
 have hop:op=1∨op=2∨op=3∨op=4∨op=5∨op=6∨op=7∨op=8∨op=9∨op=10∨op=11:=by omega
 rcases hop with rfl | rfl | rfl | rfl | rfl | rfl | rfl | rfl | rfl | rfl | rfl
 all_goals
  go_enter Tryz.func112,Tryz.ntmps112
  go_wp2_with fail
  go_ret
  exact⟨rfl,rfl⟩
def tgN (k n:Int):Nat:=if k=8 then lev n.toNat else 9
theorem tightN_any (k:Int) (n:Nat) (s:ByteArray) (r t:Rf) (v:Value) (w:World) (h:k=8→1≤n∧n≤11) :
  Calls Tryz.prog 124 #[NV k n s r t v] w fun e w'=>e=.returned (.int .i64 (tgN k n:Nat))∧Below w.heap.size w w':=by
 have hb:Below w.heap.size w (w.alloc (.cells (N12 k n s r t v) 57)):=(Below.refl _ _).alloc (Nat.le_refl _) _
 obtain⟨c0,c1,-⟩:=(cells12 (heap_alloc_new w (.cells (N12 k n s r t v) 57))).1
 by_cases hk:k=8
 ·subst hk
  have HT:Hid (∀ wx,Calls Tryz.prog 112 #[.int .i64 (n:Nat)] wx fun e w'=>e=.returned (.int .i64 (lev n:Nat))∧w'=wx):=fun wx=>tightO_any n (h rfl).1 (h rfl).2 wx
  have HB:Hid (Below w.heap.size w (w.alloc (.cells (N12 8 n s r t v) 57))):=hb
  go_enter Tryz.func124,Tryz.ntmps124
  go_wp2_with (first | (go_at_call 112;refine (HT.out _).mono ?_;rintro e w1 ⟨rfl,rfl⟩))
  go_ret
  exact⟨rfl,HB.out⟩
 ·have hk2:(k == 8)=false:=by rw [beq_eq_false_iff_ne];exact hk
  have HB:Hid (Below w.heap.size w (w.alloc (.cells (N12 k n s r t v) 57))):=hb
  go_enter Tryz.func124,Tryz.ntmps124
  go_wp2_with fail
  go_ret
  exact⟨by unfold tgN;rw [if_neg hk];rfl,HB.out⟩
set_option maxHeartbeats 1000000 in
theorem signText_any (op:Nat) (h1:1≤op) (h11:op≤11) (w:World) :
  Calls Tryz.prog 125 #[.int .i64 (op:Nat)] w fun e w'=>e=.returned (.string (bs (opT op)))∧Below w.heap.size w w':=by
 have hb:Below w.heap.size w (w.alloc (.cells #[.string ⟨#[]⟩,.string ⟨#[61]⟩,.string ⟨#[60,62]⟩,.string ⟨#[60]⟩,.string ⟨#[60,61]⟩,.string ⟨#[62]⟩,.string ⟨#[62,61]⟩,.string ⟨#[38]⟩,.string ⟨#[43]⟩,.string ⟨#[45]⟩,.string ⟨#[42]⟩,.string ⟨#[47]⟩] 9)):=(Below.refl _ _).alloc (Nat.le_refl _) _
 have hop:op=1∨op=2∨op=3∨op=4∨op=5∨op=6∨op=7∨op=8∨op=9∨op=10∨op=11:=by omega
 rcases hop with rfl | rfl | rfl | rfl | rfl | rfl | rfl | rfl | rfl | rfl | rfl
 all_goals
  go_enter Tryz.func125,Tryz.ntmps125
  go_wp2_with fail
  go_ret
  exact⟨rfl,hb⟩
abbrev V3v (k n:Int) (s:ByteArray):Value:=.agg #[.int .i64 k,.int .i64 n,.string s]
theorem tru_any (b:Bool) (w:World):Calls Tryz.prog 120 #[.bool b] w fun e w'=>e=.returned (V3v 3 (if b=true then 1 else 0) nul)∧Below w.heap.size w w':=by
 cases b with
 | false =>
  go_enter Tryz.func120,Tryz.ntmps120
  go_wp2_with fail
  exact bodyPost_ret (v:=V3v 3 0 nul) (by simp [results,Tryz.results120,go_sem]) rfl ⟨rfl,by first | exact Below.refl _ _ | exact (Below.refl _ _).alloc (Nat.le_refl _) _⟩
 | true =>
  go_enter Tryz.func120,Tryz.ntmps120
  go_wp2_with fail
  exact bodyPost_ret (v:=V3v 3 1 nul) (by simp [results,Tryz.results120,go_sem]) rfl ⟨rfl,by first | exact Below.refl _ _ | exact (Below.refl _ _).alloc (Nat.le_refl _) _⟩
theorem badV_any (n:Int) (w:World):Calls Tryz.prog 121 #[.int .i64 n] w fun e w'=>e=.returned (V3v 4 n nul)∧Below w.heap.size w w':=by
 go_enter Tryz.func121,Tryz.ntmps121
 go_wp2_with fail
 exact bodyPost_ret (v:=V3v 4 n nul) (by simp [results,Tryz.results121,go_sem]) rfl ⟨rfl,by first | exact Below.refl _ _ | exact (Below.refl _ _).alloc (Nat.le_refl _) _⟩
theorem showT_any (n:Int) (h:n=0∨n=1) (w:World):Calls Tryz.prog 119 #[V3v 3 n nul] w fun e w'=>e=.returned (.string (bs (truT n)))∧Below w.heap.size w w':=by
 have hb:Below w.heap.size w (w.alloc (.cells #[.int .i64 3,.int .i64 n,.string nul] 163)):=(Below.refl _ _).alloc (Nat.le_refl _) _
 rcases h with rfl | rfl
 all_goals
  go_enter Tryz.func119,Tryz.ntmps119
  go_wp2_with fail
  go_ret
  exact⟨rfl,hb⟩
set_option maxHeartbeats 2000000 in
theorem showB_any (n:Nat) (h1:1≤n) (h6:n≤6) (w:World):Calls Tryz.prog 119 #[V3v 4 (n:Nat) nul] w fun e w'=>e=.returned (.string (bs (badT n)))∧Below w.heap.size w w':=by
 have hn:n=1∨n=2∨n=3∨n=4∨n=5∨n=6:=by omega
 have HW:Hid (∀ wx,Calls Tryz.prog 114 #[] wx fun e w'=>e=.returned (.slice (some ⟨wx.heap.size,0,none⟩) 7 7)∧w'=wx.alloc (.cells #[.string ⟨#[]⟩,.string (bs (badT 1)),.string (bs (badT 2)),.string (bs (badT 3)),.string (bs (badT 4)),.string (bs (badT 5)),.string (bs (badT 6))] 9)):=fun wx=>by
  go_enter Tryz.func114,Tryz.ntmps114
  go_wp2_with fail
  go_ret
  exact⟨rfl,rfl⟩
 rcases hn with rfl | rfl | rfl | rfl | rfl | rfl
 all_goals
  have hb:∀ n:Int,Below w.heap.size w ((w.alloc (.cells #[.int .i64 4,.int .i64 n,.string nul] 163)).alloc (.cells #[.string ⟨#[]⟩,.string (bs (badT 1)),.string (bs (badT 2)),.string (bs (badT 3)),.string (bs (badT 4)),.string (bs (badT 5)),.string (bs (badT 6))] 9)):=fun n=>((Below.refl _ _).alloc (Nat.le_refl _) _).alloc (by simp) _
  have HB:=hb
  clear hb
  have hb:Hid _:=HB
  clear HB
  go_enter Tryz.func119,Tryz.ntmps119
  go_wp2_with (first | (go_at_call 114;refine (HW.out _).mono ?_;rintro e w1 ⟨rfl,rfl⟩))
  go_ret
  exact⟨rfl,hb.out _⟩
theorem byte_text (c:UInt8) (g:Nat) (wx:World) (h:wx.heap[g]?=some (.cells #[.int .u8 (c.toNat:Int)] 5 (0,0))):(convert 155 9 (.slice (some ⟨g,0,none⟩) 1 1)).run Tryz.prog wx=.ok (.string (bs [c])) wx:=by
 have h1:=run_convert_bytes_back (P:=Tryz.prog) wx 155 9 5 ⟨g,0,none⟩ 1 [c] Tryz.underlying155 Tryz.underlying5 Tryz.underlying9 (fun j hj=>by
  have:j=0:=by simp at hj;omega
  subst this
  show wx.cell? ⟨g,0,none⟩=some (.int .u8 (c.toNat:Int))
  rw [cell_of_row wx g 0 _ _ (0,0) h]
  rfl)
 exact h1
end Go.Proofs.YtgifkepklnhddaaGreatDoor.fm
namespace Go.Proofs.YtgifkepklnhddaaGreatDoor.dg
open Go.RowKit
theorem wrapU_neg {x:Int} (h:-18446744073709551616≤x) (h2:x<0):IntKind.u64.wrap x=x+18446744073709551616:=by
 simp [IntKind.wrap,IntKind.bits,IntKind.signed];omega
set_option maxHeartbeats 1000000 in
theorem setInt_neg (bz x:Nat) (w:World) (zn:Bool) (zx:Nat) (hz:BigInt w bz zn zx) (h1:1≤x) (hx:x≤9223372036854775808) :
  Calls Tryz.prog 173 #[ptr bz,.int .i64 (-(x:Int))] w fun e w'=>e=.returned (ptr bz)∧BigInt w' bz true x∧∀ B,B≤bz→Below B w w':=by
 have hlt0:-(x:Int)<0:=by omega
 go_enter Tryz.func173,Tryz.ntmps173
 go_wp2_with fail
 rw [wrapU_neg (x:=-(x:Int)) (by omega) (by omega),show (-(-(x:Int)+18446744073709551616))=(x:Int) - 18446744073709551616 from by omega,wrapU_neg (by omega) (by omega),show (x:Int) - 18446744073709551616+18446744073709551616=(x:Int) from by omega]
 refine (words_any x _ (by omega)).mono ?_
 rintro e w1 ⟨⟨v,rfl,hv⟩,b1⟩
 have hz1:=hz.below b1
 have hN:=num_trim hv (word_val x)
 have hlt:=hz.lt
 go_wp2_with fail
 refine (give_any bz true v x _ zn zx hz1 hN).mono ?_
 rintro e w2 ⟨rfl,hz2,b2⟩
 have e1:(true && decide (x≠0))=true:=by simp;omega
 rw [e1] at hz2
 go_wp2_with fail
 go_ret
 exact⟨rfl,hz2,fun B hB=>(b1.mono (by omega)).trans (b2 B hB)⟩
set_option maxHeartbeats 1000000 in
theorem newInt_any (n:Int) (w:World) (h0:-9223372036854775808≤n) (h1:n≤9223372036854775807) :
  Calls Tryz.prog 145 #[.int .i64 n] w fun e w'=>(∃ b,e=.returned (ptr b)∧w.heap.size≤b∧BigInt w' b (decide (n<0)) n.natAbs)∧Below w.heap.size w w':=by
 by_cases c:n<0
 ·obtain⟨x,rfl,hx⟩:∃ x:Nat,n=-(x:Int)∧1≤x:=⟨n.natAbs,by omega,by omega⟩
  have e1:decide (-(x:Int)<0)=true:=decide_eq_true c
  have e2:(-(x:Int)).natAbs=x:=by omega
  rw [e1,e2]
  have hb:=BigInt.new w 239
  clear c e1 e2
  go_enter Tryz.func145,Tryz.ntmps145
  go_wp2_with fail
  refine (setInt_neg _ x _ false 0 hb hx (by omega)).mono ?_
  rintro e w1 ⟨rfl,hz,b1⟩
  go_wp2_with fail
  go_ret
  exact⟨⟨_,rfl,Nat.le_refl _,hz⟩,((Below.refl _ _).alloc (Nat.le_refl _) _).trans (b1 _ (Nat.le_refl _))⟩
 ·obtain⟨x,rfl⟩:∃ x:Nat,n=(x:Int):=⟨n.natAbs,by omega⟩
  have e1:decide ((x:Int)<0)=false:=decide_eq_false c
  have e2:((x:Int)).natAbs=x:=by omega
  rw [e1,e2]
  exact newInt_nn x w (by omega)
theorem string_any (bz x:Nat) (neg:Bool) (w:World) (hz:BigInt w bz neg x) (hx64:x<18446744073709551616) (hn:x=0→neg=false) :
  Calls Tryz.prog 146 #[ptr bz] w fun e w'=>e=.returned (.string ⟨(sgn neg++Lib.decDigits x).toArray⟩)∧Below w.heap.size w w':=by
 by_cases hx:x=0
 ·obtain⟨v,h1,hv⟩:=hz.c1
  obtain⟨A,n,c,rfl,hn',hpos⟩:=hv.shape
  have:n=0:=by
   rcases Nat.eq_zero_or_pos n with q | q
   ·exact q
   ·exact absurd hx (hpos.1 q)
  subst this
  have HE:Hid ((⟨(sgn neg++Lib.decDigits x).toArray⟩:ByteArray)=⟨#[48]⟩):=by
   unfold Hid
   rw [hn hx,hx,Lib.decDigits,dif_pos (by omega)]
   rfl
  go_enter Tryz.func146,Tryz.ntmps146
  go_wp2_with fail
  refine (text_zero bz A c _ h1).mono ?_
  rintro e w1 ⟨rfl,rfl⟩
  go_wp2_with fail
  go_ret
  exact⟨by rw [HE.out];rfl,Below.refl _ _⟩
 ·go_enter Tryz.func146,Tryz.ntmps146
  go_wp2_with fail
  refine (text_pos bz x neg _ hz hx hx64).mono ?_
  rintro e w1 ⟨rfl,b1⟩
  go_wp2_with fail
  go_ret
  exact⟨rfl,b1⟩
theorem digits_any (n:Int) (w:World) (h0:-9223372036854775808≤n) (h1:n≤9223372036854775807) :
  Calls Tryz.prog 118 #[.int .i64 n] w fun e w'=>e=.returned (.string (itoaB n))∧Below w.heap.size w w':=by
 have HE:Hid (itoaB n=⟨(sgn (decide (n<0))++Lib.decDigits n.natAbs).toArray⟩):=by
  unfold Hid itoaB Lib.itoa sgn
  by_cases c:n<0
  ·rw [if_pos c,if_pos (decide_eq_true c)];rfl
  ·rw [if_neg c,if_neg (by simpa using c),List.nil_append]
   congr 3
   omega
 go_enter Tryz.func118,Tryz.ntmps118
 go_wp2_with fail
 refine (newInt_any n _ h0 h1).mono ?_
 rintro e w1 ⟨⟨b,rfl,hb,hI⟩,q1⟩
 go_wp2_with fail
 refine (string_any b _ _ _ hI (by omega) (fun q=>decide_eq_false (by omega))).mono ?_
 rintro e w2 ⟨rfl,q2⟩
 go_wp2_with fail
 go_ret
 exact⟨by rw [HE.out];rfl,bnext q1 q2 q1.size⟩
end Go.Proofs.YtgifkepklnhddaaGreatDoor.dg
namespace Go.Proofs.YtgifkepklnhddaaGreatDoor.fm
open Go.RowKit
theorem in_any (x:List UInt8) (b:Bool) (w:World) (hx:x.length≤100000000) :
  Calls Tryz.prog 123 #[.string (bs x),.bool b] w fun e w'=>e=.returned (.string (bs (if b=true then 40::(x++[41]) else x)))∧Below w.heap.size w w':=by
 have h1:(⟨#[40]⟩:ByteArray)++bs x++⟨#[41]⟩=bs (40::(x++[41])):=by
  show bs [40]++bs x++bs [41]=_
  rw [bs_app,bs_app]
  simp
 have H1:Hid ((⟨#[40]⟩:ByteArray)++bs x++⟨#[41]⟩=bs (40::(x++[41]))):=h1
 clear h1
 have hs:(bs x).size≤100000000:=hx
 clear hx
 cases b with
 | false =>
  rw [if_neg (by decide)]
  generalize bs x=s at *
  go_enter Tryz.func123,Tryz.ntmps123
  go_wp2_with fail
  go_ret
  exact⟨rfl,Below.refl _ _⟩
 | true =>
  rw [if_pos rfl]
  generalize bs x=s at *
  rw [← H1.out]
  clear H1
  go_enter Tryz.func123,Tryz.ntmps123
  go_wp2_with fail
  go_ret
  exact⟨rfl,Below.refl _ _⟩
theorem app_e (s:ByteArray):s++bs []=s:=by
 apply ByteArray.ext
 simp [ByteArray.data_append]
set_option maxRecDepth 100000 in
set_option maxHeartbeats 2000000 in
theorem refName_any (r:Rf) (h:adr.isC r.c r.r=true) (w:World) :
  Calls Tryz.prog 122 #[.agg #[.int .i64 r.c,.int .i64 r.r,.bool r.fc,.bool r.fr]] w fun e w'=>e=.returned (.string (bs (ink.ref r)))∧Below w.heap.size w w':=by
 obtain⟨c,rr,fc,fr⟩:=r
 have hc:=adr.isC_iff.1 h
 dsimp only at hc ⊢
 obtain⟨k,rfl⟩:∃ k:Nat,c=(k:Int):=⟨c.toNat,by omega⟩
 obtain⟨m,rfl⟩:∃ m:Nat,rr=(m:Int):=⟨rr.toNat,by omega⟩
 have hm99:(m:Int)≤99:=by omega
 have hk1:(64:Int)+(k:Int)≤90:=by omega
 have hk0:(65:Int)≤(64:Int)+(k:Int):=by omega
 have HD:Hid (∀ wx,Calls Tryz.prog 118 #[.int .i64 (m:Int)] wx fun e w'=>e=.returned (.string (bs (Lib.decDigits m)))∧Below wx.heap.size wx w'):=fun wx=>(dg.digits_any (m:Int) wx (by omega) (by omega)).mono fun e w' ⟨h1,h2⟩=>⟨by rw [h1];rfl,h2⟩
 have HK0:((UInt8.ofNat (64+k)).toNat:Int)=64+(k:Int):=by
  rw [UInt8.toNat_ofNat']
  omega
 have HI:Hid (ink.ref ⟨(k:Int),(m:Int),fc,fr⟩=dollar fc++UInt8.ofNat (64+k)::(dollar fr++Lib.decDigits m)):=rfl
 obtain⟨c8,hc8⟩:∃ c8,UInt8.ofNat (64+k)=c8:=⟨_,rfl⟩
 rw [hc8] at HK0 HI
 have HK:Hid ((c8.toNat:Int)=64+(k:Int)):=HK0
 clear HK0 hc8
 have hb0:Below w.heap.size w (w.alloc (.cells #[.int .i64 (k:Int),.int .i64 (m:Int),.bool fc,.bool fr] 54)):=(Below.refl _ _).alloc (Nat.le_refl _) _
 have HB:Hid (Below w.heap.size w (w.alloc (.cells #[.int .i64 (k:Int),.int .i64 (m:Int),.bool fc,.bool fr] 54))∧(w.alloc (.cells #[.int .i64 (k:Int),.int .i64 (m:Int),.bool fc,.bool fr] 54)).heap[w.heap.size]?=some (.cells #[.int .i64 (k:Int),.int .i64 (m:Int),.bool fc,.bool fr] 54 (0,0))):=⟨hb0,heap_alloc_new w _⟩
 clear hb0 h hc
 go_enter Tryz.func122,Tryz.ntmps122
 go_upto_region 1 with fail
 generalize w.alloc (.cells #[.int .i64 (k:Int),.int .i64 (m:Int),.bool fc,.bool fr] 54)=w1 at *
 generalize hgz:w.heap.size=g at *
 have HG:Hid (w.heap.size=g):=hgz
 clear hgz
 obtain⟨c0,c1,c2,c3⟩:=cells4 HB.out.2
 have hcv:=byte_text c8 w1.heap.size _ (heap_alloc_new w1 (.cells #[.int .u8 (c8.toNat:Int)] 5))
 rw [HK.out] at hcv
 have HL:Hid (ByteArray.size (bs (Lib.decDigits m))≤21):=by
  have h:=Lib.itoa_length_le (m:Int) (by omega) (by omega)
  rw [Lib.itoa_nonneg] at h
  exact h
 obtain⟨u,hu⟩:∃ u,bs (Lib.decDigits m)=u:=⟨_,rfl⟩
 have HO:Hid (bs (ink.ref ⟨(k:Int),(m:Int),fc,fr⟩)=bs (dollar fc)++bs [c8]++bs (dollar fr)++u):=by
  show _=_
  rw [HI.out,← hu,bs_app,bs_app,bs_app]
  exact congrArg bs (by simp only [List.append_assoc,List.cons_append,List.nil_append])
 rw [hu] at HD HL
 have hul:=HL.out
 have h8:(bs [c8]).size=1:=rfl
 generalize bs [c8]=v8 at *
 clear hu HI HK HL
 have hB2:Below g w (w1.alloc (.cells #[.int .u8 (64+(k:Int))] 5)):=HB.out.1.trans ((Below.refl _ _).alloc (fm.lt_blk HB.out.2 |> Nat.le_of_lt) _)
 have hbl2:(w1.alloc (.cells #[.int .u8 (64+(k:Int))] 5)).heap[g]?=some (.cells #[.int .i64 (k:Int),.int .i64 (m:Int),.bool fc,.bool fr] 54 (0,0)):=by rw [heap_alloc_old _ _ (fm.lt_blk HB.out.2)];exact HB.out.2
 have HB2:Hid (Below g w (w1.alloc (.cells #[.int .u8 (64+(k:Int))] 5))∧(w1.alloc (.cells #[.int .u8 (64+(k:Int))] 5)).heap[g]?=some (.cells #[.int .i64 (k:Int),.int .i64 (m:Int),.bool fc,.bool fr] 54 (0,0))):=⟨hB2,hbl2⟩
 clear hB2 hbl2
 cases fc<;>cases fr
 all_goals
  go_upto_region 5 with fail
  clear c0 c1 c2 c3 hcv
  generalize w1.alloc (.cells #[.int .u8 (64+(k:Int))] 5)=w3 at *
  obtain⟨c0,c1,c2,c3⟩:=cells4 HB2.out.2
  go_wp2_with (first | (go_at_call 118;refine (HD.out _).mono ?_;rintro e w2 ⟨rfl,hb2⟩))
  go_ret
  exact⟨by rw [HO.out];first | rfl | (rw [show dollar false=[] from rfl,app_e];rfl),by rw [HG.out];exact HB2.out.1.trans (hb2.mono (Nat.le_of_lt (fm.lt_blk HB2.out.2)))⟩
end Go.Proofs.YtgifkepklnhddaaGreatDoor.fm
namespace Go.Proofs.YtgifkepklnhddaaGreatDoor.fw
open Go.RowKit Go.Sort Go.Lib
def Hid (P:Prop):Prop:=P
theorem Hid.out {P:Prop} (h:Hid P):P:=h
abbrev nul:ByteArray:={ data:=#[] }
abbrev Bw (w w':World):Prop:=Below w.heap.size w w'
theorem bnext {B:Nat} {w x y:World} (h:Below B w x) (h2:Below x.heap.size x y) (hB:B≤x.heap.size):Below B w y:=h.trans (h2.mono hB)
theorem Bw.al (w:World) (o:Obj):Bw w (w.alloc o):=(Below.refl _ _).alloc (Nat.le_refl _) _
theorem Bw.tr {a b c:World} (h:Bw a b) (h2:Bw b c):Bw a c:=bnext h h2 h.size
theorem own_next {w:World} {base n t s:Nat} {v:Value} {xs:List Value} (h:w.ownsRow base t s v n xs) {w':World} (hb:Bw w w'):w'.ownsRow base t s v n xs:=by
 obtain⟨h0,h | ⟨g,cap,cur,h1,h2,h3,h4⟩⟩:=h
 ·exact⟨h0,Or.inl h⟩
 ·exact⟨h0,Or.inr ⟨g,cap,cur,h1,h2,by rw [hb.block g (Array.getElem?_eq_some_iff.1 h3).1];exact h3,h4⟩⟩
theorem info5:(Tryz.prog.info? 5).map (fun i=>(i.zero,i.size,i.bytes))=some (some (.int .u8 0),1,1):=by kernel_rfl
theorem info_parts {t:TypeId} {z:Value} {s b:Nat} (h:(Tryz.prog.info? t).map (fun i=>(i.zero,i.size,i.bytes))=some (some z,s,b)):∃ i,Tryz.prog.info? t=some i∧i.zero=some z∧i.size=s∧i.bytes=b:=by
 cases e:Tryz.prog.info? t with
 | none=>rw [e] at h;cases h
 | some i =>
  rw [e] at h
  simp only [Option.map_some,Option.some.injEq,Prod.mk.injEq] at h
  exact⟨i,rfl,h.1,h.2.1,h.2.2⟩
theorem wpList_append_eq {P:Program} {w:World} {ops:Array Oper} {rest:List Oper} {o:Oper} {a:Act} {Q:Exit→Act→World→Prop} (hgd:o.guard=none) (s x:Go.Operand) (t u:TypeId)
  (ho:o.op=.call { callee:=.builtin .append,args:=#[s,x],argTypes:=#[t,u] }) (v y v':Value) (w':World) (hs:a.eval s=v) (hx:a.eval x=y)
  (hr:(Builtin.append_ #[t,u] o.type #[v,y]).run P w=.ok v' w') (h:wpList P ops Q rest (a.put o.dst v') w'):wpList P ops Q (o::rest) a w :=
 wpList_plain hgd fun _ hK=>by
  unfold Oper.wp execOp
  simp only [ho,resolve,invoke,builtin,Sem.run_bind,Sem.run_pure,Result.andThen_ok,List.map_toArray,List.map_cons,List.map_nil,hs,hx,hr]
  exact hK _ _ h
def bys (l:List UInt8):List Value:=l.map fun b=>.int .u8 (b.toNat:Int)
structure BV (w:World) (v:Value) (xs:List UInt8) (wx:World):Prop where
 own:wx.ownsRow w.heap.size 5 1 v xs.length (bys xs)
 below:Bw w wx
theorem BV.nil (w:World):BV w (.slice none 0 0) [] w:=⟨⟨rfl,.inl ⟨rfl,rfl⟩⟩,Below.refl _ _⟩
theorem BV.next {w:World} {v:Value} {xs:List UInt8} {wx wy:World} (h:BV w v xs wx) (hb:Bw wx wy):BV w v xs wy:=⟨own_next h.own hb,h.below.tr hb⟩
theorem BV.form {w:World} {v:Value} {xs:List UInt8} {wx:World} (h:BV w v xs wx):∃ p c,v=.slice p xs.length c∧((xs.length=0∧p=none∧c=0)∨∃ g,p=some ⟨g,0,none⟩∧xs.length≤c):=by
 rcases h.own.2 with ⟨rfl,h0⟩ | ⟨g,cap,cur,rfl,-,-,hc,-⟩
 ·exact⟨none,0,by rw [h0],.inl ⟨h0,rfl,rfl⟩⟩
 ·exact⟨_,_,rfl,.inr ⟨g,rfl,hc⟩⟩
theorem BV.one {w:World} {v:Value} {xs:List UInt8} {wx:World} (h:BV w v xs wx) (hl:xs.length<140737488355328) (y:UInt8) :
  ∃ g c w',(Builtin.append_ #[155,155] 155 #[v,.slice (some ⟨wx.heap.size,0,none⟩) 1 1]).run Tryz.prog (wx.alloc (.cells #[.int .u8 (y.toNat:Int)] 5))=.ok (.slice (some ⟨g,0,none⟩) (xs.length+1) c) w'∧BV w (.slice (some ⟨g,0,none⟩) (xs.length+1) c) (xs++[y]) w':=by
 obtain⟨i0,hi,hz0,hz1,hz2⟩:=info_parts info5
 have hmax:maxLen=9223372036854775807:=rfl
 have h1:=h.next (Bw.al wx (.cells #[.int .u8 (y.toNat:Int)] 5))
 obtain⟨g,c,w',r1,r2,r3,-,-⟩:=run_append_lies (P:=Tryz.prog) (w:=wx.alloc (.cells #[.int .u8 (y.toNat:Int)] 5)) 155 155 w.heap.size 5 i0 (.int .u8 0) 1 1 Tryz.underlying155 hi hz0 hz1 hz2 rfl (by decide) v xs.length (bys xs) h1.own ⟨wx.heap.size,0,none⟩ 1 1 [.int .u8 (y.toNat:Int)] rfl (World.news_of_block (heap_alloc_new wx _)) (by simp [Value.oneCell']) (by decide) (by omega) (by omega) h1.below.size _ rfl
 refine⟨g,c,w',r1,⟨?_,h1.below.grown r3 h1.below.size (fun q hq=>(h1.own.lt q hq).1)⟩⟩
 have e:bys (xs++[y])=bys xs++[.int .u8 (y.toNat:Int)]:=by simp [bys]
 rw [e,List.length_append]
 exact r2
theorem size_list (s:ByteArray):s.toList.length=s.size:=by rw [ByteArray.toList_eq];rfl
def txt (l:List UInt8):ByteArray:=⟨l.toArray⟩
theorem BV.text {w:World} {xs:List UInt8} {wx:World} {g n c:Nat} (h:BV w (.slice (some ⟨g,0,none⟩) n c) xs wx) (k c':Nat) (hk:k≤xs.length) :
  (convert 155 9 (.slice (some ⟨g,0,none⟩) k c')).run Tryz.prog wx=.ok (.string (txt (xs.take k))) wx:=by
 have hlk:(xs.take k).length=k:=by rw [List.length_take];omega
 have h1:=run_convert_bytes_back (P:=Tryz.prog) wx 155 9 5 ⟨g,0,none⟩ c' (xs.take k) Tryz.underlying155 Tryz.underlying5 Tryz.underlying9 (fun j hj=>by
  refine World.ownsRow.cells h.own (g:=g) rfl j _ ?_
  unfold bys
  rw [hlk] at hj
  rw [List.getElem?_map,List.getElem?_eq_getElem (by omega),List.getElem_take]
  rfl)
 rw [hlk] at h1
 exact h1
end Go.Proofs.YtgifkepklnhddaaGreatDoor.fw
namespace Go.Proofs.YtgifkepklnhddaaGreatDoor.fm
open Go.RowKit
theorem loose_in {l:Nat} {t:T} {x:List UInt8} {b:Bool} (h:b=loose l t):(if b=true then 40::(x++[41]) else x)=brk l t x:=by subst h;rfl
theorem dbl_snoc (c:UInt8):∀ l:List UInt8,dbl (l++[c])=dbl l++if c=34 then [34,34] else [c]
 | []=>by
  show dbl [c]=_
  unfold dbl
  split
  ·rename_i h;subst h;rfl
  ·rfl
 | x::l=>by
  have ih:=dbl_snoc c l
  show dbl (x::(l++[c]))=dbl (x::l)++_
  unfold dbl
  split<;>(rw [ih];rfl)
theorem kid_val {w wx:World} {g o i:Nat} {k n:Int} {s:ByteArray} {r t:Rf} {v:Value} (hg:g<w.heap.size) (hb:Below w.heap.size w wx) (h:∀ j x,(NV k n s r t v).cells.toList[j]?=some x→w.cell? ⟨g,o+i*12+j,none⟩=some x) :
  wx.cell? ⟨g,o+i*12,none⟩=some (.int .i64 k)∧wx.cell? ⟨g,o+i*12+1,none⟩=some (.int .i64 n)∧wx.cell? ⟨g,o+i*12+2,none⟩=some (.string s)∧wx.cell? ⟨g,o+i*12+3,none⟩=some (.int .i64 r.c)∧wx.cell? ⟨g,o+i*12+4,none⟩=some (.int .i64 r.r)∧wx.cell? ⟨g,o+i*12+5,none⟩=some (.bool r.fc)∧wx.cell? ⟨g,o+i*12+6,none⟩=some (.bool r.fr)∧wx.cell? ⟨g,o+i*12+7,none⟩=some (.int .i64 t.c)∧wx.cell? ⟨g,o+i*12+8,none⟩=some (.int .i64 t.r)∧wx.cell? ⟨g,o+i*12+9,none⟩=some (.bool t.fc)∧wx.cell? ⟨g,o+i*12+10,none⟩=some (.bool t.fr)∧wx.cell? ⟨g,o+i*12+11,none⟩=some v:=by
 have q:∀ j x,(NV k n s r t v).cells.toList[j]?=some x→wx.cell? ⟨g,o+i*12+j,none⟩=some x:=fun j x hx=>(hb.cell (p:=⟨g,_,none⟩) hg).trans (h j x hx)
 exact⟨q 0 _ rfl,q 1 _ rfl,q 2 _ rfl,q 3 _ rfl,q 4 _ rfl,q 5 _ rfl,q 6 _ rfl,q 7 _ rfl,q 8 _ rfl,q 9 _ rfl,q 10 _ rfl,q 11 _ rfl⟩
theorem tightI_any (k n:Int) (s:ByteArray) (r t:Rf) (v:Value) (w:World) (h:k=8→∃ m:Nat,n=(m:Int)∧1≤m∧m≤11) :
  Calls Tryz.prog 124 #[NV k n s r t v] w fun e w'=>e=.returned (.int .i64 (tgN k n:Nat))∧Below w.heap.size w w':=by
 by_cases hk:k=8
 ·obtain⟨m,rfl,q1,q2⟩:=h hk
  exact tightN_any k m s r t v w fun _=>⟨q1,q2⟩
 ·have hk2:(k == 8)=false:=by rw [beq_eq_false_iff_ne];exact hk
  have hb:Below w.heap.size w (w.alloc (.cells (N12 k n s r t v) 57)):=(Below.refl _ _).alloc (Nat.le_refl _) _
  obtain⟨c0,c1,-⟩:=(cells12 (heap_alloc_new w (.cells (N12 k n s r t v) 57))).1
  have HB:Hid (Below w.heap.size w (w.alloc (.cells (N12 k n s r t v) 57))):=hb
  go_enter Tryz.func124,Tryz.ntmps124
  go_wp2_with fail
  go_ret
  exact⟨by unfold tgN;rw [if_neg hk];rfl,HB.out⟩
theorem tg_loose (k n:Int) (s:ByteArray) (r t:Rf) (ts:List T) (l:Nat) (hl:l≤9):decide (tgN k n<l)=loose l (.nd k n s r t ts):=by
 unfold tgN loose
 show _=(decide (k=8) && decide (lev n.toNat<l))
 by_cases hk:k=8
 ·rw [if_pos hk]
  simp [hk]
 ·rw [if_neg hk]
  simp [hk]
  omega
abbrev BXC (W:World) (B:Nat) (r t:Rf) (wx:World):Prop:=wx.cell? ⟨B,3,none⟩=some (.int .i64 r.c)∧wx.cell? ⟨B,4,none⟩=some (.int .i64 r.r)∧wx.cell? ⟨B,5,none⟩=some (.bool r.fc)∧wx.cell? ⟨B,6,none⟩=some (.bool r.fr)∧wx.cell? ⟨B,7,none⟩=some (.int .i64 t.c)∧wx.cell? ⟨B,8,none⟩=some (.int .i64 t.r)∧wx.cell? ⟨B,9,none⟩=some (.bool t.fc)∧wx.cell? ⟨B,10,none⟩=some (.bool t.fr)∧Below W.heap.size W wx
theorem bxc_b {W:World} {B:Nat} {r t:Rf} {wx:World} (h:BXC W B r t wx):Below W.heap.size W wx:=h.2.2.2.2.2.2.2.2
theorem blk_at {W wx:World} {B:Nat} {a0 a1 a2 a3 a4 a5 a6 a7 a8 a9 a10 a11:Value} {t:TypeId} (h:W.heap[B]?=some (.cells #[a0,a1,a2,a3,a4,a5,a6,a7,a8,a9,a10,a11] t (0,0))) (hb:Below W.heap.size W wx) :
  wx.cell? ⟨B,0,none⟩=some a0∧wx.cell? ⟨B,1,none⟩=some a1∧wx.cell? ⟨B,2,none⟩=some a2∧wx.cell? ⟨B,11,none⟩=some a11:=by
 obtain⟨⟨q0,q1,q2,-,-,-,-,-,-,-,-,q11⟩,-⟩:=cells12 ((hb.block _ (lt_blk h)).trans h)
 exact⟨q0,q1,q2,q11⟩
theorem commasN_len:∀ xs:List (List UInt8),xs.length≤(commas xs).length+1
 | []=>Nat.zero_le _
 | [x]=>by simp
 | x::y::xs=>by
  have:=commasN_len (y::xs)
  show _≤(x++44::commas (y::xs)).length+1
  simp only [List.length_append,List.length_cons] at this ⊢
  omega
theorem call_parts (nm:List UInt8) (xs:List (List UInt8)) (h:nm.length+(commas xs).length+2≤100000000):∃ Z:Nat→ByteArray,Z 0=bs nm++⟨#[40]⟩∧(∀ xj,xs[0]?=some xj→Z 1=Z 0++bs xj∧(Z 0).size+1+(bs xj).size≤100000000)∧(∀ (j:Nat) xj,j≠0→xs[j]?=some xj→Z (j+1)=Z j++⟨#[44]⟩++bs xj∧(Z j).size+1+(bs xj).size≤100000000)∧(Z xs.length++⟨#[41]⟩=bs (nm++40::(commas xs++[41]))∧(Z xs.length).size≤100000000):=by
 have hq:∀ (l:List UInt8),(bs l).size=l.length:=fun l=>rfl
 refine⟨fun j=>bs (nm++40::commas (xs.take j)),?_,fun xj hx=>?_,fun j xj hj hx=>?_,?_,?_⟩
 ·show bs (nm++[40])=bs nm++bs [40]
  rw [bs_app]
 ·have h1:=commas_take hx
  rw [if_pos rfl] at h1
  refine⟨?_,?_⟩
  ·show bs (nm++40::commas (xs.take (0+1)))=bs (nm++[40])++bs xj
   rw [h1.1,bs_app]
   exact congrArg bs (by simp)
  ·have h2:=h1.2
   rw [h1.1] at h2
   show (bs (nm++[40])).size+1+(bs xj).size≤_
   rw [hq,hq,List.length_append,List.length_singleton]
   omega
 ·have h1:=commas_take hx
  rw [if_neg hj] at h1
  refine⟨?_,?_⟩
  ·show bs (nm++40::commas (xs.take (j+1)))=bs (nm++40::commas (xs.take j))++bs [44]++bs xj
   rw [h1.1,bs_app,bs_app]
   exact congrArg bs (by simp)
  ·have h2:=h1.2
   rw [h1.1] at h2
   simp only [List.length_append,List.length_cons] at h2
   show (bs (nm++40::commas (xs.take j))).size+1+(bs xj).size≤_
   rw [hq,hq,List.length_append,List.length_cons]
   omega
 ·show bs (nm++40::commas (xs.take xs.length))++bs [41]=_
  rw [List.take_length,bs_app]
  exact congrArg bs (by simp)
 ·show (bs (nm++40::commas (xs.take xs.length))).size≤_
  rw [List.take_length,hq,List.length_append,List.length_cons]
  omega
set_option maxRecDepth 100000 in
set_option maxHeartbeats 16000000 in
theorem rtextN_any {w:World} {P:Nat→Prop} {v:Value} {t0:T} (h:Nd w P v t0):∀ x d,W ink t0 x d→x.length≤100000000→∀ w1,Below w.heap.size w w1 →
  Calls Tryz.prog 87 #[v] w1 fun e w'=>e=.returned (.string (bs x))∧Below w1.heap.size w1 w':=by
 induction h with
 | @mk k n s r t p m c us ts hk hl hs ih =>
 intro x d hW hxl w1 hb1
 have HM:Hid (m=ts.length):=by show _=_;rw [hk.1,hl]
 have hB0:Below w1.heap.size w1 (w1.alloc (.cells (N12 k n s r t (.slice p m c)) 57)):=(Below.refl _ _).alloc (Nat.le_refl _) _
 have hbl:=heap_alloc_new w1 (.cells (N12 k n s r t (.slice p m c)) 57)
 cases hW with
 | num h0 h1 =>
  obtain⟨⟨a0,a1,-⟩,-⟩:=cells12 hbl
  have HD:Hid (∀ wx,Below w1.heap.size w1 wx→Calls Tryz.prog 118 #[.int .i64 n] wx fun e w'=>e=.returned (.string (bs (ink.num n)))∧Below w1.heap.size w1 w'):=fun wx hb=>(dg.digits_any n wx (by omega) h1).mono fun e w' ⟨e1,e2⟩=>⟨e1,bnext hb e2 hb.size⟩
  have HB:Hid (Below w1.heap.size w1 (w1.alloc (.cells (N12 1 n nul .z .z (.slice p m c)) 57))):=hB0
  clear hB0 hbl ih hk hl hs
  go_enter Tryz.func87,Tryz.ntmps87
  go_wp2_with (first | (go_at_call 118;refine (HD.out _ HB.out).mono ?_;rintro e w2 ⟨rfl,hb2⟩))
  go_ret
  exact⟨rfl,hb2⟩
 | text h =>
  obtain⟨⟨a0,-,a2,-⟩,-⟩:=cells12 hbl
  have HB:Hid (Below w1.heap.size w1 (w1.alloc (.cells #[.int .i64 2,.int .i64 0,.string s,.int .i64 0,.int .i64 0,.bool false,.bool false,.int .i64 0,.int .i64 0,.bool false,.bool false,.slice p m c] 57))∧w1.heap.size<(w1.alloc (.cells #[.int .i64 2,.int .i64 0,.string s,.int .i64 0,.int .i64 0,.bool false,.bool false,.int .i64 0,.int .i64 0,.bool false,.bool false,.slice p m c] 57)).heap.size):=⟨hB0,by simp⟩
  have HA2:Hid ((w1.alloc (.cells #[.int .i64 2,.int .i64 0,.string s,.int .i64 0,.int .i64 0,.bool false,.bool false,.int .i64 0,.int .i64 0,.bool false,.bool false,.slice p m c] 57)).cell? ⟨w1.heap.size,2,none⟩=some (.string s)):=a2
  have hs2:(s.size:Int)≤200:=by omega
  have HLn:Hid (s.toList.length=s.size):=fw.size_list s
  have HXX:Hid (34::(dbl s.data.toList++[34])=[34]++dbl s.toList++[34]):=by
   show _=_
   rw [ByteArray.toList_eq]
   rfl
  rw [HXX.out]
  clear hB0 hbl ih hk hl hs hxl HXX
  go_enter Tryz.func87,Tryz.ntmps87
  go_upto_region 5 with fail
  clear a0 a2
  generalize w1.alloc (.cells #[.int .i64 2,.int .i64 0,.string s,.int .i64 0,.int .i64 0,.bool false,.bool false,.int .i64 0,.int .i64 0,.bool false,.bool false,.slice p m c] 57)=W1 at *
  generalize hbz:w1.heap.size=B at *
  have HZ:Hid (w1.heap.size=B):=hbz
  clear hbz
  obtain⟨g0,k0,w2,hr0,hv0⟩:=(fw.BV.nil W1).one (by decide) 34
  have HR0:Hid ((Builtin.append_ #[155,155] 155 #[.slice none 0 0,.slice (some ⟨W1.heap.size,0,none⟩) 1 1]).run Tryz.prog (W1.alloc (.cells #[.int .u8 34] 5))=.ok (.slice (some ⟨g0,0,none⟩) 1 k0) w2):=hr0
  have HV0:Hid (fw.BV W1 (.slice (some ⟨g0,0,none⟩) 1 k0) ([34]++dbl []) w2):=hv0
  clear hr0 hv0
  go_upto_region 7 with (first | (at_builtin;refine fw.wpList_append_eq rfl _ _ 155 155 rfl _ _ _ _ rfl rfl HR0.out ?_))
  clear HR0
  go_upto_block 1 with fail
  go_cut [3] (fun s3 wx=>Hid (fw.BV W1 s3 ([34]++dbl s.toList) wx))
  case first =>
   go_wp2_with fail
   go_loopw [3,4] (fun s3 s4 wr=>∃ i:Nat,s4=.int .i64 (i:Int)∧i≤s.size∧Hid (fw.BV W1 s3 ([34]++dbl (s.toList.take i)) wr)) (fun _ s4 _=>s.size - (intOf s4).toNat)
   case atStart=>exact⟨0,rfl,Nat.zero_le _,HV0.out⟩
   case round =>
    obtain⟨i,rfl,hi,HV⟩:=hrel
    have hi0:(0:Int)≤(i:Int):=by omega
    have c2:wr.cell? ⟨B,2,none⟩=some (.string s):=(HV.out.below.cell (p:=⟨B,_,none⟩) HB.out.2).trans HA2.out
    by_cases hlt:i<s.size
    ·have hlt':(i:Int)<(s.size:Int):=by omega
     have hat:s.toList[i]?=some s[i]:=by
      rw [ByteArray.toList_eq,Array.getElem?_toList]
      exact Array.getElem?_eq_getElem hlt
     have HTK:Hid (s.toList.take (i+1)=s.toList.take i++[s[i]]):=by show _=_;rw [List.take_add_one,hat];rfl
     have hln:([34]++dbl (s.toList.take i)).length≤1000:=by
      have:=dbl_le (s.toList.take i)
      rw [List.length_append,List.length_singleton]
      rw [List.length_take] at this
      omega
     obtain⟨pv,cv,ev,-⟩:=HV.out.form
     subst ev
     by_cases hq0:s[i]=34
     ·have hq:(((s[i]).toNat:Int) == 34)=true:=by rw [hq0];rfl
      obtain⟨g3,k3,w3,hr3,hv3⟩:=HV.out.one (by omega) 34
      obtain⟨g4,k4,w4,hr4,hv4⟩:=hv3.one (by rw [List.length_append];simp only [List.length_singleton];omega) 34
      have c3:w3.cell? ⟨B,2,none⟩=some (.string s):=(hv3.below.cell (p:=⟨B,_,none⟩) HB.out.2).trans HA2.out
      have HR3:Hid ((Builtin.append_ #[155,155] 155 #[.slice pv ([34]++dbl (s.toList.take i)).length cv,.slice (some ⟨wr.heap.size,0,none⟩) 1 1]).run Tryz.prog (wr.alloc (.cells #[.int .u8 34] 5))=.ok (.slice (some ⟨g3,0,none⟩) (([34]++dbl (s.toList.take i)).length+1) k3) w3):=hr3
      have HR4:Hid ((Builtin.append_ #[155,155] 155 #[.slice (some ⟨g3,0,none⟩) (([34]++dbl (s.toList.take i)).length+1) k3,.slice (some ⟨w3.heap.size,0,none⟩) 1 1]).run Tryz.prog (w3.alloc (.cells #[.int .u8 34] 5))=.ok (.slice (some ⟨g4,0,none⟩) (([34]++dbl (s.toList.take i)).length+1+1) k4) w4):=by
       rw [List.length_append (bs:=[34])] at hr4
       exact hr4
      have HE:Hid (fw.BV W1 (.slice (some ⟨g4,0,none⟩) (([34]++dbl (s.toList.take i)).length+1+1) k4) ([34]++dbl (s.toList.take (i+1))) w4):=by
       show fw.BV _ _ _ _
       rw [HTK.out,dbl_snoc,if_pos hq0]
       rw [List.length_append (bs:=[34])] at hv4
       simpa [List.append_assoc] using hv4
      generalize ([34]++dbl (s.toList.take i)).length=nn at *
      clear hr3 hr4 hv3 hv4 hln hat HV
      go_upto_region 12 with (first | (at_builtin;refine fw.wpList_append_eq rfl _ _ 155 155 rfl _ _ _ _ rfl rfl HR3.out ?_))
      clear c2 HR3
      go_wp2_with (first | (at_builtin;refine fw.wpList_append_eq rfl _ _ 155 155 rfl _ _ _ _ rfl rfl HR4.out ?_))
      exact⟨⟨i+1,rfl,hlt,HE.out⟩,by simp [intOf];omega⟩
     ·have hq:(((s[i]).toNat:Int) == 34)=false:=by
       rw [beq_eq_false_iff_ne]
       intro e
       exact hq0 (UInt8.toNat_inj.1 (by show _=34;omega))
      obtain⟨g4,k4,w4,hr4,hv4⟩:=HV.out.one (by omega) s[i]
      have HR4:Hid ((Builtin.append_ #[155,155] 155 #[.slice pv ([34]++dbl (s.toList.take i)).length cv,.slice (some ⟨wr.heap.size,0,none⟩) 1 1]).run Tryz.prog (wr.alloc (.cells #[.int .u8 ((s[i]).toNat:Int)] 5))=.ok (.slice (some ⟨g4,0,none⟩) (([34]++dbl (s.toList.take i)).length+1) k4) w4):=hr4
      have HE:Hid (fw.BV W1 (.slice (some ⟨g4,0,none⟩) (([34]++dbl (s.toList.take i)).length+1) k4) ([34]++dbl (s.toList.take (i+1))) w4):=by
       show fw.BV _ _ _ _
       rw [HTK.out,dbl_snoc,if_neg hq0,← List.append_assoc]
       exact hv4
      generalize ([34]++dbl (s.toList.take i)).length=nn at *
      clear hr4 hv4 hln hat HV
      go_wp2_with (first | (at_builtin;refine fw.wpList_append_eq rfl _ _ 155 155 rfl _ _ _ _ rfl rfl HR4.out ?_))
      exact⟨⟨i+1,rfl,hlt,HE.out⟩,by simp [intOf];omega⟩
    ·have hlt':¬ (i:Int)<(s.size:Int):=by omega
     obtain rfl:i=s.size:=by omega
     have HE:Hid (fw.BV W1 u3 ([34]++dbl s.toList) wr):=by
      have:=HV.out
      rw [List.take_of_length_le (by rw [HLn.out];exact Nat.le_refl _)] at this
      exact this
     go_wp2_with fail
     go_meet
     case rel=>exact HE
  case rest =>
  have HE:=hcut
  clear hcut HV0
  apply_assumption
  obtain⟨g1,k1,w5,hr1,hv1⟩:=HE.out.one (by have:=dbl_le s.toList;rw [List.length_append,List.length_singleton];have:=HLn.out;omega) 34
  obtain⟨pv,cv,ev,-⟩:=HE.out.form
  subst ev
  have htx:=hv1.text (([34]++dbl s.toList).length+1) k1 (by rw [List.length_append (bs:=[34])];exact Nat.le_refl _)
  rw [List.take_of_length_le (by rw [List.length_append (bs:=[34])];exact Nat.le_refl _)] at htx
  have HR1:Hid _:=hr1
  have HB5:Hid (Below W1.heap.size W1 w5):=hv1.below
  clear hr1 hv1 HE
  generalize ([34]++dbl s.toList).length=nn at *
  go_wp2_with (first | (at_builtin;refine fw.wpList_append_eq rfl _ _ 155 155 rfl _ _ _ _ rfl rfl HR1.out ?_))
  go_ret
  exact⟨rfl,by rw [HZ.out];exact HB.out.1.trans (HB5.out.mono (Nat.le_of_lt HB.out.2))⟩
 | truth h =>
  obtain⟨⟨a0,a1,-⟩,-⟩:=cells12 hbl
  have HB:Hid (Below w1.heap.size w1 (w1.alloc (.cells (N12 3 n nul .z .z (.slice p m c)) 57))):=hB0
  have HT:Hid (∀ b wx,Below w1.heap.size w1 wx→Calls Tryz.prog 120 #[.bool b] wx fun e w'=>e=.returned (V3v 3 (if b=true then 1 else 0) nul)∧Below w1.heap.size w1 w'):=fun b wx hb=>(tru_any b wx).mono fun e w' ⟨e1,e2⟩=>⟨e1,bnext hb e2 hb.size⟩
  have HS:Hid (∀ wx,Below w1.heap.size w1 wx→Calls Tryz.prog 119 #[V3v 3 n nul] wx fun e w'=>e=.returned (.string (bs (truT n)))∧Below w1.heap.size w1 w'):=fun wx hb=>(showT_any n h wx).mono fun e w' ⟨e1,e2⟩=>⟨e1,bnext hb e2 hb.size⟩
  clear hB0 hbl ih hk hl hs
  rcases h with rfl | rfl
  all_goals
   go_enter Tryz.func87,Tryz.ntmps87
   go_wp2_with (first | (go_at_call 120;refine (HT.out _ _ HB.out).mono ?_;rintro e w2 ⟨rfl,hb2⟩) | (go_at_call 119;refine (HS.out _ hb2).mono ?_;rintro e w3 ⟨rfl,hb3⟩))
   go_ret
   exact⟨rfl,hb3⟩
 | @bad nb h h6 =>
  obtain⟨⟨a0,a1,-⟩,-⟩:=cells12 hbl
  have HB:Hid (Below w1.heap.size w1 (w1.alloc (.cells (N12 4 (nb:Int) nul .z .z (.slice p m c)) 57))):=hB0
  have HT:Hid (∀ wx,Below w1.heap.size w1 wx→Calls Tryz.prog 121 #[.int .i64 (nb:Int)] wx fun e w'=>e=.returned (V3v 4 (nb:Int) nul)∧Below w1.heap.size w1 w'):=fun wx hb=>(badV_any _ wx).mono fun e w' ⟨e1,e2⟩=>⟨e1,bnext hb e2 hb.size⟩
  have HS:Hid (∀ wx,Below w1.heap.size w1 wx→Calls Tryz.prog 119 #[V3v 4 (nb:Int) nul] wx fun e w'=>e=.returned (.string (bs (badT nb)))∧Below w1.heap.size w1 w'):=fun wx hb=>(showB_any nb h h6 wx).mono fun e w' ⟨e1,e2⟩=>⟨e1,bnext hb e2 hb.size⟩
  clear hB0 hbl ih hk hl hs
  go_enter Tryz.func87,Tryz.ntmps87
  go_wp2_with (first | (go_at_call 121;refine (HT.out _ HB.out).mono ?_;rintro e w2 ⟨rfl,hb2⟩) | (go_at_call 119;refine (HS.out _ hb2).mono ?_;rintro e w3 ⟨rfl,hb3⟩))
  go_ret
  exact⟨rfl,hb3⟩
 | ref h =>
  obtain⟨⟨a0,-,-,a3,a4,a5,a6,-⟩,-⟩:=cells12 hbl
  have HB:Hid (Below w1.heap.size w1 (w1.alloc (.cells (N12 5 0 nul r .z (.slice p m c)) 57))):=hB0
  have HR:Hid (∀ wx,Below w1.heap.size w1 wx→Calls Tryz.prog 122 #[.agg #[.int .i64 r.c,.int .i64 r.r,.bool r.fc,.bool r.fr]] wx fun e w'=>e=.returned (.string (bs (ink.ref r)))∧Below w1.heap.size w1 w'):=fun wx hb=>(refName_any r h wx).mono fun e w' ⟨e1,e2⟩=>⟨e1,bnext hb e2 hb.size⟩
  clear hB0 hbl ih hk hl hs
  go_enter Tryz.func87,Tryz.ntmps87
  go_wp2_with (first | (go_at_call 122;refine (HR.out _ HB.out).mono ?_;rintro e w2 ⟨rfl,hb2⟩))
  go_ret
  exact⟨rfl,hb2⟩
 | box h h2 =>
  have HRr:Hid (∀ wx,Calls Tryz.prog 122 #[.agg #[.int .i64 r.c,.int .i64 r.r,.bool r.fc,.bool r.fr]] wx fun e w'=>e=.returned (.string (bs (ink.ref r)))∧Below wx.heap.size wx w'):=fun wx=>refName_any r h wx
  have HRt:Hid (∀ wx,Calls Tryz.prog 122 #[.agg #[.int .i64 t.c,.int .i64 t.r,.bool t.fc,.bool t.fr]] wx fun e w'=>e=.returned (.string (bs (ink.ref t)))∧Below wx.heap.size wx w'):=fun wx=>refName_any t h2 wx
  have HOut:Hid (bs (ink.ref r++58::ink.ref t)=bs (ink.ref r)++⟨#[58]⟩++bs (ink.ref t)):=by
   show _=_
   rw [show (⟨#[58]⟩:ByteArray)=bs [58] from rfl,bs_app,bs_app]
   exact congrArg bs (by simp only [List.append_assoc,List.cons_append,List.nil_append])
  have hsz:(bs (ink.ref r)).size+(bs (ink.ref t)).size≤100000000:=by
   have h3:=hxl
   simp only [List.length_append,List.length_cons] at h3
   show (ink.ref r).length+(ink.ref t).length≤_
   omega
  have HB:Hid (Below w1.heap.size w1 (w1.alloc (.cells #[.int .i64 6,.int .i64 0,.string nul,.int .i64 r.c,.int .i64 r.r,.bool r.fc,.bool r.fr,.int .i64 t.c,.int .i64 t.r,.bool t.fc,.bool t.fr,.slice p m c] 57))∧(w1.alloc (.cells #[.int .i64 6,.int .i64 0,.string nul,.int .i64 r.c,.int .i64 r.r,.bool r.fc,.bool r.fr,.int .i64 t.c,.int .i64 t.r,.bool t.fc,.bool t.fr,.slice p m c] 57)).heap[w1.heap.size]?=some (.cells #[.int .i64 6,.int .i64 0,.string nul,.int .i64 r.c,.int .i64 r.r,.bool r.fc,.bool r.fr,.int .i64 t.c,.int .i64 t.r,.bool t.fc,.bool t.fr,.slice p m c] 57 (0,0))):=⟨hB0,hbl⟩
  clear hB0 hbl ih hk hl hs hxl h h2
  generalize bs (ink.ref r)=SR at *
  generalize bs (ink.ref t)=ST at *
  go_enter Tryz.func87,Tryz.ntmps87
  go_upto_region 1 with fail
  generalize w1.alloc (.cells #[.int .i64 6,.int .i64 0,.string nul,.int .i64 r.c,.int .i64 r.r,.bool r.fc,.bool r.fr,.int .i64 t.c,.int .i64 t.r,.bool t.fc,.bool t.fr,.slice p m c] 57)=W at *
  have HLe:Hid (w1.heap.size≤W.heap.size):=HB.out.1.size
  generalize hbz:w1.heap.size=B at *
  have HZ:Hid (w1.heap.size=B):=hbz
  clear hbz
  obtain⟨⟨a0,-⟩,-⟩:=cells12 HB.out.2
  go_upto_region 22 with fail
  clear a0
  have SOF:Hid (∀ wx,Below W.heap.size W wx→BXC W B r t wx):=fun wx hb=>by
   obtain⟨⟨-,-,-,q3,q4,q5,q6,q7,q8,q9,q10,-⟩,-⟩:=cells12 ((hb.block _ (lt_blk HB.out.2)).trans HB.out.2)
   exact⟨q3,q4,q5,q6,q7,q8,q9,q10,hb⟩
  have h0d:=SOF.out _ (Below.refl W.heap.size W).drew
  have hs1:SR.size≤9223372036854775806:=by omega
  have hs2:SR.size+1+ST.size≤9223372036854775807:=by omega
  have hs3:(decide (9223372036854775807<SR.size+1))=false:=decide_eq_false (by omega)
  have hs4:(9223372036854775807<SR.size+1)=False:=eq_false (by omega)
  have hs5:(9223372036854775807<SR.size+1+ST.size)=False:=eq_false (by omega)
  have hs6:(9223372036854775806<SR.size)=False:=eq_false (by omega)
  have hs7:(9223372036854775807≤SR.size)=False:=eq_false (by omega)
  go_cut [2] (fun s2 wx=>s2=.string (SR++⟨#[58]⟩++ST)∧Hid (Below W.heap.size W wx))
  case first =>
   go_region_held3 (fun wx=>BXC W B r t wx) (first | exact h0d | exact SOF.out _ (by assumption)) (first | (go_at_call 122;first | (with_reducible refine (HRr.out _).mono ?_;rintro e w5 ⟨rfl,hb5⟩;have hw5:=bnext (bxc_b (by assumption)) hb5 (bxc_b (by assumption)).size) | (with_reducible refine (HRt.out _).mono ?_;rintro e w6 ⟨rfl,hb6⟩;have hw6:=bnext (bxc_b (by assumption)) hb6 (bxc_b (by assumption)).size)))
   all_goals
    go_wp2_with fail
    go_meet
    case rel=>exact⟨rfl,by assumption⟩
  case rest =>
  obtain⟨rfl,HE⟩:=hcut
  apply_assumption
  go_wp2_with fail
  go_ret
  exact⟨by rw [HOut.out];rfl,by rw [HZ.out];exact bnext HB.out.1 HE.out HLe.out⟩
 | @neg a x1 d1 ha h =>
  obtain rfl:m=1:=HM.out
  obtain⟨g,o,u,t1,rfl,hg,hu,ht1,hc⟩:=kid_at hk hl hs 0 (by decide)
  have et:t1=a:=by simpa using ht1.symm
  subst et
  have hx1:x1.length≤100000000:=by
   unfold brk at hxl
   split at hxl<;>simp at hxl<;>omega
  have HI:Hid (∀ wx,Below w1.heap.size w1 wx→Calls Tryz.prog 87 #[u] wx fun e w'=>e=.returned (.string (bs x1))∧Below wx.heap.size wx w'):=fun wx hb=>ih 0 u t1 hu ht1 x1 d1 h hx1 wx (bnext hb1 hb hb1.size)
  have hN:=hs 0 u t1 hu ht1
  have HIn:Hid (∀ b wx,Calls Tryz.prog 123 #[.string (bs x1),.bool b] wx fun e w'=>e=.returned (.string (bs (if b=true then 40::(x1++[41]) else x1)))∧Below wx.heap.size wx w'):=fun b wx=>in_any x1 b wx hx1
  have HG:Hid (g<w1.heap.size):=Nat.lt_of_lt_of_le hg hb1.size
  cases hN with
  | @mk k1 n1 s1 ra rb p1 m1 q1 us1 ts1 _ _ _ =>
  have HKV:Hid (∀ wx,Below w1.heap.size w1 wx→_):=fun wx hb=>kid_val (i:=0) hg (bnext hb1 hb hb1.size) hc
  have HBK:Hid (∀ b:Bool,b=decide (k1=8)→(if b=true then 40::(x1++[41]) else x1)=brk 5 (.nd k1 n1 s1 ra rb ts1) x1):=fun b hb=>by
   refine loose_in ?_
   subst hb
   unfold loose
   have h1:decide (lev n1.toNat<5)=true:=decide_eq_true (by have:=lev_le n1.toNat;omega)
   show _=(decide (k1=8) && decide (lev n1.toNat<5))
   rw [h1,Bool.and_true]
  obtain⟨BX,hBX⟩:∃ BX,brk 5 (.nd k1 n1 s1 ra rb ts1) x1=BX:=⟨_,rfl⟩
  rw [hBX] at HBK hxl ⊢
  have hbxl:(bs BX).size≤100000000:=by simp at hxl;exact Nat.le_of_lt (by show BX.length<_;omega)
  have HB:Hid (Below w1.heap.size w1 (w1.alloc (.cells #[.int .i64 7,.int .i64 0,.string nul,.int .i64 0,.int .i64 0,.bool false,.bool false,.int .i64 0,.int .i64 0,.bool false,.bool false,.slice (some ⟨g,o,none⟩) 1 c] 57))∧(w1.alloc (.cells #[.int .i64 7,.int .i64 0,.string nul,.int .i64 0,.int .i64 0,.bool false,.bool false,.int .i64 0,.int .i64 0,.bool false,.bool false,.slice (some ⟨g,o,none⟩) 1 c] 57)).heap[w1.heap.size]?=some (.cells #[.int .i64 7,.int .i64 0,.string nul,.int .i64 0,.int .i64 0,.bool false,.bool false,.int .i64 0,.int .i64 0,.bool false,.bool false,.slice (some ⟨g,o,none⟩) 1 c] 57 (0,0))):=⟨hB0,hbl⟩
  have HOut:Hid ((⟨#[45]⟩:ByteArray)++bs BX=bs (45::BX)):=bs_app [45] BX
  have HIb:Hid (∀ b wx,b=decide (k1=8)→Calls Tryz.prog 123 #[.string (bs x1),.bool b] wx fun e w'=>e=.returned (.string (bs BX))∧Below wx.heap.size wx w'):=fun b wx hb=>by
   have h:=HIn.out b wx
   rw [HBK.out b hb] at h
   exact h
  have HSz:Hid ((bs BX).size≤100000000):=hbxl
  clear hbxl
  clear hB0 hbl ih hk hl hs hu ht1 hc hBX hxl
  go_enter Tryz.func87,Tryz.ntmps87
  go_upto_region 1 with fail
  generalize w1.alloc (.cells #[.int .i64 7,.int .i64 0,.string nul,.int .i64 0,.int .i64 0,.bool false,.bool false,.int .i64 0,.int .i64 0,.bool false,.bool false,.slice (some ⟨g,o,none⟩) 1 c] 57)=W at *
  have HLe:Hid (w1.heap.size≤W.heap.size):=HB.out.1.size
  obtain⟨a0,a1,a2,a11⟩:=blk_at HB.out.2 (Below.refl _ _)
  obtain⟨b0,b1,b2,b3,b4,b5,b6,b7,b8,b9,b10,b11⟩:=HKV.out W HB.out.1
  simp only [Nat.zero_mul,Nat.add_zero] at b0 b1 b2 b3 b4 b5 b6 b7 b8 b9 b10 b11
  go_upto_region 25 with (first | (go_at_call 87;refine (HI.out _ HB.out.1).mono ?_;rintro e w2 ⟨rfl,hb2⟩))
  have HB2:Hid (Below W.heap.size W w2):=hb2
  clear a0 a1 a2 a11 b0 b1 b2 b3 b4 b5 b6 b7 b8 b9 b10 b11 hb2 HI
  obtain⟨a0,a1,a2,a11⟩:=blk_at HB.out.2 HB2.out
  obtain⟨b0,-⟩:=HKV.out w2 (bnext HB.out.1 HB2.out HB.out.1.size)
  simp only [Nat.zero_mul,Nat.add_zero] at b0
  have hsz:=HSz.out
  have HO2:Hid (bs (45::BX)=⟨#[45]⟩++bs BX):=HOut.out.symm
  clear HIn HBK HOut HSz
  generalize bs BX=sx at *
  by_cases hk8:k1=8
  ·subst hk8
   have HI9:Hid (Calls Tryz.prog 123 #[.string (bs x1),.bool true] w2 fun e w'=>e=.returned (.string sx)∧Below w2.heap.size w2 w'):=HIb.out true w2 rfl
   clear HIb
   go_wp2_with (first | (go_at_call 123;refine HI9.out.mono ?_;rintro e w3 ⟨rfl,hb3⟩))
   go_ret
   exact⟨by rw [HO2.out];rfl,bnext (bnext HB.out.1 HB2.out HLe.out) hb3 (Nat.le_trans HLe.out HB2.out.size)⟩
  ·have hq:(k1 == 8)=false:=by rw [beq_eq_false_iff_ne];exact hk8
   have HI9:Hid (Calls Tryz.prog 123 #[.string (bs x1),.bool false] w2 fun e w'=>e=.returned (.string sx)∧Below w2.heap.size w2 w'):=HIb.out false w2 (by simp [hk8])
   clear HIb
   go_wp2_with (first | (go_at_call 123;refine HI9.out.mono ?_;rintro e w3 ⟨rfl,hb3⟩))
   go_ret
   exact⟨by rw [HO2.out];rfl,bnext (bnext HB.out.1 HB2.out HLe.out) hb3 (Nat.le_trans HLe.out HB2.out.size)⟩
 | @two op a b x1 x2 d1 d2 h1 h11 ha hb hx hy =>
  obtain rfl:m=2:=HM.out
  obtain⟨g,o,u,t1,rfl,hg,hu,ht1,hc⟩:=kid_at hk hl hs 0 (by decide)
  obtain⟨g',o',u',t2,e2,-,hu',ht2,hc'⟩:=kid_at hk hl hs 1 (by decide)
  injection e2 with e2
  injection e2 with e2 e3
  subst e2 e3
  have et:t1=a:=by simpa using ht1.symm
  subst et
  have et:t2=b:=by simpa using ht2.symm
  subst et
  have hlb:∀ (l:Nat) (t:T) (x:List UInt8),x.length≤(brk l t x).length:=fun l t x=>by
   unfold brk
   split
   ·simp only [List.length_cons,List.length_append];omega
   ·exact Nat.le_refl _
  have hxl':(brk (lev op) t1 x1).length+(opT op).length+(brk (lev op+1) t2 x2).length≤100000000:=by
   have h:=hxl
   simp only [List.length_append] at h
   omega
  have hx1:x1.length≤100000000:=by have:=hlb (lev op) t1 x1;omega
  have hx2:x2.length≤100000000:=by have:=hlb (lev op+1) t2 x2;omega
  have HI1:Hid (∀ wx,Below w1.heap.size w1 wx→Calls Tryz.prog 87 #[u] wx fun e w'=>e=.returned (.string (bs x1))∧Below wx.heap.size wx w'):=fun wx hb=>ih 0 u t1 hu ht1 x1 d1 hx hx1 wx (bnext hb1 hb hb1.size)
  have HI2:Hid (∀ wx,Below w1.heap.size w1 wx→Calls Tryz.prog 87 #[u'] wx fun e w'=>e=.returned (.string (bs x2))∧Below wx.heap.size wx w'):=fun wx hb=>ih 1 u' t2 hu' ht2 x2 d2 hy hx2 wx (bnext hb1 hb hb1.size)
  have hN:=hs 0 u t1 hu ht1
  have hN':=hs 1 u' t2 hu' ht2
  have h8:∀ {k:Int} {n:Int} {s:ByteArray} {r t:Rf} {ts:List T} {x:List UInt8} {d:Nat},W ink (.nd k n s r t ts) x d→k=8→∃ m:Nat,n=(m:Int)∧1≤m∧m≤11:=fun {k n s r t ts x d} h e=>by
   subst e
   cases h with
   | two q1 q2=>exact⟨_,rfl,q1,q2⟩
  cases hN with
  | @mk k1 n1 s1 ra rb p1 m1 q1 us1 ts1 _ _ _ =>
  cases hN' with
  | @mk k2 n2 s2 rc rd p2 m2 q2 us2 ts2 _ _ _ =>
  have HKV:Hid (∀ wx,Below w1.heap.size w1 wx→_):=fun wx hb=>kid_val (i:=0) hg (bnext hb1 hb hb1.size) hc
  have HKW:Hid (∀ wx,Below w1.heap.size w1 wx→_):=fun wx hb=>kid_val (i:=1) hg (bnext hb1 hb hb1.size) hc'
  have HT1:Hid (∀ wx,Calls Tryz.prog 124 #[NV k1 n1 s1 ra rb (.slice p1 m1 q1)] wx fun e w'=>e=.returned (.int .i64 (tgN k1 n1:Nat))∧Below wx.heap.size wx w'):=fun wx=>tightI_any k1 n1 s1 ra rb _ wx (h8 hx)
  have HT2:Hid (∀ wx,Calls Tryz.prog 124 #[NV k2 n2 s2 rc rd (.slice p2 m2 q2)] wx fun e w'=>e=.returned (.int .i64 (tgN k2 n2:Nat))∧Below wx.heap.size wx w'):=fun wx=>tightI_any k2 n2 s2 rc rd _ wx (h8 hy)
  have HTg:Hid (∀ wx,Calls Tryz.prog 112 #[.int .i64 (op:Nat)] wx fun e w'=>e=.returned (.int .i64 (lev op:Nat))∧Below wx.heap.size wx w'):=fun wx=>(tightO_any op h1 h11 wx).mono fun e w' ⟨q1,q2⟩=>⟨q1,by rw [q2];exact Below.refl _ _⟩
  have HSg:Hid (∀ wx,Calls Tryz.prog 125 #[.int .i64 (op:Nat)] wx fun e w'=>e=.returned (.string (bs (opT op)))∧Below wx.heap.size wx w'):=fun wx=>signText_any op h1 h11 wx
  have HIa:Hid (∀ b wx,b=decide (tgN k1 n1<lev op)→Calls Tryz.prog 123 #[.string (bs x1),.bool b] wx fun e w'=>e=.returned (.string (bs (brk (lev op) (.nd k1 n1 s1 ra rb ts1) x1)))∧Below wx.heap.size wx w'):=fun b wx hb=>by
   have h:=in_any x1 b wx hx1
   rw [loose_in (t:=.nd k1 n1 s1 ra rb ts1) (l:=lev op) (by rw [hb];exact tg_loose k1 n1 s1 ra rb ts1 (lev op) (by have:=lev_le op;omega))] at h
   exact h
  have HIb:Hid (∀ b wx,b=decide (tgN k2 n2≤lev op)→Calls Tryz.prog 123 #[.string (bs x2),.bool b] wx fun e w'=>e=.returned (.string (bs (brk (lev op+1) (.nd k2 n2 s2 rc rd ts2) x2)))∧Below wx.heap.size wx w'):=fun b wx hb=>by
   have h:=in_any x2 b wx hx2
   rw [loose_in (t:=.nd k2 n2 s2 rc rd ts2) (l:=lev op+1) (by
    rw [hb,← tg_loose k2 n2 s2 rc rd ts2 (lev op+1) (by have:=lev_le op;omega)]
    exact decide_eq_decide.2 (by omega))] at h
   exact h
  obtain⟨XA,hXA⟩:∃ X,brk (lev op) (.nd k1 n1 s1 ra rb ts1) x1=X:=⟨_,rfl⟩
  obtain⟨XB,hXB⟩:∃ X,brk (lev op+1) (.nd k2 n2 s2 rc rd ts2) x2=X:=⟨_,rfl⟩
  rw [hXA] at HIa hxl' ⊢
  rw [hXB] at HIb hxl' ⊢
  have HOut:Hid (bs XA++bs (opT op)++bs XB=bs (XA++opT op++XB)):=by show _=_;rw [bs_app,bs_app]
  have HSz:Hid ((bs XA).size+(bs (opT op)).size+(bs XB).size≤100000000):=hxl'
  have HB:Hid (Below w1.heap.size w1 (w1.alloc (.cells #[.int .i64 8,.int .i64 (op:Nat),.string nul,.int .i64 0,.int .i64 0,.bool false,.bool false,.int .i64 0,.int .i64 0,.bool false,.bool false,.slice (some ⟨g,o,none⟩) 2 c] 57))∧(w1.alloc (.cells #[.int .i64 8,.int .i64 (op:Nat),.string nul,.int .i64 0,.int .i64 0,.bool false,.bool false,.int .i64 0,.int .i64 0,.bool false,.bool false,.slice (some ⟨g,o,none⟩) 2 c] 57)).heap[w1.heap.size]?=some (.cells #[.int .i64 8,.int .i64 (op:Nat),.string nul,.int .i64 0,.int .i64 0,.bool false,.bool false,.int .i64 0,.int .i64 0,.bool false,.bool false,.slice (some ⟨g,o,none⟩) 2 c] 57 (0,0))):=⟨hB0,hbl⟩
  clear hB0 hbl ih hk hl hs hu ht1 hc hu' ht2 hc' hXA hXB hxl hxl' hlb h8
  go_enter Tryz.func87,Tryz.ntmps87
  go_upto_region 1 with fail
  generalize w1.alloc (.cells #[.int .i64 8,.int .i64 (op:Nat),.string nul,.int .i64 0,.int .i64 0,.bool false,.bool false,.int .i64 0,.int .i64 0,.bool false,.bool false,.slice (some ⟨g,o,none⟩) 2 c] 57)=W at *
  have HLe:Hid (w1.heap.size≤W.heap.size):=HB.out.1.size
  obtain⟨a0,a1,a2,a11⟩:=blk_at HB.out.2 (Below.refl _ _)
  obtain⟨b0,b1,b2,b3,b4,b5,b6,b7,b8,b9,b10,b11⟩:=HKV.out W HB.out.1
  simp only [Nat.zero_mul,Nat.add_zero] at b0 b1 b2 b3 b4 b5 b6 b7 b8 b9 b10 b11
  go_upto_region 28 with (first | (go_at_call 87;refine (HI1.out _ HB.out.1).mono ?_;rintro e w2 ⟨rfl,hb2⟩))
  have HB2:Hid (Below W.heap.size W w2):=hb2
  clear a0 a1 a2 a11 b0 b1 b2 b3 b4 b5 b6 b7 b8 b9 b10 b11 hb2 HI1
  obtain⟨a0,a1,a2,a11⟩:=blk_at HB.out.2 HB2.out
  obtain⟨b0,b1,b2,b3,b4,b5,b6,b7,b8,b9,b10,b11⟩:=HKW.out w2 (bnext HB.out.1 HB2.out HB.out.1.size)
  simp only [Nat.one_mul] at b0 b1 b2 b3 b4 b5 b6 b7 b8 b9 b10 b11
  go_upto_region 29 with (first | (go_at_call 87;refine (HI2.out _ (bnext HB.out.1 HB2.out HB.out.1.size)).mono ?_;rintro e w3 ⟨rfl,hb3⟩))
  have HB3:Hid (Below W.heap.size W w3):=bnext HB2.out hb3 HB2.out.size
  clear a0 a1 a2 a11 b0 b1 b2 b3 b4 b5 b6 b7 b8 b9 b10 b11 hb3 HI2 HB2
  obtain⟨a0,a1,a2,a11⟩:=blk_at HB.out.2 HB3.out
  go_upto_region 30 with (first | (go_at_call 112;refine (HTg.out _).mono ?_;rintro e w4 ⟨rfl,hb4⟩))
  have HB4:Hid (Below W.heap.size W w4):=bnext HB3.out hb4 HB3.out.size
  clear a0 a1 a2 a11 hb4 HB3 HTg
  obtain⟨a0,a1,a2,a11⟩:=blk_at HB.out.2 HB4.out
  obtain⟨b0,b1,b2,b3,b4,b5,b6,b7,b8,b9,b10,b11⟩:=HKV.out w4 (bnext HB.out.1 HB4.out HB.out.1.size)
  simp only [Nat.zero_mul,Nat.add_zero] at b0 b1 b2 b3 b4 b5 b6 b7 b8 b9 b10 b11
  have hsz:=HSz.out
  have HO2:Hid (bs (XA++opT op++XB)=bs XA++bs (opT op)++bs XB):=HOut.out.symm
  clear HSz HOut
  generalize bs XA=SA at *
  generalize bs XB=SB at *
  generalize bs (opT op)=SO at *
  generalize bs x1=S1 at *
  generalize bs x2=S2 at *
  go_upto_region 31 with (first | (go_at_call 124;refine (HT1.out _).mono ?_;rintro e w5 ⟨rfl,hb5⟩) | (go_at_call 123;refine (HIa.out _ _ rfl).mono ?_;rintro e w6 ⟨rfl,hb6⟩))
  have HB6:Hid (Below W.heap.size W w6):=bnext (bnext HB4.out hb5 HB4.out.size) hb6 (Nat.le_trans HB4.out.size hb5.size)
  clear a0 a1 a2 a11 b0 b1 b2 b3 b4 b5 b6 b7 b8 b9 b10 b11 hb5 hb6 HB4 HT1 HIa
  obtain⟨a0,a1,a2,a11⟩:=blk_at HB.out.2 HB6.out
  obtain⟨b0,b1,b2,b3,b4,b5,b6,b7,b8,b9,b10,b11⟩:=HKW.out w6 (bnext HB.out.1 HB6.out HB.out.1.size)
  simp only [Nat.one_mul] at b0 b1 b2 b3 b4 b5 b6 b7 b8 b9 b10 b11
  go_upto_region 32 with (first | (go_at_call 124;refine (HT2.out _).mono ?_;rintro e w7 ⟨rfl,hb7⟩) | (go_at_call 123;refine (HIb.out _ _ rfl).mono ?_;rintro e w8 ⟨rfl,hb8⟩))
  have HB8:Hid (Below W.heap.size W w8):=bnext (bnext HB6.out hb7 HB6.out.size) hb8 (Nat.le_trans HB6.out.size hb7.size)
  clear a0 a1 a2 a11 b0 b1 b2 b3 b4 b5 b6 b7 b8 b9 b10 b11 hb7 hb8 HB6 HT2 HIb
  obtain⟨a0,a1,a2,a11⟩:=blk_at HB.out.2 HB8.out
  go_wp2_with (first | (go_at_call 125;refine (HSg.out _).mono ?_;rintro e w9 ⟨rfl,hb9⟩))
  go_ret
  exact⟨by rw [HO2.out];rfl,bnext (bnext HB.out.1 HB8.out HLe.out) hb9 (Nat.le_trans HLe.out HB8.out.size)⟩
 | @call nm0 ts0 xs ds hn hx hd h =>
  have hxl':s.data.toList.length+(commas xs).length+2≤100000000:=by
   have h3:=hxl
   simp only [List.length_append,List.length_cons,List.length_nil] at h3
   omega
  have hm8:m≤100000001:=by
   have:=commasN_len xs
   have e:=HM.out
   omega
  have hex:m=xs.length:=by have e:=HM.out;omega
  obtain⟨Z,z0,z1,zs,ze,zz⟩:=call_parts s.data.toList xs hxl'
  have HZ0:Hid (Z 0=s++⟨#[40]⟩):=z0
  have HZ1:Hid (∀ xj,xs[0]?=some xj→Z 1=Z 0++bs xj∧(Z 0).size+1+(bs xj).size≤100000000):=z1
  have HZs:Hid (∀ (j:Nat) xj,j≠0→xs[j]?=some xj→Z (j+1)=Z j++⟨#[44]⟩++bs xj∧(Z j).size+1+(bs xj).size≤100000000):=zs
  have HZe:Hid (Z m++⟨#[41]⟩=bs (s.data.toList++40::(commas xs++[41]))∧(Z m).size≤100000000):=by rw [hex];exact⟨ze,zz⟩
  have hsn:s.size≤100000000:=by have e:s.data.toList.length=s.size:=Array.length_toList;omega
  have HX:Hid (m=xs.length):=hex
  have HK:Hid (Kids w P p m c us):=hk
  have HL:Hid (us.length=ts.length):=hl
  have HS:Hid (∀ (i:Nat) u t',us[i]?=some u→ts[i]?=some t'→Nd w P u t'):=hs
  have HI:Hid (∀ (j:Nat) u t' x,us[j]?=some u→ts[j]?=some t'→xs[j]?=some x→∀ wx,Below w1.heap.size w1 wx→Calls Tryz.prog 87 #[u] wx fun e w'=>e=.returned (.string (bs x))∧Below wx.heap.size wx w'):=fun j u t' x hu ht hxj wx hb=>by
   have hjl:=(List.getElem?_eq_some_iff.1 hxj).1
   obtain⟨dj,hdj⟩:∃ dj,ds[j]?=some dj:=⟨_,List.getElem?_eq_getElem (by omega)⟩
   have hle:x.length≤(commas xs).length:=by
    have h1:=commas_take hxj
    have h2:=h1.2
    rw [h1.1] at h2
    split at h2
    ·exact h2
    ·simp only [List.length_append,List.length_cons] at h2;omega
   exact ih j u t' hu ht x dj (h j t' x dj ht hxj hdj) (by omega) wx (bnext hb1 hb hb1.size)
  have HB:Hid (Below w1.heap.size w1 (w1.alloc (.cells #[.int .i64 9,.int .i64 0,.string s,.int .i64 0,.int .i64 0,.bool false,.bool false,.int .i64 0,.int .i64 0,.bool false,.bool false,.slice p m c] 57))∧(w1.alloc (.cells #[.int .i64 9,.int .i64 0,.string s,.int .i64 0,.int .i64 0,.bool false,.bool false,.int .i64 0,.int .i64 0,.bool false,.bool false,.slice p m c] 57)).heap[w1.heap.size]?=some (.cells #[.int .i64 9,.int .i64 0,.string s,.int .i64 0,.int .i64 0,.bool false,.bool false,.int .i64 0,.int .i64 0,.bool false,.bool false,.slice p m c] 57 (0,0))):=⟨hB0,hbl⟩
  clear hB0 hbl ih hk hl hs hxl hxl' hex z0 z1 zs ze zz hn hx hd h
  go_enter Tryz.func87,Tryz.ntmps87
  go_upto_region 1 with fail
  generalize w1.alloc (.cells #[.int .i64 9,.int .i64 0,.string s,.int .i64 0,.int .i64 0,.bool false,.bool false,.int .i64 0,.int .i64 0,.bool false,.bool false,.slice p m c] 57)=W at *
  have HLe:Hid (w1.heap.size≤W.heap.size):=HB.out.1.size
  obtain⟨a0,a1,a2,a11⟩:=blk_at HB.out.2 (Below.refl _ _)
  go_wp2_with fail
  go_loopw [11,12] (fun s11 s12 wr=>∃ j:Nat,s12=.int .i64 (j:Int)∧j≤m∧s11=.string (Z j)∧Hid (Below W.heap.size W wr)) (fun _ s12 _=>m - (intOf s12).toNat)
  case atStart=>exact⟨0,rfl,Nat.zero_le _,by rw [HZ0.out],Below.refl _ _⟩
  case round =>
   obtain⟨j,rfl,hj,rfl,HR⟩:=hrel
   have hj0:(0:Int)≤(j:Int):=by omega
   clear a0 a1 a2 a11
   obtain⟨-,-,-,a11⟩:=blk_at HB.out.2 HR.out
   by_cases hlt:j<m
   ·have hlt':(j:Int)<(m:Int):=by omega
    obtain⟨g,o,u,t1,rfl,hg,hu,ht1,hc⟩:=kid_at HK.out HL.out HS.out j hlt
    obtain⟨xj,hxj⟩:∃ xj,xs[j]?=some xj:=⟨_,List.getElem?_eq_getElem (by have:=HX.out;omega)⟩
    have HIj:Hid (∀ wx,Below w1.heap.size w1 wx→Calls Tryz.prog 87 #[u] wx fun e w'=>e=.returned (.string (bs xj))∧Below wx.heap.size wx w'):=HI.out j u t1 xj hu ht1 hxj
    have hN:=HS.out j u t1 hu ht1
    have HXj:Hid (xs[j]?=some xj):=hxj
    have HBr:Hid (Below w1.heap.size w1 wr):=bnext HB.out.1 HR.out HLe.out
    clear hxj hu ht1
    cases hN with
    | @mk k1 n1 s1 ra rb p1 m1 q1 us1 ts1 _ _ _ =>
    obtain⟨b0,b1,b2,b3,b4,b5,b6,b7,b8,b9,b10,b11⟩:=kid_val (i:=j) hg (bnext hb1 HBr.out hb1.size) hc
    clear hc
    by_cases hz:j=0
    ·subst hz
     simp only [Nat.zero_mul,Nat.add_zero] at b0 b1 b2 b3 b4 b5 b6 b7 b8 b9 b10 b11
     have hsz:=(HZ1.out xj HXj.out).2
     have HE:Hid (Z (0+1)=Z 0++bs xj):=(HZ1.out xj HXj.out).1
     go_wp2_with (first | (go_at_call 87;refine (HIj.out _ HBr.out).mono ?_;rintro e w3 ⟨rfl,hb3⟩))
     exact⟨⟨0+1,rfl,hlt,by rw [HE.out],bnext HR.out hb3 HR.out.size⟩,by simp [intOf];omega⟩
    ·have hp:(j:Int) > 0:=by omega
     have hsz:=(HZs.out j xj hz HXj.out).2
     have HE:Hid (Z (j+1)=Z j++⟨#[44]⟩++bs xj):=(HZs.out j xj hz HXj.out).1
     clear hz
     generalize bs xj=sj at *
     go_wp2_with (first | (go_at_call 87;refine (HIj.out _ HBr.out).mono ?_;rintro e w3 ⟨rfl,hb3⟩))
     exact⟨⟨j+1,rfl,hlt,by rw [HE.out],bnext HR.out hb3 HR.out.size⟩,by simp [intOf];omega⟩
   ·have hlt':¬ (j:Int)<(m:Int):=by omega
    obtain rfl:j=m:=by omega
    have hsz:=HZe.out.2
    go_wp2_with fail
    go_ret
    exact⟨by rw [← HZe.out.1];rfl,bnext HB.out.1 HR.out HLe.out⟩
end Go.Proofs.YtgifkepklnhddaaGreatDoor.fm
namespace Go.Proofs.YtgifkepklnhddaaGreatDoor.fm
open Go.RowKit
theorem cntL_take:∀ (ts:List T) (j:Nat),cntL (ts.take j)≤cntL ts
 | [],j=>by simp
 | u::ts,0=>Nat.zero_le _
 | u::ts,j+1=>by
  have:=cntL_take ts j
  show u.cnt+cntL (ts.take j)≤u.cnt+cntL ts
  omega
theorem cnt_parts (ts:List T):∃ Z:Nat→Nat,Z 0=1∧(∀ (j:Nat) t,ts[j]?=some t→Z (j+1)=Z j+t.cnt)∧(∀ j,Z j≤cntL ts+1)∧Z ts.length=cntL ts+1:=by
 refine⟨fun j=>cntL (ts.take j)+1,rfl,fun j t h=>?_,fun j=>?_,?_⟩
 ·show cntL (ts.take (j+1))+1=cntL (ts.take j)+1+t.cnt
  rw [List.take_add_one,h]
  show cntL (ts.take j++[t])+1=_
  rw [cntL_app]
  show cntL (ts.take j)+(t.cnt+0)+1=_
  omega
 ·have:=cntL_take ts j
  show cntL (ts.take j)+1≤_
  omega
 ·show cntL (ts.take ts.length)+1=_
  rw [List.take_length]
set_option maxRecDepth 100000 in
set_option maxHeartbeats 8000000 in
theorem rcount_any {w:World} {P:Nat→Prop} {v:Value} {t0:T} (h:Nd w P v t0):∀ left:Nat,t0.cnt≤left→left≤1000000→∀ w1,Below w.heap.size w w1 →
  Calls Tryz.prog 85 #[v,.int .i64 (left:Int)] w1 fun e w'=>e=.returned (.int .i64 (t0.cnt:Int))∧Below w1.heap.size w1 w':=by
 induction h with
 | @mk k n s r t p m c us ts hk hl hs ih =>
 intro left hle hlL w1 hb1
 have hB0:Below w1.heap.size w1 (w1.alloc (.cells (N12 k n s r t (.slice p m c)) 57)):=(Below.refl _ _).alloc (Nat.le_refl _) _
 have hbl:=heap_alloc_new w1 (.cells (N12 k n s r t (.slice p m c)) 57)
 rw [cnt_eq] at hle ⊢
 obtain⟨Z,z0,zs,zl,ze⟩:=cnt_parts ts
 have hex:m=ts.length:=by rw [hk.1,hl]
 have hmL:m≤1000000:=by have:=cntL_len ts;omega
 have HZ0:Hid (Z 0=1):=z0
 have HZs:Hid (∀ (j:Nat) t,ts[j]?=some t→Z (j+1)=Z j+t.cnt):=zs
 have HZl:Hid (∀ j,Z j≤left):=fun j=>Nat.le_trans (zl j) hle
 have HZe:Hid (Z m=cntL ts+1):=by rw [hex];exact ze
 have HX:Hid (m=ts.length):=hex
 have HK:Hid (Kids w P p m c us):=hk
 have HL:Hid (us.length=ts.length):=hl
 have HS:Hid (∀ (i:Nat) u t',us[i]?=some u→ts[i]?=some t'→Nd w P u t'):=hs
 have HI:Hid (∀ (j:Nat) u t',us[j]?=some u→ts[j]?=some t'→∀ wx,Below w1.heap.size w1 wx→Calls Tryz.prog 85 #[u,.int .i64 ((left:Int) - (Z j:Int))] wx fun e w'=>e=.returned (.int .i64 (t'.cnt:Int))∧Below wx.heap.size wx w'):=fun j u t' hu ht wx hb=>by
  have h1:=zs j t' ht
  have h2:=zl (j+1)
  rw [← Int.ofNat_sub (by omega)]
  exact ih j u t' hu ht (left - Z j) (by omega) (by omega) wx (bnext hb1 hb hb1.size)
 have hl0:¬ (left:Int)≤0:=by omega
 have HB:Hid (Below w1.heap.size w1 (w1.alloc (.cells #[.int .i64 k,.int .i64 n,.string s,.int .i64 r.c,.int .i64 r.r,.bool r.fc,.bool r.fr,.int .i64 t.c,.int .i64 t.r,.bool t.fc,.bool t.fr,.slice p m c] 57))∧(w1.alloc (.cells #[.int .i64 k,.int .i64 n,.string s,.int .i64 r.c,.int .i64 r.r,.bool r.fc,.bool r.fr,.int .i64 t.c,.int .i64 t.r,.bool t.fc,.bool t.fr,.slice p m c] 57)).heap[w1.heap.size]?=some (.cells #[.int .i64 k,.int .i64 n,.string s,.int .i64 r.c,.int .i64 r.r,.bool r.fc,.bool r.fr,.int .i64 t.c,.int .i64 t.r,.bool t.fc,.bool t.fr,.slice p m c] 57 (0,0))):=⟨hB0,hbl⟩
 clear hB0 hbl ih hk hl hs hex z0 zs zl ze
 go_enter Tryz.func85,Tryz.ntmps85
 go_upto_region 1 with fail
 generalize w1.alloc (.cells #[.int .i64 k,.int .i64 n,.string s,.int .i64 r.c,.int .i64 r.r,.bool r.fc,.bool r.fr,.int .i64 t.c,.int .i64 t.r,.bool t.fc,.bool t.fr,.slice p m c] 57)=W at *
 have HLe:Hid (w1.heap.size≤W.heap.size):=HB.out.1.size
 go_wp2_with fail
 go_loopw [5,6] (fun s5 s6 wr=>∃ j:Nat,s6=.int .i64 (j:Int)∧j≤m∧s5=.int .i64 (Z j:Int)∧Hid (Below W.heap.size W wr)) (fun _ s6 _=>m - (intOf s6).toNat)
 case atStart=>exact⟨0,rfl,Nat.zero_le _,by rw [HZ0.out];rfl,Below.refl _ _⟩
 case round =>
  obtain⟨j,rfl,hj,rfl,HR⟩:=hrel
  have hj0:(0:Int)≤(j:Int):=by omega
  have hzl:(Z j:Int)≤(left:Int):=by have:=HZl.out j;omega
  have hz0:(0:Int)≤(Z j:Int):=by omega
  obtain⟨-,-,-,a11⟩:=blk_at HB.out.2 HR.out
  by_cases hlt:j<m
  ·have hlt':(j:Int)<(m:Int):=by omega
   obtain⟨g,o,u,t1,rfl,hg,hu,ht1,hc⟩:=kid_at HK.out HL.out HS.out j hlt
   have HIj:=HI.out j u t1 hu ht1
   have hN:=HS.out j u t1 hu ht1
   have HBr:Hid (Below w1.heap.size w1 wr):=bnext HB.out.1 HR.out HLe.out
   have hzn:(Z j:Int)+(t1.cnt:Int)≤1000000:=by have:=HZs.out j t1 ht1;have:=HZl.out (j+1);omega
   have hc0:(0:Int)≤(t1.cnt:Int):=by omega
   have HE:Hid (((Z (j+1):Nat):Int)=(Z j:Int)+(t1.cnt:Int)):=by have:=HZs.out j t1 ht1;show _=_;omega
   clear hu ht1
   cases hN with
   | @mk k1 n1 s1 ra rb p1 m1 q1 us1 ts1 _ _ _ =>
   obtain⟨b0,b1,b2,b3,b4,b5,b6,b7,b8,b9,b10,b11⟩:=kid_val (i:=j) hg (bnext hb1 HBr.out hb1.size) hc
   clear hc
   have HIk:Hid (∀ wx,Below w1.heap.size w1 wx→Calls Tryz.prog 85 #[NV k1 n1 s1 ra rb (.slice p1 m1 q1),.int .i64 ((left:Int) - (Z j:Int))] wx fun e w'=>e=.returned (.int .i64 ((T.nd k1 n1 s1 ra rb ts1).cnt:Int))∧Below wx.heap.size wx w'):=HIj
   clear HIj
   generalize (T.nd k1 n1 s1 ra rb ts1).cnt=cc at *
   go_wp2_with (first | (go_at_call 85;refine (HIk.out _ HBr.out).mono ?_;rintro e w3 ⟨rfl,hb3⟩))
   exact⟨⟨j+1,rfl,hlt,by rw [HE.out],bnext HR.out hb3 HR.out.size⟩,by simp [intOf];omega⟩
  ·have hlt':¬ (j:Int)<(m:Int):=by omega
   obtain rfl:j=m:=by omega
   have HZz:Hid ((Z j:Int)=(cntL ts:Int)+1):=by have:=HZe.out;show _=_;omega
   go_wp2_with fail
   go_ret
   exact⟨congrArg (fun z:Int=>Ending.returned (.int .i64 z)) HZz.out,bnext HB.out.1 HR.out HLe.out⟩
end Go.Proofs.YtgifkepklnhddaaGreatDoor.fm

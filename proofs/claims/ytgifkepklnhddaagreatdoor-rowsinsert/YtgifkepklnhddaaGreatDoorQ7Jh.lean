import Derived.Test.YtgifkepklnhddaaGreatDoorQ7Jd
import Derived.Test.YtgifkepklnhddaaGreatDoorQ7Read
import Derived.Deep.QuietTactic
import Derived.BigQuiet
namespace Go.Proofs.YtgifkepklnhddaaGreatDoor.fm
open Go.RowKit
set_option maxRecDepth 100000 in
set_option maxHeartbeats 8000000 in
theorem rone_text (pb k d:Nat) (wr:Int) (s:ByteArray) (hs:s.size≤200) (w:World) (h:PD w pb s k wr 0 d) (hk:k≤s.size) (t:Tk) (ht:tkR s k=t) (hc:t.kind=2) :
  Calls Tryz.prog 110 #[ptr pb] w (OutR w pb s d wr (.ok (tText t.t) t.e)):=by
 have hte:t.e≤s.size:=ht ▸ (tk_spec s k hk).2.2
 have HT:Hid (∀ w,Calls Tryz.prog 81 #[.string s,.int .i64 k] w fun e w'=>e=.returned (KV (tkR s k).kind ((tkR s k).a:Nat) ((tkR s k).e:Nat) (tkR s k).t)∧Below w.heap.size w w'):=fun w=>token_at s k w hs hk
 rw [ht] at HT
 clear ht
 have HHC:Hid (t.kind=2):=hc
 clear hc
 go_enter Tryz.func110,Tryz.ntmps110
 go_upto_region 1 with fail
 have h0:PD (w.alloc (.cells NZ 57)) pb s k wr 0 d:=h.below ((Below.refl _ _).alloc (Nat.le_refl _) _)
 have hr:(w.alloc (.cells NZ 57)).heap[w.heap.size]?=some (.cells NZ 57 (0,0)):=blk_new _ _
 have hK0:Kp (·=pb) w (w.alloc (.cells NZ 57)):=(Kp.refl _ w).alloc _
 have hlt:=h.lt
 have hrl:w.heap.size<(w.alloc (.cells NZ 57)).heap.size:=by simp
 obtain⟨rb,hrb⟩:∃ rb,w.heap.size=rb:=⟨_,rfl⟩
 rw [hrb] at hr hrl hlt ⊢
 have HRB:Hid (w.heap.size=rb):=hrb
 clear hrb
 generalize w.alloc (.cells NZ 57)=w0 at *
 obtain⟨⟨c0,c1,c2,c3,c4⟩,f0,f1,f2,f3,f4⟩:=h0.cells
 have hrp:rb≠pb:=by omega
 go_cut [3] (fun s3 wx=>∃ kb,s3=ptr kb∧KS w0 t kb wx)
 case first =>
  have hlt0:=h0.lt
  have hne:w0.heap.size≠pb:=by omega
  have hne':pb≠w0.heap.size:=by omega
  have KK:Hid (∀ wx,Below w0.heap.size w0 wx→wx.cell? ⟨pb,0,none⟩=some (.string s)∧wx.cell? ⟨pb,1,none⟩=some (.int .i64 k)):=fun wx hb=>⟨(hb.cell (p:=⟨pb,0,none⟩) hlt0).trans c0,(hb.cell (p:=⟨pb,1,none⟩) hlt0).trans c1⟩
  clear c0 c1 c2 c3 c4 f0 f1 f2 f3 f4
  go_region_held3 (fun wx=>wx.cell? ⟨pb,0,none⟩=some (.string s)∧wx.cell? ⟨pb,1,none⟩=some (.int .i64 k)) (exact KK.out _ (by (repeat (first | exact Below.refl _ _ | assumption | (refine Below.setCell ?_ (by first | exact Nat.le_refl _ | omega) _) | (refine Below.alloc ?_ (by first | exact Nat.le_refl _ | exact hb'.size | omega | (simp<;>omega)) _) | (refine Below.drew ?_))))) ((go_at_call 81;refine (HT.out _).mono ?_;rintro e w1 ⟨rfl,hb⟩;have hb':Below w0.heap.size w0 w1:=(by first | exact kb1 hb | exact kb2 hb);first | (have hz:=kz_a hb;have hz4:=cells4f hz;obtain⟨⟨z0,z1,z2,z3⟩,y0,y1,y2,y3⟩:=hz4) | skip))
  all_goals
   go_wp2_with fail
   go_meet
   case rel=>first | exact⟨_,rfl,ks3 hb⟩ | exact ks2 hb (Q:=fun W=>∃ kb,_=ptr kb∧KS w0 t kb W) (fun w2 h2=>⟨_,rfl,h2⟩)
 case rest =>
 obtain⟨kb,rfl,hS⟩:=hcut
 clear c0 c1 c2 c3 c4 f0 f1 f2 f3 f4 HT
 have hlo:=hS.lo
 have hne:kb≠pb:=by have:=h0.lt;omega
 have hner:kb≠rb:=by omega
 have hP:PD wc pb s k wr 0 d:=h0.below hS.below
 obtain⟨⟨c0,c1,c2,c3,c4⟩,f0,f1,f2,f3,f4⟩:=hP.cells
 obtain⟨⟨z0,z1,z2,z3⟩,y0,y1,y2,y3⟩:=cells4f hS.blk
 have hKx:Kp (·=pb) w wc:=hK0.below hS.below
 have hrc:wc.heap[rb]?=some (.cells NZ 57 (0,0)):=by rw [hS.below.block rb hrl];exact hr
 have hPe:=hP.setAt t.e
 have hKe:Kp (·=pb) wc (wc.setCell ⟨pb,1,none⟩ (.int .i64 t.e)):=kpset _ _ _ _
 have hrce:=hKe.blk hrc hrp
 have hkbe:=hKe.blk hS.blk hne
 have hKw:=hKx.trans hKe (fun n e=>.inl e)
 rw [HHC.out] at z0
 obtain⟨⟨d0,d1,d2,d3,d4,d5,d6,d7,d8,d9,d10,d11⟩,df⟩:=cells12 hrc
 go_wp2_with fail
 clear c0 c1 c2 c3 c4 f0 f1 f2 f3 f4 z0 z1 z2 z3 y0 y1 y2 y3 d0 d1 d2 d3 d4 d5 d6 d7 d8 d9 d10 d11 df
 refine fin12 hrce (Q:=bodyPost _ _ _ _ _) ?_
 intro w9 hq9 hk9
 obtain⟨⟨b0,b1,b2,b3,b4,b5,b6,b7,b8,b9,b10,b11⟩,bf⟩:=cells12 hq9
 refine bodyPost_ret (v:=NV 2 0 t.t .z .z (.slice none 0 0)) (by simp [results,Tryz.results110,go_sem,b0,b1,b2,b3,b4,b5,b6,b7,b8,b9,b10,b11]) rfl ?_
 have hP9:=hPe.keep hk9 (fun e=>hrp e.symm)
 have hK9:=hKw.trans hk9 (fun n e=>by right;rw [HRB.out,e];exact Nat.le_refl _)
 exact⟨_,t.e,rfl,Nd.leaf,hP9,hte,rfl,hK9⟩
end Go.Proofs.YtgifkepklnhddaaGreatDoor.fm
namespace Go.Proofs.YtgifkepklnhddaaGreatDoor.fm
open Go.RowKit
set_option maxRecDepth 100000 in
set_option maxHeartbeats 8000000 in
theorem rone_no (pb k d:Nat) (wr:Int) (s:ByteArray) (hs:s.size≤200) (w:World) (h:PD w pb s k wr 0 d) (hk:k≤s.size) (t:Tk) (ht:tkR s k=t) (h1:t.kind≠1) (h2:t.kind≠2) (h3:t.kind≠3) (h4:t.kind≠4) :
  Calls Tryz.prog 110 #[ptr pb] w (OutR w pb s d wr (.err t.a 2)):=by
 have hte:t.e≤s.size:=ht ▸ (tk_spec s k hk).2.2
 have HT:Hid (∀ w,Calls Tryz.prog 81 #[.string s,.int .i64 k] w fun e w'=>e=.returned (KV (tkR s k).kind ((tkR s k).a:Nat) ((tkR s k).e:Nat) (tkR s k).t)∧Below w.heap.size w w'):=fun w=>token_at s k w hs hk
 rw [ht] at HT
 clear ht
 have g1:(t.kind == 1)=false:=beq_eq_false_iff_ne.2 h1
 have g2:(t.kind == 2)=false:=beq_eq_false_iff_ne.2 h2
 have g3:(t.kind == 3)=false:=beq_eq_false_iff_ne.2 h3
 have g4:(t.kind == 4)=false:=beq_eq_false_iff_ne.2 h4
 clear h1 h2 h3 h4
 go_enter Tryz.func110,Tryz.ntmps110
 go_upto_region 1 with fail
 have h0:PD (w.alloc (.cells NZ 57)) pb s k wr 0 d:=h.below ((Below.refl _ _).alloc (Nat.le_refl _) _)
 have hr:(w.alloc (.cells NZ 57)).heap[w.heap.size]?=some (.cells NZ 57 (0,0)):=blk_new _ _
 have hK0:Kp (·=pb) w (w.alloc (.cells NZ 57)):=(Kp.refl _ w).alloc _
 have hlt:=h.lt
 have hrl:w.heap.size<(w.alloc (.cells NZ 57)).heap.size:=by simp
 obtain⟨rb,hrb⟩:∃ rb,w.heap.size=rb:=⟨_,rfl⟩
 rw [hrb] at hr hrl hlt ⊢
 have HRB:Hid (w.heap.size=rb):=hrb
 clear hrb
 generalize w.alloc (.cells NZ 57)=w0 at *
 obtain⟨⟨c0,c1,c2,c3,c4⟩,f0,f1,f2,f3,f4⟩:=h0.cells
 have hrp:rb≠pb:=by omega
 go_cut [3] (fun s3 wx=>∃ kb,s3=ptr kb∧KS w0 t kb wx)
 case first =>
  have hlt0:=h0.lt
  have hne:w0.heap.size≠pb:=by omega
  have hne':pb≠w0.heap.size:=by omega
  have KK:Hid (∀ wx,Below w0.heap.size w0 wx→wx.cell? ⟨pb,0,none⟩=some (.string s)∧wx.cell? ⟨pb,1,none⟩=some (.int .i64 k)):=fun wx hb=>⟨(hb.cell (p:=⟨pb,0,none⟩) hlt0).trans c0,(hb.cell (p:=⟨pb,1,none⟩) hlt0).trans c1⟩
  clear c0 c1 c2 c3 c4 f0 f1 f2 f3 f4
  go_region_held3 (fun wx=>wx.cell? ⟨pb,0,none⟩=some (.string s)∧wx.cell? ⟨pb,1,none⟩=some (.int .i64 k)) (exact KK.out _ (by (repeat (first | exact Below.refl _ _ | assumption | (refine Below.setCell ?_ (by first | exact Nat.le_refl _ | omega) _) | (refine Below.alloc ?_ (by first | exact Nat.le_refl _ | exact hb'.size | omega | (simp<;>omega)) _) | (refine Below.drew ?_))))) ((go_at_call 81;refine (HT.out _).mono ?_;rintro e w1 ⟨rfl,hb⟩;have hb':Below w0.heap.size w0 w1:=(by first | exact kb1 hb | exact kb2 hb);first | (have hz:=kz_a hb;have hz4:=cells4f hz;obtain⟨⟨z0,z1,z2,z3⟩,y0,y1,y2,y3⟩:=hz4) | skip))
  all_goals
   go_wp2_with fail
   go_meet
   case rel=>first | exact⟨_,rfl,ks3 hb⟩ | exact ks2 hb (Q:=fun W=>∃ kb,_=ptr kb∧KS w0 t kb W) (fun w2 h2=>⟨_,rfl,h2⟩)
 case rest =>
 obtain⟨kb,rfl,hS⟩:=hcut
 clear c0 c1 c2 c3 c4 f0 f1 f2 f3 f4 HT
 have hlo:=hS.lo
 have hne:kb≠pb:=by have:=h0.lt;omega
 have hner:kb≠rb:=by omega
 have hP:PD wc pb s k wr 0 d:=h0.below hS.below
 obtain⟨⟨c0,c1,c2,c3,c4⟩,f0,f1,f2,f3,f4⟩:=hP.cells
 obtain⟨⟨z0,z1,z2,z3⟩,y0,y1,y2,y3⟩:=cells4f hS.blk
 have hKx:Kp (·=pb) w wc:=hK0.below hS.below
 have hrc:wc.heap[rb]?=some (.cells NZ 57 (0,0)):=by rw [hS.below.block rb hrl];exact hr
 have hPe:=hP.setAt t.e
 have hKe:Kp (·=pb) wc (wc.setCell ⟨pb,1,none⟩ (.int .i64 t.e)):=kpset _ _ _ _
 have hrce:=hKe.blk hrc hrp
 have hkbe:=hKe.blk hS.blk hne
 have hKw:=hKx.trans hKe (fun n e=>.inl e)
 go_wp2_with fail
 go_at_call 82
 refine (fail_first pb t.e d wr s t.a 2 _ hPe).mono ?_
 rintro e w3 ⟨rfl,hP3,hK3⟩
 have hr3:=hK3.blk hrce hrp
 have hKw3:=hKw.trans hK3 (fun n e=>.inl e)
 clear c0 c1 c2 c3 c4 f0 f1 f2 f3 f4 z0 z1 z2 z3 y0 y1 y2 y3
 obtain⟨⟨d0,d1,d2,d3,d4,d5,d6,d7,d8,d9,d10,d11⟩,df⟩:=cells12 hr3
 go_wp2_with fail
 clear d0 d1 d2 d3 d4 d5 d6 d7 d8 d9 d10 d11 df
 refine fin12 hr3 (Q:=bodyPost _ _ _ _ _) ?_
 intro w9 hq9 hk9
 obtain⟨⟨b0,b1,b2,b3,b4,b5,b6,b7,b8,b9,b10,b11⟩,bf⟩:=cells12 hq9
 refine bodyPost_ret (v:=NV 0 0 nul .z .z (.slice none 0 0)) (by simp [results,Tryz.results110,go_sem,b0,b1,b2,b3,b4,b5,b6,b7,b8,b9,b10,b11]) rfl ?_
 have hP9:=hP3.keep hk9 (fun e=>hrp e.symm)
 have hK9:=hKw3.trans hk9 (fun n e=>by right;rw [HRB.out,e];exact Nat.le_refl _)
 exact⟨_,_,t.e,rfl,Nd.leaf,hP9,hte,by omega,hK9⟩
set_option maxRecDepth 100000 in
set_option maxHeartbeats 8000000 in
theorem rone_sign (pb k d:Nat) (wr:Int) (s:ByteArray) (hs:s.size≤200) (w:World) (h:PD w pb s k wr 0 d) (hk:k≤s.size) (t:Tk) (ht:tkR s k=t) (hc:t.kind=4) (h1:(t.t.toList == [45])=false) (h2:(t.t.toList == [40])=false) :
  Calls Tryz.prog 110 #[ptr pb] w (OutR w pb s d wr (.err t.a 2)):=by
 have hte:t.e≤s.size:=ht ▸ (tk_spec s k hk).2.2
 have HT:Hid (∀ w,Calls Tryz.prog 81 #[.string s,.int .i64 k] w fun e w'=>e=.returned (KV (tkR s k).kind ((tkR s k).a:Nat) ((tkR s k).e:Nat) (tkR s k).t)∧Below w.heap.size w w'):=fun w=>token_at s k w hs hk
 rw [ht] at HT
 clear ht
 have HHC:Hid (t.kind=4):=hc
 clear hc
 go_enter Tryz.func110,Tryz.ntmps110
 go_upto_region 1 with fail
 have h0:PD (w.alloc (.cells NZ 57)) pb s k wr 0 d:=h.below ((Below.refl _ _).alloc (Nat.le_refl _) _)
 have hr:(w.alloc (.cells NZ 57)).heap[w.heap.size]?=some (.cells NZ 57 (0,0)):=blk_new _ _
 have hK0:Kp (·=pb) w (w.alloc (.cells NZ 57)):=(Kp.refl _ w).alloc _
 have hlt:=h.lt
 have hrl:w.heap.size<(w.alloc (.cells NZ 57)).heap.size:=by simp
 obtain⟨rb,hrb⟩:∃ rb,w.heap.size=rb:=⟨_,rfl⟩
 rw [hrb] at hr hrl hlt ⊢
 have HRB:Hid (w.heap.size=rb):=hrb
 clear hrb
 generalize w.alloc (.cells NZ 57)=w0 at *
 obtain⟨⟨c0,c1,c2,c3,c4⟩,f0,f1,f2,f3,f4⟩:=h0.cells
 have hrp:rb≠pb:=by omega
 go_cut [3] (fun s3 wx=>∃ kb,s3=ptr kb∧KS w0 t kb wx)
 case first =>
  have hlt0:=h0.lt
  have hne:w0.heap.size≠pb:=by omega
  have hne':pb≠w0.heap.size:=by omega
  have KK:Hid (∀ wx,Below w0.heap.size w0 wx→wx.cell? ⟨pb,0,none⟩=some (.string s)∧wx.cell? ⟨pb,1,none⟩=some (.int .i64 k)):=fun wx hb=>⟨(hb.cell (p:=⟨pb,0,none⟩) hlt0).trans c0,(hb.cell (p:=⟨pb,1,none⟩) hlt0).trans c1⟩
  clear c0 c1 c2 c3 c4 f0 f1 f2 f3 f4
  go_region_held3 (fun wx=>wx.cell? ⟨pb,0,none⟩=some (.string s)∧wx.cell? ⟨pb,1,none⟩=some (.int .i64 k)) (exact KK.out _ (by (repeat (first | exact Below.refl _ _ | assumption | (refine Below.setCell ?_ (by first | exact Nat.le_refl _ | omega) _) | (refine Below.alloc ?_ (by first | exact Nat.le_refl _ | exact hb'.size | omega | (simp<;>omega)) _) | (refine Below.drew ?_))))) ((go_at_call 81;refine (HT.out _).mono ?_;rintro e w1 ⟨rfl,hb⟩;have hb':Below w0.heap.size w0 w1:=(by first | exact kb1 hb | exact kb2 hb);first | (have hz:=kz_a hb;have hz4:=cells4f hz;obtain⟨⟨z0,z1,z2,z3⟩,y0,y1,y2,y3⟩:=hz4) | skip))
  all_goals
   go_wp2_with fail
   go_meet
   case rel=>first | exact⟨_,rfl,ks3 hb⟩ | exact ks2 hb (Q:=fun W=>∃ kb,_=ptr kb∧KS w0 t kb W) (fun w2 h2=>⟨_,rfl,h2⟩)
 case rest =>
 obtain⟨kb,rfl,hS⟩:=hcut
 clear c0 c1 c2 c3 c4 f0 f1 f2 f3 f4 HT
 have hlo:=hS.lo
 have hne:kb≠pb:=by have:=h0.lt;omega
 have hner:kb≠rb:=by omega
 have hP:PD wc pb s k wr 0 d:=h0.below hS.below
 obtain⟨⟨c0,c1,c2,c3,c4⟩,f0,f1,f2,f3,f4⟩:=hP.cells
 obtain⟨⟨z0,z1,z2,z3⟩,y0,y1,y2,y3⟩:=cells4f hS.blk
 have hKx:Kp (·=pb) w wc:=hK0.below hS.below
 have hrc:wc.heap[rb]?=some (.cells NZ 57 (0,0)):=by rw [hS.below.block rb hrl];exact hr
 have hPe:=hP.setAt t.e
 have hKe:Kp (·=pb) wc (wc.setCell ⟨pb,1,none⟩ (.int .i64 t.e)):=kpset _ _ _ _
 have hrce:=hKe.blk hrc hrp
 have hkbe:=hKe.blk hS.blk hne
 have hKw:=hKx.trans hKe (fun n e=>.inl e)
 rw [HHC.out] at z0
 go_wp2_with fail
 go_at_call 82
 refine (fail_first pb t.e d wr s t.a 2 _ hPe).mono ?_
 rintro e w3 ⟨rfl,hP3,hK3⟩
 have hr3:=hK3.blk hrce hrp
 have hKw3:=hKw.trans hK3 (fun n e=>.inl e)
 clear c0 c1 c2 c3 c4 f0 f1 f2 f3 f4 z0 z1 z2 z3 y0 y1 y2 y3
 obtain⟨⟨d0,d1,d2,d3,d4,d5,d6,d7,d8,d9,d10,d11⟩,df⟩:=cells12 hr3
 go_wp2_with fail
 clear d0 d1 d2 d3 d4 d5 d6 d7 d8 d9 d10 d11 df
 refine fin12 hr3 (Q:=bodyPost _ _ _ _ _) ?_
 intro w9 hq9 hk9
 obtain⟨⟨b0,b1,b2,b3,b4,b5,b6,b7,b8,b9,b10,b11⟩,bf⟩:=cells12 hq9
 refine bodyPost_ret (v:=NV 0 0 nul .z .z (.slice none 0 0)) (by simp [results,Tryz.results110,go_sem,b0,b1,b2,b3,b4,b5,b6,b7,b8,b9,b10,b11]) rfl ?_
 have hP9:=hP3.keep hk9 (fun e=>hrp e.symm)
 have hK9:=hKw3.trans hk9 (fun n e=>by right;rw [HRB.out,e];exact Nat.le_refl _)
 exact⟨_,_,t.e,rfl,Nd.leaf,hP9,hte,by omega,hK9⟩
end Go.Proofs.YtgifkepklnhddaaGreatDoor.fm
namespace Go.Proofs.YtgifkepklnhddaaGreatDoor
open Go.RowKit
theorem rbad_any (n:Int) (w:World) :
  Calls Tryz.prog 121 #[.int .i64 n] w fun e w'=>e=.returned (V 4 n nul)∧Below w.heap.size w w':=by
 go_enter Tryz.func121,Tryz.ntmps121
 go_wp2
 exact bodyPost_ret (v:=V 4 n nul) (by simp [results,Tryz.results121,go_sem]) rfl ⟨rfl,(Below.refl _ _).alloc (Nat.le_refl _) _⟩
def wrongsC:Array Value:=#[.string nul,.string bt0,.string bt1,.string bt2,.string bt3,.string bt4,.string bt5]
theorem wrongs_any (w:World) :
  Calls Tryz.prog 114 #[] w fun e w'=>e=.returned (.slice (some ⟨w.heap.size,0,none⟩) 7 7)∧w'=w.alloc (.cells wrongsC 9):=by
 go_enter Tryz.func114,Tryz.ntmps114
 go_wp2
 go_ret
 exact⟨rfl,rfl⟩
theorem wrongs_cell (w:World):(w.alloc (.cells wrongsC 9)).cell? ⟨w.heap.size,1,none⟩=some (.string bt0)∧(w.alloc (.cells wrongsC 9)).cell? ⟨w.heap.size,2,none⟩=some (.string bt1)∧(w.alloc (.cells wrongsC 9)).cell? ⟨w.heap.size,3,none⟩=some (.string bt2)∧(w.alloc (.cells wrongsC 9)).cell? ⟨w.heap.size,4,none⟩=some (.string bt3)∧(w.alloc (.cells wrongsC 9)).cell? ⟨w.heap.size,5,none⟩=some (.string bt4)∧(w.alloc (.cells wrongsC 9)).cell? ⟨w.heap.size,6,none⟩=some (.string bt5):=by
 refine⟨?_,?_,?_,?_,?_,?_⟩<;>simp [wrongsC]
set_option maxRecDepth 100000 in
set_option maxHeartbeats 2000000 in
theorem named_0 (s:ByteArray) (w:World) (ht:(s.toList == [84,82,85,69])=false) (hf0:(s.toList == [70,65,76,83,69])=false) (h0:(s.toList == [35,68,73,86,33])=true) :
  Calls Tryz.prog 143 #[.string s] w fun e w'=>e=.returned (.tuple #[V 4 1 nul,.bool true])∧Below w.heap.size w w':=by
 have g0:([35,68,73,86,33] == s.toList)=true:=by rw [Bool.beq_comm];exact h0
 have hC:=Cell3.start w 163
 have hwc:=wrongs_cell (w.alloc (.cells #[.int .i64 0,.int .i64 0,.string nul] 163))
 have bw:Below (w.alloc (.cells #[.int .i64 0,.int .i64 0,.string nul] 163)).heap.size (w.alloc (.cells #[.int .i64 0,.int .i64 0,.string nul] 163)) ((w.alloc (.cells #[.int .i64 0,.int .i64 0,.string nul] 163)).alloc (.cells wrongsC 9)):=(Below.refl _ _).alloc (Nat.le_refl _) _
 replace hC:=hC.next bw
 go_enter Tryz.func143,Tryz.ntmps143
 go_wp2_with fail
 refine (wrongs_any _).mono ?_
 rintro e w1 ⟨rfl,rfl⟩
 generalize ((w.alloc (.cells #[.int .i64 0,.int .i64 0,.string nul] 163)).alloc (.cells wrongsC 9))=W at *
 generalize (w.alloc (.cells #[.int .i64 0,.int .i64 0,.string nul] 163)).heap.size=bw0 at *
 clear bw
 obtain⟨k1,k2,k3,k4,k5,k6⟩:=hwc
 go_wp2_with fail
 refine wp_loop_rounds 7 ?_
 iterate 1 (rw [rounds_succ];go_wp2_with fail)
 refine (rbad_any _ _).mono ?_
 rintro e w2 ⟨rfl,b2⟩
 replace hC:=hC.next b2
 obtain⟨⟨_,hf⟩,⟨_,c0,c1,c2⟩,hB,hle⟩:=hC
 go_wp2_with fail
 exact bodyPost_ret (v:=.tuple #[V 4 1 nul,.bool true]) (by simp [results,Tryz.results143,go_sem,c0,c1,c2]) rfl ⟨rfl,by (repeat (first | exact Below.refl _ _ | assumption | (refine Below.setCell ?_ (by first | omega | (simp<;>omega)) _) | (refine Below.alloc ?_ (by first | omega | (simp<;>omega)) _) | (refine Below.drew ?_) | (refine Below.trans ?_ (Below.mono (by assumption) (by first | omega | (simp<;>omega))))))⟩
set_option maxRecDepth 100000 in
set_option maxHeartbeats 2000000 in
theorem named_1 (s:ByteArray) (w:World) (ht:(s.toList == [84,82,85,69])=false) (hf0:(s.toList == [70,65,76,83,69])=false) (h0:(s.toList == [35,68,73,86,33])=false) (h1:(s.toList == [35,86,65,76,85,69,33])=true) :
  Calls Tryz.prog 143 #[.string s] w fun e w'=>e=.returned (.tuple #[V 4 2 nul,.bool true])∧Below w.heap.size w w':=by
 have g0:([35,68,73,86,33] == s.toList)=false:=by rw [Bool.beq_comm];exact h0
 have g1:([35,86,65,76,85,69,33] == s.toList)=true:=by rw [Bool.beq_comm];exact h1
 have hC:=Cell3.start w 163
 have hwc:=wrongs_cell (w.alloc (.cells #[.int .i64 0,.int .i64 0,.string nul] 163))
 have bw:Below (w.alloc (.cells #[.int .i64 0,.int .i64 0,.string nul] 163)).heap.size (w.alloc (.cells #[.int .i64 0,.int .i64 0,.string nul] 163)) ((w.alloc (.cells #[.int .i64 0,.int .i64 0,.string nul] 163)).alloc (.cells wrongsC 9)):=(Below.refl _ _).alloc (Nat.le_refl _) _
 replace hC:=hC.next bw
 go_enter Tryz.func143,Tryz.ntmps143
 go_wp2_with fail
 refine (wrongs_any _).mono ?_
 rintro e w1 ⟨rfl,rfl⟩
 generalize ((w.alloc (.cells #[.int .i64 0,.int .i64 0,.string nul] 163)).alloc (.cells wrongsC 9))=W at *
 generalize (w.alloc (.cells #[.int .i64 0,.int .i64 0,.string nul] 163)).heap.size=bw0 at *
 clear bw
 obtain⟨k1,k2,k3,k4,k5,k6⟩:=hwc
 go_wp2_with fail
 refine wp_loop_rounds 7 ?_
 iterate 2 (rw [rounds_succ];go_wp2_with fail)
 refine (rbad_any _ _).mono ?_
 rintro e w2 ⟨rfl,b2⟩
 replace hC:=hC.next b2
 obtain⟨⟨_,hf⟩,⟨_,c0,c1,c2⟩,hB,hle⟩:=hC
 go_wp2_with fail
 exact bodyPost_ret (v:=.tuple #[V 4 2 nul,.bool true]) (by simp [results,Tryz.results143,go_sem,c0,c1,c2]) rfl ⟨rfl,by (repeat (first | exact Below.refl _ _ | assumption | (refine Below.setCell ?_ (by first | omega | (simp<;>omega)) _) | (refine Below.alloc ?_ (by first | omega | (simp<;>omega)) _) | (refine Below.drew ?_) | (refine Below.trans ?_ (Below.mono (by assumption) (by first | omega | (simp<;>omega))))))⟩
set_option maxRecDepth 100000 in
set_option maxHeartbeats 2000000 in
theorem named_2 (s:ByteArray) (w:World) (ht:(s.toList == [84,82,85,69])=false) (hf0:(s.toList == [70,65,76,83,69])=false) (h0:(s.toList == [35,68,73,86,33])=false) (h1:(s.toList == [35,86,65,76,85,69,33])=false) (h2:(s.toList == [35,82,69,70,33])=true) :
  Calls Tryz.prog 143 #[.string s] w fun e w'=>e=.returned (.tuple #[V 4 3 nul,.bool true])∧Below w.heap.size w w':=by
 have g0:([35,68,73,86,33] == s.toList)=false:=by rw [Bool.beq_comm];exact h0
 have g1:([35,86,65,76,85,69,33] == s.toList)=false:=by rw [Bool.beq_comm];exact h1
 have g2:([35,82,69,70,33] == s.toList)=true:=by rw [Bool.beq_comm];exact h2
 have hC:=Cell3.start w 163
 have hwc:=wrongs_cell (w.alloc (.cells #[.int .i64 0,.int .i64 0,.string nul] 163))
 have bw:Below (w.alloc (.cells #[.int .i64 0,.int .i64 0,.string nul] 163)).heap.size (w.alloc (.cells #[.int .i64 0,.int .i64 0,.string nul] 163)) ((w.alloc (.cells #[.int .i64 0,.int .i64 0,.string nul] 163)).alloc (.cells wrongsC 9)):=(Below.refl _ _).alloc (Nat.le_refl _) _
 replace hC:=hC.next bw
 go_enter Tryz.func143,Tryz.ntmps143
 go_wp2_with fail
 refine (wrongs_any _).mono ?_
 rintro e w1 ⟨rfl,rfl⟩
 generalize ((w.alloc (.cells #[.int .i64 0,.int .i64 0,.string nul] 163)).alloc (.cells wrongsC 9))=W at *
 generalize (w.alloc (.cells #[.int .i64 0,.int .i64 0,.string nul] 163)).heap.size=bw0 at *
 clear bw
 obtain⟨k1,k2,k3,k4,k5,k6⟩:=hwc
 go_wp2_with fail
 refine wp_loop_rounds 7 ?_
 iterate 3 (rw [rounds_succ];go_wp2_with fail)
 refine (rbad_any _ _).mono ?_
 rintro e w2 ⟨rfl,b2⟩
 replace hC:=hC.next b2
 obtain⟨⟨_,hf⟩,⟨_,c0,c1,c2⟩,hB,hle⟩:=hC
 go_wp2_with fail
 exact bodyPost_ret (v:=.tuple #[V 4 3 nul,.bool true]) (by simp [results,Tryz.results143,go_sem,c0,c1,c2]) rfl ⟨rfl,by (repeat (first | exact Below.refl _ _ | assumption | (refine Below.setCell ?_ (by first | omega | (simp<;>omega)) _) | (refine Below.alloc ?_ (by first | omega | (simp<;>omega)) _) | (refine Below.drew ?_) | (refine Below.trans ?_ (Below.mono (by assumption) (by first | omega | (simp<;>omega))))))⟩
set_option maxRecDepth 100000 in
set_option maxHeartbeats 2000000 in
theorem named_3 (s:ByteArray) (w:World) (ht:(s.toList == [84,82,85,69])=false) (hf0:(s.toList == [70,65,76,83,69])=false) (h0:(s.toList == [35,68,73,86,33])=false) (h1:(s.toList == [35,86,65,76,85,69,33])=false) (h2:(s.toList == [35,82,69,70,33])=false) (h3:(s.toList == [35,78,65,77,69,33])=true) :
  Calls Tryz.prog 143 #[.string s] w fun e w'=>e=.returned (.tuple #[V 4 4 nul,.bool true])∧Below w.heap.size w w':=by
 have g0:([35,68,73,86,33] == s.toList)=false:=by rw [Bool.beq_comm];exact h0
 have g1:([35,86,65,76,85,69,33] == s.toList)=false:=by rw [Bool.beq_comm];exact h1
 have g2:([35,82,69,70,33] == s.toList)=false:=by rw [Bool.beq_comm];exact h2
 have g3:([35,78,65,77,69,33] == s.toList)=true:=by rw [Bool.beq_comm];exact h3
 have hC:=Cell3.start w 163
 have hwc:=wrongs_cell (w.alloc (.cells #[.int .i64 0,.int .i64 0,.string nul] 163))
 have bw:Below (w.alloc (.cells #[.int .i64 0,.int .i64 0,.string nul] 163)).heap.size (w.alloc (.cells #[.int .i64 0,.int .i64 0,.string nul] 163)) ((w.alloc (.cells #[.int .i64 0,.int .i64 0,.string nul] 163)).alloc (.cells wrongsC 9)):=(Below.refl _ _).alloc (Nat.le_refl _) _
 replace hC:=hC.next bw
 go_enter Tryz.func143,Tryz.ntmps143
 go_wp2_with fail
 refine (wrongs_any _).mono ?_
 rintro e w1 ⟨rfl,rfl⟩
 generalize ((w.alloc (.cells #[.int .i64 0,.int .i64 0,.string nul] 163)).alloc (.cells wrongsC 9))=W at *
 generalize (w.alloc (.cells #[.int .i64 0,.int .i64 0,.string nul] 163)).heap.size=bw0 at *
 clear bw
 obtain⟨k1,k2,k3,k4,k5,k6⟩:=hwc
 go_wp2_with fail
 refine wp_loop_rounds 7 ?_
 iterate 4 (rw [rounds_succ];go_wp2_with fail)
 refine (rbad_any _ _).mono ?_
 rintro e w2 ⟨rfl,b2⟩
 replace hC:=hC.next b2
 obtain⟨⟨_,hf⟩,⟨_,c0,c1,c2⟩,hB,hle⟩:=hC
 go_wp2_with fail
 exact bodyPost_ret (v:=.tuple #[V 4 4 nul,.bool true]) (by simp [results,Tryz.results143,go_sem,c0,c1,c2]) rfl ⟨rfl,by (repeat (first | exact Below.refl _ _ | assumption | (refine Below.setCell ?_ (by first | omega | (simp<;>omega)) _) | (refine Below.alloc ?_ (by first | omega | (simp<;>omega)) _) | (refine Below.drew ?_) | (refine Below.trans ?_ (Below.mono (by assumption) (by first | omega | (simp<;>omega))))))⟩
set_option maxRecDepth 100000 in
set_option maxHeartbeats 2000000 in
theorem named_4 (s:ByteArray) (w:World) (ht:(s.toList == [84,82,85,69])=false) (hf0:(s.toList == [70,65,76,83,69])=false) (h0:(s.toList == [35,68,73,86,33])=false) (h1:(s.toList == [35,86,65,76,85,69,33])=false) (h2:(s.toList == [35,82,69,70,33])=false) (h3:(s.toList == [35,78,65,77,69,33])=false) (h4:(s.toList == [35,78,85,77,33])=true) :
  Calls Tryz.prog 143 #[.string s] w fun e w'=>e=.returned (.tuple #[V 4 5 nul,.bool true])∧Below w.heap.size w w':=by
 have g0:([35,68,73,86,33] == s.toList)=false:=by rw [Bool.beq_comm];exact h0
 have g1:([35,86,65,76,85,69,33] == s.toList)=false:=by rw [Bool.beq_comm];exact h1
 have g2:([35,82,69,70,33] == s.toList)=false:=by rw [Bool.beq_comm];exact h2
 have g3:([35,78,65,77,69,33] == s.toList)=false:=by rw [Bool.beq_comm];exact h3
 have g4:([35,78,85,77,33] == s.toList)=true:=by rw [Bool.beq_comm];exact h4
 have hC:=Cell3.start w 163
 have hwc:=wrongs_cell (w.alloc (.cells #[.int .i64 0,.int .i64 0,.string nul] 163))
 have bw:Below (w.alloc (.cells #[.int .i64 0,.int .i64 0,.string nul] 163)).heap.size (w.alloc (.cells #[.int .i64 0,.int .i64 0,.string nul] 163)) ((w.alloc (.cells #[.int .i64 0,.int .i64 0,.string nul] 163)).alloc (.cells wrongsC 9)):=(Below.refl _ _).alloc (Nat.le_refl _) _
 replace hC:=hC.next bw
 go_enter Tryz.func143,Tryz.ntmps143
 go_wp2_with fail
 refine (wrongs_any _).mono ?_
 rintro e w1 ⟨rfl,rfl⟩
 generalize ((w.alloc (.cells #[.int .i64 0,.int .i64 0,.string nul] 163)).alloc (.cells wrongsC 9))=W at *
 generalize (w.alloc (.cells #[.int .i64 0,.int .i64 0,.string nul] 163)).heap.size=bw0 at *
 clear bw
 obtain⟨k1,k2,k3,k4,k5,k6⟩:=hwc
 go_wp2_with fail
 refine wp_loop_rounds 7 ?_
 iterate 5 (rw [rounds_succ];go_wp2_with fail)
 refine (rbad_any _ _).mono ?_
 rintro e w2 ⟨rfl,b2⟩
 replace hC:=hC.next b2
 obtain⟨⟨_,hf⟩,⟨_,c0,c1,c2⟩,hB,hle⟩:=hC
 go_wp2_with fail
 exact bodyPost_ret (v:=.tuple #[V 4 5 nul,.bool true]) (by simp [results,Tryz.results143,go_sem,c0,c1,c2]) rfl ⟨rfl,by (repeat (first | exact Below.refl _ _ | assumption | (refine Below.setCell ?_ (by first | omega | (simp<;>omega)) _) | (refine Below.alloc ?_ (by first | omega | (simp<;>omega)) _) | (refine Below.drew ?_) | (refine Below.trans ?_ (Below.mono (by assumption) (by first | omega | (simp<;>omega))))))⟩
set_option maxRecDepth 100000 in
set_option maxHeartbeats 2000000 in
theorem named_5 (s:ByteArray) (w:World) (ht:(s.toList == [84,82,85,69])=false) (hf0:(s.toList == [70,65,76,83,69])=false) (h0:(s.toList == [35,68,73,86,33])=false) (h1:(s.toList == [35,86,65,76,85,69,33])=false) (h2:(s.toList == [35,82,69,70,33])=false) (h3:(s.toList == [35,78,65,77,69,33])=false) (h4:(s.toList == [35,78,85,77,33])=false) (h5:(s.toList == [35,78,79,78,69,33])=true) :
  Calls Tryz.prog 143 #[.string s] w fun e w'=>e=.returned (.tuple #[V 4 6 nul,.bool true])∧Below w.heap.size w w':=by
 have g0:([35,68,73,86,33] == s.toList)=false:=by rw [Bool.beq_comm];exact h0
 have g1:([35,86,65,76,85,69,33] == s.toList)=false:=by rw [Bool.beq_comm];exact h1
 have g2:([35,82,69,70,33] == s.toList)=false:=by rw [Bool.beq_comm];exact h2
 have g3:([35,78,65,77,69,33] == s.toList)=false:=by rw [Bool.beq_comm];exact h3
 have g4:([35,78,85,77,33] == s.toList)=false:=by rw [Bool.beq_comm];exact h4
 have g5:([35,78,79,78,69,33] == s.toList)=true:=by rw [Bool.beq_comm];exact h5
 have hC:=Cell3.start w 163
 have hwc:=wrongs_cell (w.alloc (.cells #[.int .i64 0,.int .i64 0,.string nul] 163))
 have bw:Below (w.alloc (.cells #[.int .i64 0,.int .i64 0,.string nul] 163)).heap.size (w.alloc (.cells #[.int .i64 0,.int .i64 0,.string nul] 163)) ((w.alloc (.cells #[.int .i64 0,.int .i64 0,.string nul] 163)).alloc (.cells wrongsC 9)):=(Below.refl _ _).alloc (Nat.le_refl _) _
 replace hC:=hC.next bw
 go_enter Tryz.func143,Tryz.ntmps143
 go_wp2_with fail
 refine (wrongs_any _).mono ?_
 rintro e w1 ⟨rfl,rfl⟩
 generalize ((w.alloc (.cells #[.int .i64 0,.int .i64 0,.string nul] 163)).alloc (.cells wrongsC 9))=W at *
 generalize (w.alloc (.cells #[.int .i64 0,.int .i64 0,.string nul] 163)).heap.size=bw0 at *
 clear bw
 obtain⟨k1,k2,k3,k4,k5,k6⟩:=hwc
 go_wp2_with fail
 refine wp_loop_rounds 7 ?_
 iterate 6 (rw [rounds_succ];go_wp2_with fail)
 refine (rbad_any _ _).mono ?_
 rintro e w2 ⟨rfl,b2⟩
 replace hC:=hC.next b2
 obtain⟨⟨_,hf⟩,⟨_,c0,c1,c2⟩,hB,hle⟩:=hC
 go_wp2_with fail
 exact bodyPost_ret (v:=.tuple #[V 4 6 nul,.bool true]) (by simp [results,Tryz.results143,go_sem,c0,c1,c2]) rfl ⟨rfl,by (repeat (first | exact Below.refl _ _ | assumption | (refine Below.setCell ?_ (by first | omega | (simp<;>omega)) _) | (refine Below.alloc ?_ (by first | omega | (simp<;>omega)) _) | (refine Below.drew ?_) | (refine Below.trans ?_ (Below.mono (by assumption) (by first | omega | (simp<;>omega))))))⟩
end Go.Proofs.YtgifkepklnhddaaGreatDoor
namespace Go.Proofs.YtgifkepklnhddaaGreatDoor.fm
open Go.RowKit
theorem named_bad (n:Nat) (h1:1≤n) (h6:n≤6) (w:World):Calls Tryz.prog 143 #[.string (sh 4 (n:Nat) YtgifkepklnhddaaGreatDoor.nul)] w fun e w'=>e=.returned (.tuple #[V 4 (n:Nat) YtgifkepklnhddaaGreatDoor.nul,.bool true])∧Below w.heap.size w w':=by
 match n,h1,h6 with
 | 1,_,_=>exact named_0 _ w (by decide +kernel) (by decide +kernel) (by decide +kernel)
 | 2,_,_=>exact named_1 _ w (by decide +kernel) (by decide +kernel) (by decide +kernel) (by decide +kernel)
 | 3,_,_=>exact named_2 _ w (by decide +kernel) (by decide +kernel) (by decide +kernel) (by decide +kernel) (by decide +kernel)
 | 4,_,_=>exact named_3 _ w (by decide +kernel) (by decide +kernel) (by decide +kernel) (by decide +kernel) (by decide +kernel) (by decide +kernel)
 | 5,_,_=>exact named_4 _ w (by decide +kernel) (by decide +kernel) (by decide +kernel) (by decide +kernel) (by decide +kernel) (by decide +kernel) (by decide +kernel)
 | 6,_,_=>exact named_5 _ w (by decide +kernel) (by decide +kernel) (by decide +kernel) (by decide +kernel) (by decide +kernel) (by decide +kernel) (by decide +kernel) (by decide +kernel)
 | n+7,_,h6=>omega
set_option maxRecDepth 100000 in
set_option maxHeartbeats 8000000 in
theorem rone_bad (pb k d:Nat) (wr:Int) (s:ByteArray) (hs:s.size≤200) (w:World) (h:PD w pb s k wr 0 d) (hk:k≤s.size) (t:Tk) (ht:tkR s k=t) (hc:t.kind=3) (n:Nat) (h1:1≤n) (h6:n≤6) (hn:t.t=sh 4 (n:Nat) YtgifkepklnhddaaGreatDoor.nul) :
  Calls Tryz.prog 110 #[ptr pb] w (OutR w pb s d wr (.ok (tBad n) t.e)):=by
 have hte:t.e≤s.size:=ht ▸ (tk_spec s k hk).2.2
 have HT:Hid (∀ w,Calls Tryz.prog 81 #[.string s,.int .i64 k] w fun e w'=>e=.returned (KV (tkR s k).kind ((tkR s k).a:Nat) ((tkR s k).e:Nat) (tkR s k).t)∧Below w.heap.size w w'):=fun w=>token_at s k w hs hk
 rw [ht] at HT
 clear ht
 have HHC:Hid (t.kind=3):=hc
 clear hc
 have HNB:Hid (∀ w,Calls Tryz.prog 143 #[.string t.t] w fun e w'=>e=.returned (.tuple #[V 4 (n:Nat) YtgifkepklnhddaaGreatDoor.nul,.bool true])∧Below w.heap.size w w'):=fun w=>by rw [hn];exact named_bad n h1 h6 w
 clear hn h1 h6
 go_enter Tryz.func110,Tryz.ntmps110
 go_upto_region 1 with fail
 have h0:PD (w.alloc (.cells NZ 57)) pb s k wr 0 d:=h.below ((Below.refl _ _).alloc (Nat.le_refl _) _)
 have hr:(w.alloc (.cells NZ 57)).heap[w.heap.size]?=some (.cells NZ 57 (0,0)):=blk_new _ _
 have hK0:Kp (·=pb) w (w.alloc (.cells NZ 57)):=(Kp.refl _ w).alloc _
 have hlt:=h.lt
 have hrl:w.heap.size<(w.alloc (.cells NZ 57)).heap.size:=by simp
 obtain⟨rb,hrb⟩:∃ rb,w.heap.size=rb:=⟨_,rfl⟩
 rw [hrb] at hr hrl hlt ⊢
 have HRB:Hid (w.heap.size=rb):=hrb
 clear hrb
 generalize w.alloc (.cells NZ 57)=w0 at *
 obtain⟨⟨c0,c1,c2,c3,c4⟩,f0,f1,f2,f3,f4⟩:=h0.cells
 have hrp:rb≠pb:=by omega
 go_cut [3] (fun s3 wx=>∃ kb,s3=ptr kb∧KS w0 t kb wx)
 case first =>
  have hlt0:=h0.lt
  have hne:w0.heap.size≠pb:=by omega
  have hne':pb≠w0.heap.size:=by omega
  have KK:Hid (∀ wx,Below w0.heap.size w0 wx→wx.cell? ⟨pb,0,none⟩=some (.string s)∧wx.cell? ⟨pb,1,none⟩=some (.int .i64 k)):=fun wx hb=>⟨(hb.cell (p:=⟨pb,0,none⟩) hlt0).trans c0,(hb.cell (p:=⟨pb,1,none⟩) hlt0).trans c1⟩
  clear c0 c1 c2 c3 c4 f0 f1 f2 f3 f4
  go_region_held3 (fun wx=>wx.cell? ⟨pb,0,none⟩=some (.string s)∧wx.cell? ⟨pb,1,none⟩=some (.int .i64 k)) (exact KK.out _ (by (repeat (first | exact Below.refl _ _ | assumption | (refine Below.setCell ?_ (by first | exact Nat.le_refl _ | omega) _) | (refine Below.alloc ?_ (by first | exact Nat.le_refl _ | exact hb'.size | omega | (simp<;>omega)) _) | (refine Below.drew ?_))))) ((go_at_call 81;refine (HT.out _).mono ?_;rintro e w1 ⟨rfl,hb⟩;have hb':Below w0.heap.size w0 w1:=(by first | exact kb1 hb | exact kb2 hb);first | (have hz:=kz_a hb;have hz4:=cells4f hz;obtain⟨⟨z0,z1,z2,z3⟩,y0,y1,y2,y3⟩:=hz4) | skip))
  all_goals
   go_wp2_with fail
   go_meet
   case rel=>first | exact⟨_,rfl,ks3 hb⟩ | exact ks2 hb (Q:=fun W=>∃ kb,_=ptr kb∧KS w0 t kb W) (fun w2 h2=>⟨_,rfl,h2⟩)
 case rest =>
 obtain⟨kb,rfl,hS⟩:=hcut
 clear c0 c1 c2 c3 c4 f0 f1 f2 f3 f4 HT
 have hlo:=hS.lo
 have hne:kb≠pb:=by have:=h0.lt;omega
 have hner:kb≠rb:=by omega
 have hP:PD wc pb s k wr 0 d:=h0.below hS.below
 obtain⟨⟨c0,c1,c2,c3,c4⟩,f0,f1,f2,f3,f4⟩:=hP.cells
 obtain⟨⟨z0,z1,z2,z3⟩,y0,y1,y2,y3⟩:=cells4f hS.blk
 have hKx:Kp (·=pb) w wc:=hK0.below hS.below
 have hrc:wc.heap[rb]?=some (.cells NZ 57 (0,0)):=by rw [hS.below.block rb hrl];exact hr
 have hPe:=hP.setAt t.e
 have hKe:Kp (·=pb) wc (wc.setCell ⟨pb,1,none⟩ (.int .i64 t.e)):=kpset _ _ _ _
 have hrce:=hKe.blk hrc hrp
 have hkbe:=hKe.blk hS.blk hne
 have hKw:=hKx.trans hKe (fun n e=>.inl e)
 rw [HHC.out] at z0
 go_wp2_with fail
 go_at_call 143
 refine (HNB.out _).mono ?_
 rintro e w3 ⟨rfl,hb3⟩
 clear c0 c1 c2 c3 c4 f0 f1 f2 f3 f4 z0 z1 z2 z3 y0 y1 y2 y3
 have hr3:w3.heap[rb]?=some (.cells NZ 57 (0,0)):=by rw [hb3.block _ (lt_blk hrce)];exact hrce
 have hr4:(w3.alloc (.cells #[.int .i64 4,.int .i64 (n:Nat),.string YtgifkepklnhddaaGreatDoor.nul] 163)).heap[rb]?=some (.cells NZ 57 (0,0)):=by rw [Below.heap_alloc _ _ _ (lt_blk hr3)];exact hr3
 have hP4:=(hPe.below hb3).below ((Below.refl w3.heap.size w3).alloc (Nat.le_refl _) (.cells #[.int .i64 4,.int .i64 (n:Nat),.string YtgifkepklnhddaaGreatDoor.nul] 163))
 have hKw4:=(hKw.below hb3).alloc (.cells #[.int .i64 4,.int .i64 (n:Nat),.string YtgifkepklnhddaaGreatDoor.nul] 163)
 obtain⟨⟨d0,d1,d2,d3,d4,d5,d6,d7,d8,d9,d10,d11⟩,df⟩:=cells12 hr4
 go_wp2_with fail
 clear d0 d1 d2 d3 d4 d5 d6 d7 d8 d9 d10 d11 df
 refine fin12 hr4 (Q:=bodyPost _ _ _ _ _) ?_
 intro w9 hq9 hk9
 obtain⟨⟨b0,b1,b2,b3,b4,b5,b6,b7,b8,b9,b10,b11⟩,bf⟩:=cells12 hq9
 refine bodyPost_ret (v:=NV 4 (n:Nat) nul .z .z (.slice none 0 0)) (by simp [results,Tryz.results110,go_sem,b0,b1,b2,b3,b4,b5,b6,b7,b8,b9,b10,b11]) rfl ?_
 have hP9:=hP4.keep hk9 (fun e=>hrp e.symm)
 have hK9:=hKw4.trans hk9 (fun n e=>by right;rw [HRB.out,e];exact Nat.le_refl _)
 exact⟨_,t.e,rfl,Nd.leaf,hP9,hte,rfl,hK9⟩
end Go.Proofs.YtgifkepklnhddaaGreatDoor.fm
namespace Go.Proofs.YtgifkepklnhddaaGreatDoor.fm
open Go.RowKit
set_option maxRecDepth 100000 in
set_option maxHeartbeats 8000000 in
theorem rone_neg_full (pb k d:Nat) (wr:Int) (s:ByteArray) (hs:s.size≤200) (w:World) (h:PD w pb s k wr 0 d) (hk:k≤s.size) (t:Tk) (ht:tkR s k=t) (hc:t.kind=4) (hx:(t.t.toList == [45])=true) (hd:d=30) :
  Calls Tryz.prog 110 #[ptr pb] w (OutR w pb s d wr (.err t.a 4)):=by
 have hte:t.e≤s.size:=ht ▸ (tk_spec s k hk).2.2
 have HT:Hid (∀ w,Calls Tryz.prog 81 #[.string s,.int .i64 k] w fun e w'=>e=.returned (KV (tkR s k).kind ((tkR s k).a:Nat) ((tkR s k).e:Nat) (tkR s k).t)∧Below w.heap.size w w'):=fun w=>token_at s k w hs hk
 rw [ht] at HT
 clear ht
 have HHC:Hid (t.kind=4):=hc
 clear hc
 go_enter Tryz.func110,Tryz.ntmps110
 go_upto_region 1 with fail
 have h0:PD (w.alloc (.cells NZ 57)) pb s k wr 0 d:=h.below ((Below.refl _ _).alloc (Nat.le_refl _) _)
 have hr:(w.alloc (.cells NZ 57)).heap[w.heap.size]?=some (.cells NZ 57 (0,0)):=blk_new _ _
 have hK0:Kp (·=pb) w (w.alloc (.cells NZ 57)):=(Kp.refl _ w).alloc _
 have hlt:=h.lt
 have hrl:w.heap.size<(w.alloc (.cells NZ 57)).heap.size:=by simp
 obtain⟨rb,hrb⟩:∃ rb,w.heap.size=rb:=⟨_,rfl⟩
 rw [hrb] at hr hrl hlt ⊢
 have HRB:Hid (w.heap.size=rb):=hrb
 clear hrb
 generalize w.alloc (.cells NZ 57)=w0 at *
 obtain⟨⟨c0,c1,c2,c3,c4⟩,f0,f1,f2,f3,f4⟩:=h0.cells
 have hrp:rb≠pb:=by omega
 go_cut [3] (fun s3 wx=>∃ kb,s3=ptr kb∧KS w0 t kb wx)
 case first =>
  have hlt0:=h0.lt
  have hne:w0.heap.size≠pb:=by omega
  have hne':pb≠w0.heap.size:=by omega
  have KK:Hid (∀ wx,Below w0.heap.size w0 wx→wx.cell? ⟨pb,0,none⟩=some (.string s)∧wx.cell? ⟨pb,1,none⟩=some (.int .i64 k)):=fun wx hb=>⟨(hb.cell (p:=⟨pb,0,none⟩) hlt0).trans c0,(hb.cell (p:=⟨pb,1,none⟩) hlt0).trans c1⟩
  clear c0 c1 c2 c3 c4 f0 f1 f2 f3 f4
  go_region_held3 (fun wx=>wx.cell? ⟨pb,0,none⟩=some (.string s)∧wx.cell? ⟨pb,1,none⟩=some (.int .i64 k)) (exact KK.out _ (by (repeat (first | exact Below.refl _ _ | assumption | (refine Below.setCell ?_ (by first | exact Nat.le_refl _ | omega) _) | (refine Below.alloc ?_ (by first | exact Nat.le_refl _ | exact hb'.size | omega | (simp<;>omega)) _) | (refine Below.drew ?_))))) ((go_at_call 81;refine (HT.out _).mono ?_;rintro e w1 ⟨rfl,hb⟩;have hb':Below w0.heap.size w0 w1:=(by first | exact kb1 hb | exact kb2 hb);first | (have hz:=kz_a hb;have hz4:=cells4f hz;obtain⟨⟨z0,z1,z2,z3⟩,y0,y1,y2,y3⟩:=hz4) | skip))
  all_goals
   go_wp2_with fail
   go_meet
   case rel=>first | exact⟨_,rfl,ks3 hb⟩ | exact ks2 hb (Q:=fun W=>∃ kb,_=ptr kb∧KS w0 t kb W) (fun w2 h2=>⟨_,rfl,h2⟩)
 case rest =>
 obtain⟨kb,rfl,hS⟩:=hcut
 clear c0 c1 c2 c3 c4 f0 f1 f2 f3 f4 HT
 have hlo:=hS.lo
 have hne:kb≠pb:=by have:=h0.lt;omega
 have hner:kb≠rb:=by omega
 have hP:PD wc pb s k wr 0 d:=h0.below hS.below
 obtain⟨⟨c0,c1,c2,c3,c4⟩,f0,f1,f2,f3,f4⟩:=hP.cells
 obtain⟨⟨z0,z1,z2,z3⟩,y0,y1,y2,y3⟩:=cells4f hS.blk
 have hKx:Kp (·=pb) w wc:=hK0.below hS.below
 have hrc:wc.heap[rb]?=some (.cells NZ 57 (0,0)):=by rw [hS.below.block rb hrl];exact hr
 have hPe:=hP.setAt t.e
 have hKe:Kp (·=pb) wc (wc.setCell ⟨pb,1,none⟩ (.int .i64 t.e)):=kpset _ _ _ _
 have hrce:=hKe.blk hrc hrp
 have hkbe:=hKe.blk hS.blk hne
 have hKw:=hKx.trans hKe (fun n e=>.inl e)
 rw [HHC.out] at z0
 go_wp2_with fail
 go_at_call 139
 subst hd
 refine (rdeeper_full pb t.e wr s t.a _ hPe).mono ?_
 rintro e w3 ⟨rfl,hP3,hK3⟩
 have hr3:=hK3.blk hrce hrp
 have hKw3:=hKw.trans hK3 (fun n e=>.inl e)
 clear c0 c1 c2 c3 c4 f0 f1 f2 f3 f4 z0 z1 z2 z3 y0 y1 y2 y3
 obtain⟨⟨d0,d1,d2,d3,d4,d5,d6,d7,d8,d9,d10,d11⟩,df⟩:=cells12 hr3
 go_wp2_with fail
 clear d0 d1 d2 d3 d4 d5 d6 d7 d8 d9 d10 d11 df
 refine fin12 hr3 (Q:=bodyPost _ _ _ _ _) ?_
 intro w9 hq9 hk9
 obtain⟨⟨b0,b1,b2,b3,b4,b5,b6,b7,b8,b9,b10,b11⟩,bf⟩:=cells12 hq9
 refine bodyPost_ret (v:=NV 0 0 nul .z .z (.slice none 0 0)) (by simp [results,Tryz.results110,go_sem,b0,b1,b2,b3,b4,b5,b6,b7,b8,b9,b10,b11]) rfl ?_
 have hP9:=hP3.keep hk9 (fun e=>hrp e.symm)
 have hK9:=hKw3.trans hk9 (fun n e=>by right;rw [HRB.out,e];exact Nat.le_refl _)
 exact⟨_,_,t.e,rfl,Nd.leaf,hP9,hte,by omega,hK9⟩
set_option maxRecDepth 100000 in
set_option maxHeartbeats 8000000 in
theorem rone_neg (pb k d:Nat) (wr:Int) (s:ByteArray) (hs:s.size≤200) (w:World) (h:PD w pb s k wr 0 d) (hk:k≤s.size) (t:Tk) (ht:tkR s k=t) (hc:t.kind=4) (hx:(t.t.toList == [45])=true) (hd:d<30) (R:Rs T) (hrec:∀ w1,PD w1 pb s t.e wr 0 (d+1)→Calls Tryz.prog 110 #[ptr pb] w1 (OutR w1 pb s (d+1) wr R)) :
  Calls Tryz.prog 110 #[ptr pb] w (OutR w pb s d wr (R.bind fun u k'=>.ok (tNeg u) k')):=by
 have hte:t.e≤s.size:=ht ▸ (tk_spec s k hk).2.2
 have HT:Hid (∀ w,Calls Tryz.prog 81 #[.string s,.int .i64 k] w fun e w'=>e=.returned (KV (tkR s k).kind ((tkR s k).a:Nat) ((tkR s k).e:Nat) (tkR s k).t)∧Below w.heap.size w w'):=fun w=>token_at s k w hs hk
 rw [ht] at HT
 clear ht
 have HHC:Hid (t.kind=4):=hc
 clear hc
 have HHREC:Hid (∀ w1,PD w1 pb s t.e wr 0 (d+1)→Calls Tryz.prog 110 #[ptr pb] w1 (OutR w1 pb s (d+1) wr R)):=hrec
 clear hrec
 go_enter Tryz.func110,Tryz.ntmps110
 go_upto_region 1 with fail
 have h0:PD (w.alloc (.cells NZ 57)) pb s k wr 0 d:=h.below ((Below.refl _ _).alloc (Nat.le_refl _) _)
 have hr:(w.alloc (.cells NZ 57)).heap[w.heap.size]?=some (.cells NZ 57 (0,0)):=blk_new _ _
 have hK0:Kp (·=pb) w (w.alloc (.cells NZ 57)):=(Kp.refl _ w).alloc _
 have hlt:=h.lt
 have hrl:w.heap.size<(w.alloc (.cells NZ 57)).heap.size:=by simp
 obtain⟨rb,hrb⟩:∃ rb,w.heap.size=rb:=⟨_,rfl⟩
 rw [hrb] at hr hrl hlt ⊢
 have HRB:Hid (w.heap.size=rb):=hrb
 clear hrb
 generalize w.alloc (.cells NZ 57)=w0 at *
 obtain⟨⟨c0,c1,c2,c3,c4⟩,f0,f1,f2,f3,f4⟩:=h0.cells
 have hrp:rb≠pb:=by omega
 go_cut [3] (fun s3 wx=>∃ kb,s3=ptr kb∧KS w0 t kb wx)
 case first =>
  have hlt0:=h0.lt
  have hne:w0.heap.size≠pb:=by omega
  have hne':pb≠w0.heap.size:=by omega
  have KK:Hid (∀ wx,Below w0.heap.size w0 wx→wx.cell? ⟨pb,0,none⟩=some (.string s)∧wx.cell? ⟨pb,1,none⟩=some (.int .i64 k)):=fun wx hb=>⟨(hb.cell (p:=⟨pb,0,none⟩) hlt0).trans c0,(hb.cell (p:=⟨pb,1,none⟩) hlt0).trans c1⟩
  clear c0 c1 c2 c3 c4 f0 f1 f2 f3 f4
  go_region_held3 (fun wx=>wx.cell? ⟨pb,0,none⟩=some (.string s)∧wx.cell? ⟨pb,1,none⟩=some (.int .i64 k)) (exact KK.out _ (by (repeat (first | exact Below.refl _ _ | assumption | (refine Below.setCell ?_ (by first | exact Nat.le_refl _ | omega) _) | (refine Below.alloc ?_ (by first | exact Nat.le_refl _ | exact hb'.size | omega | (simp<;>omega)) _) | (refine Below.drew ?_))))) ((go_at_call 81;refine (HT.out _).mono ?_;rintro e w1 ⟨rfl,hb⟩;have hb':Below w0.heap.size w0 w1:=(by first | exact kb1 hb | exact kb2 hb);first | (have hz:=kz_a hb;have hz4:=cells4f hz;obtain⟨⟨z0,z1,z2,z3⟩,y0,y1,y2,y3⟩:=hz4) | skip))
  all_goals
   go_wp2_with fail
   go_meet
   case rel=>first | exact⟨_,rfl,ks3 hb⟩ | exact ks2 hb (Q:=fun W=>∃ kb,_=ptr kb∧KS w0 t kb W) (fun w2 h2=>⟨_,rfl,h2⟩)
 case rest =>
 obtain⟨kb,rfl,hS⟩:=hcut
 clear c0 c1 c2 c3 c4 f0 f1 f2 f3 f4 HT
 have hlo:=hS.lo
 have hne:kb≠pb:=by have:=h0.lt;omega
 have hner:kb≠rb:=by omega
 have hP:PD wc pb s k wr 0 d:=h0.below hS.below
 obtain⟨⟨c0,c1,c2,c3,c4⟩,f0,f1,f2,f3,f4⟩:=hP.cells
 obtain⟨⟨z0,z1,z2,z3⟩,y0,y1,y2,y3⟩:=cells4f hS.blk
 have hKx:Kp (·=pb) w wc:=hK0.below hS.below
 have hrc:wc.heap[rb]?=some (.cells NZ 57 (0,0)):=by rw [hS.below.block rb hrl];exact hr
 have hPe:=hP.setAt t.e
 have hKe:Kp (·=pb) wc (wc.setCell ⟨pb,1,none⟩ (.int .i64 t.e)):=kpset _ _ _ _
 have hrce:=hKe.blk hrc hrp
 have hkbe:=hKe.blk hS.blk hne
 have hKw:=hKx.trans hKe (fun n e=>.inl e)
 rw [HHC.out] at z0
 go_wp2_with fail
 go_at_call 139
 refine (rdeeper_go pb t.e d wr 0 s t.a _ hPe hd).mono ?_
 rintro e w3 ⟨rfl,hP3,hK3⟩
 have hr3:=hK3.blk hrce hrp
 have hKw3:=hKw.trans hK3 (fun n e=>.inl e)
 have hsz3:=hKw3.size
 clear c0 c1 c2 c3 c4 f0 f1 f2 f3 f4 z0 z1 z2 z3 y0 y1 y2 y3
 go_wp2_with fail
 go_at_call 110
 refine (HHREC.out _ hP3).mono ?_
 intro e w4 ho
 obtain⟨a1,n1,s1,r1,t1,p1,m1,e1,u,j,wr',bd,rfl,hN,hP4,hj,hK4,hX⟩:=ho.open
 have HX2:Hid _:=hX
 clear hX ho HHREC
 have hr4:=hK4.blk hr3 hrp
 have hKw4:=hKw3.trans hK4 (fun n e=>.inl e)
 have hK5:Kp (fun _=>False) w4 (w4.alloc (.cells (N12 a1 n1 s1 r1 t1 (.slice p1 m1 e1)) 57)):=(Kp.refl _ _).alloc _
 have hr5:=hK5.blk hr4 id
 have hP5:=hP4.alloc (.cells (N12 a1 n1 s1 r1 t1 (.slice p1 m1 e1)) 57)
 have hn5:=blk_new w4 (.cells (N12 a1 n1 s1 r1 t1 (.slice p1 m1 e1)) 57)
 have hN5:=hN.next hK5 (fun n e=>e.elim)
 have hKw5:=hKw4.trans hK5 (fun n e=>e.elim)
 have hnp:w4.heap.size≠pb:=by have:=hP4.lt;omega
 have hnr:w4.heap.size≠rb:=by have:=lt_blk hr4;omega
 have HLO:Hid (w3.heap.size≤w4.heap.size):=hK4.size
 have hp3:pb<w3.heap.size:=hP3.lt
 obtain⟨⟨c0,c1,c2,c3,c4⟩,f0,f1,f2,f3,f4⟩:=hP5.cells
 go_upto_region 33 with fail
 clear c0 c1 c2 c3 c4 f0 f1 f2 f3 f4
 generalize w4.alloc (.cells (N12 a1 n1 s1 r1 t1 (.slice p1 m1 e1)) 57)=w5 at *
 generalize w4.heap.size=nb at *
 have hP6:=hP5.setDeep d
 have hKs:=kpset w5 pb 4 (.int .i64 (d:Nat))
 have hr6:=hKs.blk hr5 hrp
 have hn6:=hKs.blk hn5 hnp
 have hN6:=hN5.next hKs (fun n e=>by left;omega)
 have hKw6:=hKw5.trans hKs (fun n e=>.inl e)
 have HS6:Hid (w3.heap.size≤(w5.setCell ⟨pb,4,none⟩ (.int .i64 (d:Nat))).heap.size):=Nat.le_trans HLO.out (Nat.le_trans (Nat.le_of_lt (lt_blk hn5)) hKs.size)
 generalize w5.setCell ⟨pb,4,none⟩ (.int .i64 (d:Nat))=w6 at *
 have hK7:Kp (fun _=>False) w6 (w6.alloc (.cells (N12 a1 n1 s1 r1 t1 (.slice p1 m1 e1)) 57)):=(Kp.refl _ _).alloc _
 have hr7:=hK7.blk hr6 id
 have hP7:=hP6.alloc (.cells (N12 a1 n1 s1 r1 t1 (.slice p1 m1 e1)) 57)
 have hg7:=blk_new w6 (.cells (N12 a1 n1 s1 r1 t1 (.slice p1 m1 e1)) 57)
 have hN7:=hN6.next hK7 (fun n e=>e.elim)
 have hKw7:=hKw6.trans hK7 (fun n e=>e.elim)
 have HSZ:Hid (w6.heap.size<(w6.alloc (.cells (N12 a1 n1 s1 r1 t1 (.slice p1 m1 e1)) 57)).heap.size):=by unfold Hid;simp
 obtain⟨⟨g0,g1,g2,g3,g4,g5,g6,g7,g8,g9,g10,g11⟩,gf⟩:=cells12 hn6
 obtain⟨⟨d0,d1,d2,d3,d4,d5,d6,d7,d8,d9,d10,d11⟩,df⟩:=cells12 hr7
 go_wp2_with fail
 clear g0 g1 g2 g3 g4 g5 g6 g7 g8 g9 g10 g11 gf d0 d1 d2 d3 d4 d5 d6 d7 d8 d9 d10 d11 df
 refine fin12 hr7 (Q:=bodyPost _ _ _ _ _) ?_
 intro w9 hq9 hk9
 obtain⟨⟨b0,b1,b2,b3,b4,b5,b6,b7,b8,b9,b10,b11⟩,bf⟩:=cells12 hq9
 refine bodyPost_ret (v:=NV 7 0 nul .z .z (.slice (some ⟨w6.heap.size,0,none⟩) 1 1)) (by simp [results,Tryz.results110,go_sem,b0,b1,b2,b3,b4,b5,b6,b7,b8,b9,b10,b11]) rfl ?_
 have hP9:=hP7.keep hk9 (fun e=>hrp e.symm)
 have hK9:=hKw7.trans hk9 (fun n e=>by right;rw [HRB.out,e];exact Nat.le_refl _)
 have hrn:w6.heap.size≠rb:=by have:=lt_blk hr6;omega
 have hg9:=hk9.blk hg7 hrn
 have q1:=HSZ.out
 have q2:=hk9.size
 have q3:=HS6.out
 have hsz:=hsz3
 have hN9:Nd w9 (Own w w9) (NV 7 0 nul .z .z (.slice (some ⟨w6.heap.size,0,none⟩) 1 1)) (tNeg u):=Nd.one hg9 ⟨by omega,by omega⟩ (Nat.le_refl _) (hN7.mono (fun n hn=>hk9.block n hn.2 (by have:=hn.1;have:=lt_blk hr3;omega)) (fun n hn=>⟨by have:=hn.1;omega,by have:=hn.2;omega⟩))
 rcases HX2.out with ⟨k',rfl,rfl,rfl,hsk⟩ | ⟨f,rfl,rfl,hb⟩
 ·exact⟨_,j,rfl,hN9,hP9,hj,hsk,hK9⟩
 ·exact⟨_,_,j,rfl,hN9,hP9,hj,hb,hK9⟩
end Go.Proofs.YtgifkepklnhddaaGreatDoor.fm
namespace Go.Proofs.YtgifkepklnhddaaGreatDoor.fm
open Go.RowKit
set_option maxRecDepth 100000 in
set_option maxHeartbeats 8000000 in
theorem rone_par_full (pb k d:Nat) (wr:Int) (s:ByteArray) (hs:s.size≤200) (w:World) (h:PD w pb s k wr 0 d) (hk:k≤s.size) (t:Tk) (ht:tkR s k=t) (hc:t.kind=4) (hx:(t.t.toList == [40])=true) (hd:d=30) :
  Calls Tryz.prog 110 #[ptr pb] w (OutR w pb s d wr (.err t.a 4)):=by
 have hte:t.e≤s.size:=ht ▸ (tk_spec s k hk).2.2
 have HT:Hid (∀ w,Calls Tryz.prog 81 #[.string s,.int .i64 k] w fun e w'=>e=.returned (KV (tkR s k).kind ((tkR s k).a:Nat) ((tkR s k).e:Nat) (tkR s k).t)∧Below w.heap.size w w'):=fun w=>token_at s k w hs hk
 rw [ht] at HT
 clear ht
 have HHC:Hid (t.kind=4):=hc
 clear hc
 go_enter Tryz.func110,Tryz.ntmps110
 go_upto_region 1 with fail
 have h0:PD (w.alloc (.cells NZ 57)) pb s k wr 0 d:=h.below ((Below.refl _ _).alloc (Nat.le_refl _) _)
 have hr:(w.alloc (.cells NZ 57)).heap[w.heap.size]?=some (.cells NZ 57 (0,0)):=blk_new _ _
 have hK0:Kp (·=pb) w (w.alloc (.cells NZ 57)):=(Kp.refl _ w).alloc _
 have hlt:=h.lt
 have hrl:w.heap.size<(w.alloc (.cells NZ 57)).heap.size:=by simp
 obtain⟨rb,hrb⟩:∃ rb,w.heap.size=rb:=⟨_,rfl⟩
 rw [hrb] at hr hrl hlt ⊢
 have HRB:Hid (w.heap.size=rb):=hrb
 clear hrb
 generalize w.alloc (.cells NZ 57)=w0 at *
 obtain⟨⟨c0,c1,c2,c3,c4⟩,f0,f1,f2,f3,f4⟩:=h0.cells
 have hrp:rb≠pb:=by omega
 go_cut [3] (fun s3 wx=>∃ kb,s3=ptr kb∧KS w0 t kb wx)
 case first =>
  have hlt0:=h0.lt
  have hne:w0.heap.size≠pb:=by omega
  have hne':pb≠w0.heap.size:=by omega
  have KK:Hid (∀ wx,Below w0.heap.size w0 wx→wx.cell? ⟨pb,0,none⟩=some (.string s)∧wx.cell? ⟨pb,1,none⟩=some (.int .i64 k)):=fun wx hb=>⟨(hb.cell (p:=⟨pb,0,none⟩) hlt0).trans c0,(hb.cell (p:=⟨pb,1,none⟩) hlt0).trans c1⟩
  clear c0 c1 c2 c3 c4 f0 f1 f2 f3 f4
  go_region_held3 (fun wx=>wx.cell? ⟨pb,0,none⟩=some (.string s)∧wx.cell? ⟨pb,1,none⟩=some (.int .i64 k)) (exact KK.out _ (by (repeat (first | exact Below.refl _ _ | assumption | (refine Below.setCell ?_ (by first | exact Nat.le_refl _ | omega) _) | (refine Below.alloc ?_ (by first | exact Nat.le_refl _ | exact hb'.size | omega | (simp<;>omega)) _) | (refine Below.drew ?_))))) ((go_at_call 81;refine (HT.out _).mono ?_;rintro e w1 ⟨rfl,hb⟩;have hb':Below w0.heap.size w0 w1:=(by first | exact kb1 hb | exact kb2 hb);first | (have hz:=kz_a hb;have hz4:=cells4f hz;obtain⟨⟨z0,z1,z2,z3⟩,y0,y1,y2,y3⟩:=hz4) | skip))
  all_goals
   go_wp2_with fail
   go_meet
   case rel=>first | exact⟨_,rfl,ks3 hb⟩ | exact ks2 hb (Q:=fun W=>∃ kb,_=ptr kb∧KS w0 t kb W) (fun w2 h2=>⟨_,rfl,h2⟩)
 case rest =>
 obtain⟨kb,rfl,hS⟩:=hcut
 clear c0 c1 c2 c3 c4 f0 f1 f2 f3 f4 HT
 have hlo:=hS.lo
 have hne:kb≠pb:=by have:=h0.lt;omega
 have hner:kb≠rb:=by omega
 have hP:PD wc pb s k wr 0 d:=h0.below hS.below
 obtain⟨⟨c0,c1,c2,c3,c4⟩,f0,f1,f2,f3,f4⟩:=hP.cells
 obtain⟨⟨z0,z1,z2,z3⟩,y0,y1,y2,y3⟩:=cells4f hS.blk
 have hKx:Kp (·=pb) w wc:=hK0.below hS.below
 have hrc:wc.heap[rb]?=some (.cells NZ 57 (0,0)):=by rw [hS.below.block rb hrl];exact hr
 have hPe:=hP.setAt t.e
 have hKe:Kp (·=pb) wc (wc.setCell ⟨pb,1,none⟩ (.int .i64 t.e)):=kpset _ _ _ _
 have hrce:=hKe.blk hrc hrp
 have hkbe:=hKe.blk hS.blk hne
 have hKw:=hKx.trans hKe (fun n e=>.inl e)
 rw [HHC.out] at z0
 have hx45:(t.t.toList == [45])=false:=by rw [beq_eq_false_iff_ne];rw [beq_iff_eq] at hx;rw [hx];decide
 go_wp2_with fail
 go_at_call 139
 subst hd
 refine (rdeeper_full pb t.e wr s t.a _ hPe).mono ?_
 rintro e w3 ⟨rfl,hP3,hK3⟩
 have hr3:=hK3.blk hrce hrp
 have hKw3:=hKw.trans hK3 (fun n e=>.inl e)
 clear c0 c1 c2 c3 c4 f0 f1 f2 f3 f4 z0 z1 z2 z3 y0 y1 y2 y3
 obtain⟨⟨d0,d1,d2,d3,d4,d5,d6,d7,d8,d9,d10,d11⟩,df⟩:=cells12 hr3
 go_wp2_with fail
 clear d0 d1 d2 d3 d4 d5 d6 d7 d8 d9 d10 d11 df
 refine fin12 hr3 (Q:=bodyPost _ _ _ _ _) ?_
 intro w9 hq9 hk9
 obtain⟨⟨b0,b1,b2,b3,b4,b5,b6,b7,b8,b9,b10,b11⟩,bf⟩:=cells12 hq9
 refine bodyPost_ret (v:=NV 0 0 nul .z .z (.slice none 0 0)) (by simp [results,Tryz.results110,go_sem,b0,b1,b2,b3,b4,b5,b6,b7,b8,b9,b10,b11]) rfl ?_
 have hP9:=hP3.keep hk9 (fun e=>hrp e.symm)
 have hK9:=hKw3.trans hk9 (fun n e=>by right;rw [HRB.out,e];exact Nat.le_refl _)
 exact⟨_,_,t.e,rfl,Nd.leaf,hP9,hte,by omega,hK9⟩
set_option maxRecDepth 100000 in
set_option maxHeartbeats 8000000 in
theorem rone_par (pb k d:Nat) (wr:Int) (s:ByteArray) (hs:s.size≤200) (w:World) (h:PD w pb s k wr 0 d) (hk:k≤s.size) (t:Tk) (ht:tkR s k=t) (hc:t.kind=4) (hx:(t.t.toList == [40])=true) (hd:d<30) (R:Rs T) (hrec:∀ w1,PD w1 pb s t.e wr 0 (d+1)→Calls Tryz.prog 80 #[ptr pb,.int .i64 1] w1 (OutR w1 pb s (d+1) wr R)) :
  Calls Tryz.prog 110 #[ptr pb] w (OutR w pb s d wr (R.bind fun u k1=>if nx s (skip s k1)=41 then .ok u (skip s k1+1) else .err (skip s k1) 2)):=by
 have hte:t.e≤s.size:=ht ▸ (tk_spec s k hk).2.2
 have HT:Hid (∀ w,Calls Tryz.prog 81 #[.string s,.int .i64 k] w fun e w'=>e=.returned (KV (tkR s k).kind ((tkR s k).a:Nat) ((tkR s k).e:Nat) (tkR s k).t)∧Below w.heap.size w w'):=fun w=>token_at s k w hs hk
 rw [ht] at HT
 clear ht
 have HHC:Hid (t.kind=4):=hc
 clear hc
 have HHREC:Hid (∀ w1,PD w1 pb s t.e wr 0 (d+1)→Calls Tryz.prog 80 #[ptr pb,.int .i64 1] w1 (OutR w1 pb s (d+1) wr R)):=hrec
 clear hrec
 go_enter Tryz.func110,Tryz.ntmps110
 go_upto_region 1 with fail
 have h0:PD (w.alloc (.cells NZ 57)) pb s k wr 0 d:=h.below ((Below.refl _ _).alloc (Nat.le_refl _) _)
 have hr:(w.alloc (.cells NZ 57)).heap[w.heap.size]?=some (.cells NZ 57 (0,0)):=blk_new _ _
 have hK0:Kp (·=pb) w (w.alloc (.cells NZ 57)):=(Kp.refl _ w).alloc _
 have hlt:=h.lt
 have hrl:w.heap.size<(w.alloc (.cells NZ 57)).heap.size:=by simp
 obtain⟨rb,hrb⟩:∃ rb,w.heap.size=rb:=⟨_,rfl⟩
 rw [hrb] at hr hrl hlt ⊢
 have HRB:Hid (w.heap.size=rb):=hrb
 clear hrb
 generalize w.alloc (.cells NZ 57)=w0 at *
 obtain⟨⟨c0,c1,c2,c3,c4⟩,f0,f1,f2,f3,f4⟩:=h0.cells
 have hrp:rb≠pb:=by omega
 go_cut [3] (fun s3 wx=>∃ kb,s3=ptr kb∧KS w0 t kb wx)
 case first =>
  have hlt0:=h0.lt
  have hne:w0.heap.size≠pb:=by omega
  have hne':pb≠w0.heap.size:=by omega
  have KK:Hid (∀ wx,Below w0.heap.size w0 wx→wx.cell? ⟨pb,0,none⟩=some (.string s)∧wx.cell? ⟨pb,1,none⟩=some (.int .i64 k)):=fun wx hb=>⟨(hb.cell (p:=⟨pb,0,none⟩) hlt0).trans c0,(hb.cell (p:=⟨pb,1,none⟩) hlt0).trans c1⟩
  clear c0 c1 c2 c3 c4 f0 f1 f2 f3 f4
  go_region_held3 (fun wx=>wx.cell? ⟨pb,0,none⟩=some (.string s)∧wx.cell? ⟨pb,1,none⟩=some (.int .i64 k)) (exact KK.out _ (by (repeat (first | exact Below.refl _ _ | assumption | (refine Below.setCell ?_ (by first | exact Nat.le_refl _ | omega) _) | (refine Below.alloc ?_ (by first | exact Nat.le_refl _ | exact hb'.size | omega | (simp<;>omega)) _) | (refine Below.drew ?_))))) ((go_at_call 81;refine (HT.out _).mono ?_;rintro e w1 ⟨rfl,hb⟩;have hb':Below w0.heap.size w0 w1:=(by first | exact kb1 hb | exact kb2 hb);first | (have hz:=kz_a hb;have hz4:=cells4f hz;obtain⟨⟨z0,z1,z2,z3⟩,y0,y1,y2,y3⟩:=hz4) | skip))
  all_goals
   go_wp2_with fail
   go_meet
   case rel=>first | exact⟨_,rfl,ks3 hb⟩ | exact ks2 hb (Q:=fun W=>∃ kb,_=ptr kb∧KS w0 t kb W) (fun w2 h2=>⟨_,rfl,h2⟩)
 case rest =>
 obtain⟨kb,rfl,hS⟩:=hcut
 clear c0 c1 c2 c3 c4 f0 f1 f2 f3 f4 HT
 have hlo:=hS.lo
 have hne:kb≠pb:=by have:=h0.lt;omega
 have hner:kb≠rb:=by omega
 have hP:PD wc pb s k wr 0 d:=h0.below hS.below
 obtain⟨⟨c0,c1,c2,c3,c4⟩,f0,f1,f2,f3,f4⟩:=hP.cells
 obtain⟨⟨z0,z1,z2,z3⟩,y0,y1,y2,y3⟩:=cells4f hS.blk
 have hKx:Kp (·=pb) w wc:=hK0.below hS.below
 have hrc:wc.heap[rb]?=some (.cells NZ 57 (0,0)):=by rw [hS.below.block rb hrl];exact hr
 have hPe:=hP.setAt t.e
 have hKe:Kp (·=pb) wc (wc.setCell ⟨pb,1,none⟩ (.int .i64 t.e)):=kpset _ _ _ _
 have hrce:=hKe.blk hrc hrp
 have hkbe:=hKe.blk hS.blk hne
 have hKw:=hKx.trans hKe (fun n e=>.inl e)
 rw [HHC.out] at z0
 have hx45:(t.t.toList == [45])=false:=by rw [beq_eq_false_iff_ne];rw [beq_iff_eq] at hx;rw [hx];decide
 go_wp2_with fail
 go_at_call 139
 refine (rdeeper_go pb t.e d wr 0 s t.a _ hPe hd).mono ?_
 rintro e w3 ⟨rfl,hP3,hK3⟩
 have hr3:=hK3.blk hrce hrp
 have hKw3:=hKw.trans hK3 (fun n e=>.inl e)
 have hsz3:=hKw3.size
 clear c0 c1 c2 c3 c4 f0 f1 f2 f3 f4 z0 z1 z2 z3 y0 y1 y2 y3
 go_wp2_with fail
 go_at_call 80
 refine (HHREC.out _ hP3).mono ?_
 intro e w4 ho
 obtain⟨a1,n1,s1,r1,t1,p1,m1,e1,u,j,wr',bd,rfl,hN,hP4,hj,hK4,hX⟩:=ho.open
 have HX2:Hid _:=hX
 clear hX ho HHREC
 have hr4:=hK4.blk hr3 hrp
 have hKw4:=hKw3.trans hK4 (fun n e=>.inl e)
 have hK5:Kp (fun _=>False) w4 (w4.alloc (.cells (N12 a1 n1 s1 r1 t1 (.slice p1 m1 e1)) 57)):=(Kp.refl _ _).alloc _
 have hr5:=hK5.blk hr4 id
 have hP5:=hP4.alloc (.cells (N12 a1 n1 s1 r1 t1 (.slice p1 m1 e1)) 57)
 have hn5:=blk_new w4 (.cells (N12 a1 n1 s1 r1 t1 (.slice p1 m1 e1)) 57)
 have hN5:=hN.next hK5 (fun n e=>e.elim)
 have hKw5:=hKw4.trans hK5 (fun n e=>e.elim)
 have hnp:w4.heap.size≠pb:=by have:=hP4.lt;omega
 have hnr:w4.heap.size≠rb:=by have:=lt_blk hr4;omega
 have HLO:Hid (w3.heap.size≤w4.heap.size):=hK4.size
 have hp3:pb<w3.heap.size:=hP3.lt
 go_wp2_with fail
 go_at_call 144
 refine (rclose_any pb j d wr' bd s hs _ hP5 hj (by omega)).mono ?_
 rintro e w6 ⟨rfl,⟨j2,wr2,bd2,hP6,hj2,hsh⟩,hK6⟩
 have HSH:Hid _:=hsh
 clear hsh
 have hr6:=hK6.blk hr5 hrp
 have hn6:=hK6.blk hn5 hnp
 have hN6:=hN5.next hK6 (fun n e=>by left;omega)
 have hKw6:=hKw5.trans hK6 (fun n e=>.inl e)
 generalize w4.heap.size=nb at *
 obtain⟨⟨g0,g1,g2,g3,g4,g5,g6,g7,g8,g9,g10,g11⟩,gf⟩:=cells12 hn6
 obtain⟨⟨d0,d1,d2,d3,d4,d5,d6,d7,d8,d9,d10,d11⟩,df⟩:=cells12 hr6
 go_wp2_with fail
 clear g0 g1 g2 g3 g4 g5 g6 g7 g8 g9 g10 g11 gf d0 d1 d2 d3 d4 d5 d6 d7 d8 d9 d10 d11 df
 refine fin12 hr6 (Q:=bodyPost _ _ _ _ _) ?_
 intro w9 hq9 hk9
 obtain⟨⟨b0,b1,b2,b3,b4,b5,b6,b7,b8,b9,b10,b11⟩,bf⟩:=cells12 hq9
 refine bodyPost_ret (v:=NV a1 n1 s1 r1 t1 (.slice p1 m1 e1)) (by simp [results,Tryz.results110,go_sem,b0,b1,b2,b3,b4,b5,b6,b7,b8,b9,b10,b11]) rfl ?_
 have hP9:=hP6.keep hk9 (fun e=>hrp e.symm)
 have hK9:=hKw6.trans hk9 (fun n e=>by right;rw [HRB.out,e];exact Nat.le_refl _)
 have q2:=hk9.size
 have hsz:=hsz3
 have hN9:Nd w9 (Own w w9) (NV a1 n1 s1 r1 t1 (.slice p1 m1 e1)) u:=hN6.mono (fun n hn=>hk9.block n hn.2 (by have:=hn.1;have:=lt_blk hr3;omega)) (fun n hn=>⟨by have:=hn.1;omega,by have:=hn.2;omega⟩)
 rcases HX2.out with ⟨k',rfl,rfl,rfl,hsk⟩ | ⟨f,rfl,rfl,hb⟩
 ·rcases HSH.out with ⟨hn,_⟩ | ⟨_,h41,rfl,rfl,rfl⟩ | ⟨_,h41,rfl,rfl⟩
  ·exact absurd rfl hn
  ·show OutR w pb s d _ (if nx s (skip s k')=41 then .ok u (skip s k'+1) else .err (skip s k') 2) _ _
   rw [if_pos (by rw [← hsk];exact h41)]
   exact⟨_,_,rfl,hN9,hP9,hj2,by rw [hsk],hK9⟩
  ·show OutR w pb s d _ (if nx s (skip s k')=41 then .ok u (skip s k'+1) else .err (skip s k') 2) _ _
   rw [if_neg (by rw [← hsk];exact h41),← hsk]
   exact⟨_,_,_,rfl,hN9,hP9,hj2,by omega,hK9⟩
 ·rcases HSH.out with ⟨_,rfl,rfl⟩ | ⟨hn,_⟩ | ⟨hn,_⟩
  ·exact⟨_,_,_,rfl,hN9,hP9,hj2,hb,hK9⟩
  ·exact absurd hn hb
  ·exact absurd hn hb
end Go.Proofs.YtgifkepklnhddaaGreatDoor.fm
namespace Go.Proofs.YtgifkepklnhddaaGreatDoor.fm
open Go.RowKit
set_option maxRecDepth 100000 in
set_option maxHeartbeats 8000000 in
theorem rone_call_full (pb k d:Nat) (wr:Int) (s:ByteArray) (hs:s.size≤200) (w:World) (h:PD w pb s k wr 0 d) (hk:k≤s.size) (t:Tk) (ht:tkR s k=t) (hc:t.kind=1) (htz:t.t.size≤200) (hg:true=(isNm t.t && decide (nx s t.e=40))) (hd:d=30) :
  Calls Tryz.prog 110 #[ptr pb] w (OutR w pb s d wr (.err t.a 4)):=by
 have hte:t.e≤s.size:=ht ▸ (tk_spec s k hk).2.2
 have HT:Hid (∀ w,Calls Tryz.prog 81 #[.string s,.int .i64 k] w fun e w'=>e=.returned (KV (tkR s k).kind ((tkR s k).a:Nat) ((tkR s k).e:Nat) (tkR s k).t)∧Below w.heap.size w w'):=fun w=>token_at s k w hs hk
 rw [ht] at HT
 clear ht
 have HHC:Hid (t.kind=1):=hc
 clear hc
 obtain⟨g,hgf⟩:∃ g:Bool,g=true:=⟨_,rfl⟩
 rw [← hgf] at hg
 have HGF:Hid (g=true):=hgf
 clear hgf
 go_enter Tryz.func110,Tryz.ntmps110
 go_upto_region 1 with fail
 have h0:PD (w.alloc (.cells NZ 57)) pb s k wr 0 d:=h.below ((Below.refl _ _).alloc (Nat.le_refl _) _)
 have hr:(w.alloc (.cells NZ 57)).heap[w.heap.size]?=some (.cells NZ 57 (0,0)):=blk_new _ _
 have hK0:Kp (·=pb) w (w.alloc (.cells NZ 57)):=(Kp.refl _ w).alloc _
 have hlt:=h.lt
 have hrl:w.heap.size<(w.alloc (.cells NZ 57)).heap.size:=by simp
 obtain⟨rb,hrb⟩:∃ rb,w.heap.size=rb:=⟨_,rfl⟩
 rw [hrb] at hr hrl hlt ⊢
 have HRB:Hid (w.heap.size=rb):=hrb
 clear hrb
 generalize w.alloc (.cells NZ 57)=w0 at *
 obtain⟨⟨c0,c1,c2,c3,c4⟩,f0,f1,f2,f3,f4⟩:=h0.cells
 have hrp:rb≠pb:=by omega
 go_cut [3] (fun s3 wx=>∃ kb,s3=ptr kb∧KS w0 t kb wx)
 case first =>
  have hlt0:=h0.lt
  have hne:w0.heap.size≠pb:=by omega
  have hne':pb≠w0.heap.size:=by omega
  have KK:Hid (∀ wx,Below w0.heap.size w0 wx→wx.cell? ⟨pb,0,none⟩=some (.string s)∧wx.cell? ⟨pb,1,none⟩=some (.int .i64 k)):=fun wx hb=>⟨(hb.cell (p:=⟨pb,0,none⟩) hlt0).trans c0,(hb.cell (p:=⟨pb,1,none⟩) hlt0).trans c1⟩
  clear c0 c1 c2 c3 c4 f0 f1 f2 f3 f4
  go_region_held3 (fun wx=>wx.cell? ⟨pb,0,none⟩=some (.string s)∧wx.cell? ⟨pb,1,none⟩=some (.int .i64 k)) (exact KK.out _ (by (repeat (first | exact Below.refl _ _ | assumption | (refine Below.setCell ?_ (by first | exact Nat.le_refl _ | omega) _) | (refine Below.alloc ?_ (by first | exact Nat.le_refl _ | exact hb'.size | omega | (simp<;>omega)) _) | (refine Below.drew ?_))))) ((go_at_call 81;refine (HT.out _).mono ?_;rintro e w1 ⟨rfl,hb⟩;have hb':Below w0.heap.size w0 w1:=(by first | exact kb1 hb | exact kb2 hb);first | (have hz:=kz_a hb;have hz4:=cells4f hz;obtain⟨⟨z0,z1,z2,z3⟩,y0,y1,y2,y3⟩:=hz4) | skip))
  all_goals
   go_wp2_with fail
   go_meet
   case rel=>first | exact⟨_,rfl,ks3 hb⟩ | exact ks2 hb (Q:=fun W=>∃ kb,_=ptr kb∧KS w0 t kb W) (fun w2 h2=>⟨_,rfl,h2⟩)
 case rest =>
 obtain⟨kb,rfl,hS⟩:=hcut
 clear c0 c1 c2 c3 c4 f0 f1 f2 f3 f4 HT
 have hlo:=hS.lo
 have hne:kb≠pb:=by have:=h0.lt;omega
 have hner:kb≠rb:=by omega
 have hP:PD wc pb s k wr 0 d:=h0.below hS.below
 obtain⟨⟨c0,c1,c2,c3,c4⟩,f0,f1,f2,f3,f4⟩:=hP.cells
 obtain⟨⟨z0,z1,z2,z3⟩,y0,y1,y2,y3⟩:=cells4f hS.blk
 have hKx:Kp (·=pb) w wc:=hK0.below hS.below
 have hrc:wc.heap[rb]?=some (.cells NZ 57 (0,0)):=by rw [hS.below.block rb hrl];exact hr
 have hPe:=hP.setAt t.e
 have hKe:Kp (·=pb) wc (wc.setCell ⟨pb,1,none⟩ (.int .i64 t.e)):=kpset _ _ _ _
 have hrce:=hKe.blk hrc hrp
 have hkbe:=hKe.blk hS.blk hne
 have hKw:=hKx.trans hKe (fun n e=>.inl e)
 rw [HHC.out] at z0
 go_upto_region 6 with (first | (go_at_call 117;refine (called_any t.t _ htz).mono ?_;rintro e w3 ⟨rfl,rfl⟩))
 have hPel:=hPe.lt
 obtain⟨⟨e0,e1,e2,e3,e4⟩,h0',h1',h2',h3',h4'⟩:=hPe.cells
 obtain⟨⟨x0,x1,x2,x3⟩,v0,v1,v2,v3⟩:=cells4f hkbe
 clear c0 c1 c2 c3 c4 f0 f1 f2 f3 f4 z0 z1 z2 z3 y0 y1 y2 y3
 generalize wc.setCell ⟨pb,1,none⟩ (.int .i64 t.e)=we at *
 have HG:Hid (g=(isNm t.t && decide (nx s t.e=40))):=hg
 clear hg
 generalize isNm t.t=nm at *
 go_cut [56] (fun s56 wx=>s56=.bool g∧Below we.heap.size we wx)
 case first =>
  cases nm with
  | false =>
   have HG2:Hid (g=false):=by unfold Hid;rw [HG.out];rfl
   clear HG
   go_quiet (fail)
   go_wp2_with fail
   go_meet
   case rel=>exact⟨by rw [HG2.out],below_drewN (Below.refl _ _) _⟩
  | true =>
   by_cases hl:t.e<s.size
   ·have hl':(t.e:Int)<(s.size:Int):=by omega
    have hnn:(0:Int)≤(t.e:Int):=by omega
    have hb:(((s[t.e].toNat:Nat):Int) == 40)=g:=by
     rw [HG.out,nx_in hl,Bool.eq_iff_iff,beq_iff_eq]
     simp
     omega
    clear HG
    go_quiet (fail)
    go_wp2_with fail
    go_meet
    case rel=>exact⟨rfl,below_drewN (Below.refl _ _) _⟩
   ·have hl':¬ (t.e:Int)<(s.size:Int):=by omega
    have HG2:Hid (g=false):=by unfold Hid;rw [HG.out,nx_out hl];simp
    clear HG
    go_quiet (fail)
    go_wp2_with fail
    go_meet
    case rel=>exact⟨by rw [HG2.out],below_drewN (Below.refl _ _) _⟩
 case rest =>
 obtain⟨rfl,hbW⟩:=hcut
 clear e0 e1 e2 e3 e4 h0' h1' h2' h3' h4' x0 x1 x2 x3 v0 v1 v2 v3
 have hP6:PD wc pb s t.e wr 0 d:=hPe.below hbW
 have hr6:wc.heap[rb]?=some (.cells NZ 57 (0,0)):=by rw [hbW.block _ (lt_blk hrce)];exact hrce
 have hk6:wc.heap[kb]?=some (.cells (K4 t) 137 (0,0)):=by rw [hbW.block _ (lt_blk hkbe)];exact hkbe
 have hKw6:=hKw.below hbW
 obtain⟨⟨x0,x1,x2,x3⟩,v0,v1,v2,v3⟩:=cells4f hk6
 rw [HGF.out]
 go_wp2_with fail
 go_at_call 139
 subst hd
 refine (rdeeper_full pb t.e wr s t.a _ hP6).mono ?_
 rintro e w7 ⟨rfl,hP7,hK7⟩
 clear x0 x1 x2 x3 v0 v1 v2 v3
 have hr7:=hK7.blk hr6 hrp
 have hKw7:=hKw6.trans hK7 (fun n e=>.inl e)
 obtain⟨⟨d0,d1,d2,d3,d4,d5,d6,d7,d8,d9,d10,d11⟩,df⟩:=cells12 hr7
 go_wp2_with fail
 clear d0 d1 d2 d3 d4 d5 d6 d7 d8 d9 d10 d11 df
 refine fin12 hr7 (Q:=bodyPost _ _ _ _ _) ?_
 intro w9 hq9 hk9
 obtain⟨⟨b0,b1,b2,b3,b4,b5,b6,b7,b8,b9,b10,b11⟩,bf⟩:=cells12 hq9
 refine bodyPost_ret (v:=NV 0 0 nul .z .z (.slice none 0 0)) (by simp [results,Tryz.results110,go_sem,b0,b1,b2,b3,b4,b5,b6,b7,b8,b9,b10,b11]) rfl ?_
 have hP9:=hP7.keep hk9 (fun e=>hrp e.symm)
 have hK9:=hKw7.trans hk9 (fun n e=>by right;rw [HRB.out,e];exact Nat.le_refl _)
 exact⟨_,_,t.e,rfl,Nd.leaf,hP9,hte,by omega,hK9⟩
set_option maxRecDepth 100000 in
set_option maxHeartbeats 8000000 in
theorem rone_call (pb k d:Nat) (wr:Int) (s:ByteArray) (hs:s.size≤200) (w:World) (h:PD w pb s k wr 0 d) (hk:k≤s.size) (t:Tk) (ht:tkR s k=t) (hc:t.kind=1) (htz:t.t.size≤200) (hg:true=(isNm t.t && decide (nx s t.e=40))) (hd:d<30) (R:Rs T) (hrec:∀ w1,PD w1 pb s t.e wr 0 (d+1)→Calls Tryz.prog 140 #[ptr pb,.string t.t] w1 (OutR w1 pb s d wr R)) :
  Calls Tryz.prog 110 #[ptr pb] w (OutR w pb s d wr (R)):=by
 have hte:t.e≤s.size:=ht ▸ (tk_spec s k hk).2.2
 have HT:Hid (∀ w,Calls Tryz.prog 81 #[.string s,.int .i64 k] w fun e w'=>e=.returned (KV (tkR s k).kind ((tkR s k).a:Nat) ((tkR s k).e:Nat) (tkR s k).t)∧Below w.heap.size w w'):=fun w=>token_at s k w hs hk
 rw [ht] at HT
 clear ht
 have HHC:Hid (t.kind=1):=hc
 clear hc
 have HHREC:Hid (∀ w1,PD w1 pb s t.e wr 0 (d+1)→Calls Tryz.prog 140 #[ptr pb,.string t.t] w1 (OutR w1 pb s d wr R)):=hrec
 clear hrec
 obtain⟨g,hgf⟩:∃ g:Bool,g=true:=⟨_,rfl⟩
 rw [← hgf] at hg
 have HGF:Hid (g=true):=hgf
 clear hgf
 go_enter Tryz.func110,Tryz.ntmps110
 go_upto_region 1 with fail
 have h0:PD (w.alloc (.cells NZ 57)) pb s k wr 0 d:=h.below ((Below.refl _ _).alloc (Nat.le_refl _) _)
 have hr:(w.alloc (.cells NZ 57)).heap[w.heap.size]?=some (.cells NZ 57 (0,0)):=blk_new _ _
 have hK0:Kp (·=pb) w (w.alloc (.cells NZ 57)):=(Kp.refl _ w).alloc _
 have hlt:=h.lt
 have hrl:w.heap.size<(w.alloc (.cells NZ 57)).heap.size:=by simp
 obtain⟨rb,hrb⟩:∃ rb,w.heap.size=rb:=⟨_,rfl⟩
 rw [hrb] at hr hrl hlt ⊢
 have HRB:Hid (w.heap.size=rb):=hrb
 clear hrb
 generalize w.alloc (.cells NZ 57)=w0 at *
 obtain⟨⟨c0,c1,c2,c3,c4⟩,f0,f1,f2,f3,f4⟩:=h0.cells
 have hrp:rb≠pb:=by omega
 go_cut [3] (fun s3 wx=>∃ kb,s3=ptr kb∧KS w0 t kb wx)
 case first =>
  have hlt0:=h0.lt
  have hne:w0.heap.size≠pb:=by omega
  have hne':pb≠w0.heap.size:=by omega
  have KK:Hid (∀ wx,Below w0.heap.size w0 wx→wx.cell? ⟨pb,0,none⟩=some (.string s)∧wx.cell? ⟨pb,1,none⟩=some (.int .i64 k)):=fun wx hb=>⟨(hb.cell (p:=⟨pb,0,none⟩) hlt0).trans c0,(hb.cell (p:=⟨pb,1,none⟩) hlt0).trans c1⟩
  clear c0 c1 c2 c3 c4 f0 f1 f2 f3 f4
  go_region_held3 (fun wx=>wx.cell? ⟨pb,0,none⟩=some (.string s)∧wx.cell? ⟨pb,1,none⟩=some (.int .i64 k)) (exact KK.out _ (by (repeat (first | exact Below.refl _ _ | assumption | (refine Below.setCell ?_ (by first | exact Nat.le_refl _ | omega) _) | (refine Below.alloc ?_ (by first | exact Nat.le_refl _ | exact hb'.size | omega | (simp<;>omega)) _) | (refine Below.drew ?_))))) ((go_at_call 81;refine (HT.out _).mono ?_;rintro e w1 ⟨rfl,hb⟩;have hb':Below w0.heap.size w0 w1:=(by first | exact kb1 hb | exact kb2 hb);first | (have hz:=kz_a hb;have hz4:=cells4f hz;obtain⟨⟨z0,z1,z2,z3⟩,y0,y1,y2,y3⟩:=hz4) | skip))
  all_goals
   go_wp2_with fail
   go_meet
   case rel=>first | exact⟨_,rfl,ks3 hb⟩ | exact ks2 hb (Q:=fun W=>∃ kb,_=ptr kb∧KS w0 t kb W) (fun w2 h2=>⟨_,rfl,h2⟩)
 case rest =>
 obtain⟨kb,rfl,hS⟩:=hcut
 clear c0 c1 c2 c3 c4 f0 f1 f2 f3 f4 HT
 have hlo:=hS.lo
 have hne:kb≠pb:=by have:=h0.lt;omega
 have hner:kb≠rb:=by omega
 have hP:PD wc pb s k wr 0 d:=h0.below hS.below
 obtain⟨⟨c0,c1,c2,c3,c4⟩,f0,f1,f2,f3,f4⟩:=hP.cells
 obtain⟨⟨z0,z1,z2,z3⟩,y0,y1,y2,y3⟩:=cells4f hS.blk
 have hKx:Kp (·=pb) w wc:=hK0.below hS.below
 have hrc:wc.heap[rb]?=some (.cells NZ 57 (0,0)):=by rw [hS.below.block rb hrl];exact hr
 have hPe:=hP.setAt t.e
 have hKe:Kp (·=pb) wc (wc.setCell ⟨pb,1,none⟩ (.int .i64 t.e)):=kpset _ _ _ _
 have hrce:=hKe.blk hrc hrp
 have hkbe:=hKe.blk hS.blk hne
 have hKw:=hKx.trans hKe (fun n e=>.inl e)
 rw [HHC.out] at z0
 go_upto_region 6 with (first | (go_at_call 117;refine (called_any t.t _ htz).mono ?_;rintro e w3 ⟨rfl,rfl⟩))
 have hPel:=hPe.lt
 obtain⟨⟨e0,e1,e2,e3,e4⟩,h0',h1',h2',h3',h4'⟩:=hPe.cells
 obtain⟨⟨x0,x1,x2,x3⟩,v0,v1,v2,v3⟩:=cells4f hkbe
 clear c0 c1 c2 c3 c4 f0 f1 f2 f3 f4 z0 z1 z2 z3 y0 y1 y2 y3
 generalize wc.setCell ⟨pb,1,none⟩ (.int .i64 t.e)=we at *
 have HG:Hid (g=(isNm t.t && decide (nx s t.e=40))):=hg
 clear hg
 generalize isNm t.t=nm at *
 go_cut [56] (fun s56 wx=>s56=.bool g∧Below we.heap.size we wx)
 case first =>
  cases nm with
  | false =>
   have HG2:Hid (g=false):=by unfold Hid;rw [HG.out];rfl
   clear HG
   go_quiet (fail)
   go_wp2_with fail
   go_meet
   case rel=>exact⟨by rw [HG2.out],below_drewN (Below.refl _ _) _⟩
  | true =>
   by_cases hl:t.e<s.size
   ·have hl':(t.e:Int)<(s.size:Int):=by omega
    have hnn:(0:Int)≤(t.e:Int):=by omega
    have hb:(((s[t.e].toNat:Nat):Int) == 40)=g:=by
     rw [HG.out,nx_in hl,Bool.eq_iff_iff,beq_iff_eq]
     simp
     omega
    clear HG
    go_quiet (fail)
    go_wp2_with fail
    go_meet
    case rel=>exact⟨rfl,below_drewN (Below.refl _ _) _⟩
   ·have hl':¬ (t.e:Int)<(s.size:Int):=by omega
    have HG2:Hid (g=false):=by unfold Hid;rw [HG.out,nx_out hl];simp
    clear HG
    go_quiet (fail)
    go_wp2_with fail
    go_meet
    case rel=>exact⟨by rw [HG2.out],below_drewN (Below.refl _ _) _⟩
 case rest =>
 obtain⟨rfl,hbW⟩:=hcut
 clear e0 e1 e2 e3 e4 h0' h1' h2' h3' h4' x0 x1 x2 x3 v0 v1 v2 v3
 have hP6:PD wc pb s t.e wr 0 d:=hPe.below hbW
 have hr6:wc.heap[rb]?=some (.cells NZ 57 (0,0)):=by rw [hbW.block _ (lt_blk hrce)];exact hrce
 have hk6:wc.heap[kb]?=some (.cells (K4 t) 137 (0,0)):=by rw [hbW.block _ (lt_blk hkbe)];exact hkbe
 have hKw6:=hKw.below hbW
 obtain⟨⟨x0,x1,x2,x3⟩,v0,v1,v2,v3⟩:=cells4f hk6
 rw [HGF.out]
 go_wp2_with fail
 go_at_call 139
 refine (rdeeper_go pb t.e d wr 0 s t.a _ hP6 hd).mono ?_
 rintro e w7 ⟨rfl,hP7,hK7⟩
 clear x0 x1 x2 x3 v0 v1 v2 v3
 have hr7:=hK7.blk hr6 hrp
 have hk7:=hK7.blk hk6 hne
 have hKw7:=hKw6.trans hK7 (fun n e=>.inl e)
 have hsz7:=hKw7.size
 obtain⟨⟨x0,x1,x2,x3⟩,v0,v1,v2,v3⟩:=cells4f hk7
 go_wp2_with fail
 go_at_call 140
 refine (HHREC.out _ hP7).mono ?_
 intro e w8 ho
 obtain⟨a1,n1,s1,r1,t1,p1,m1,e1,u,j,wr',bd,rfl,hN,hP8,hj,hK8,hX⟩:=ho.open
 have HX2:Hid _:=hX
 clear hX ho HHREC x0 x1 x2 x3 v0 v1 v2 v3
 have hr8:=hK8.blk hr7 hrp
 have hKw8:=hKw7.trans hK8 (fun n e=>.inl e)
 obtain⟨⟨d0,d1,d2,d3,d4,d5,d6,d7,d8,d9,d10,d11⟩,df⟩:=cells12 hr8
 go_wp2_with fail
 clear d0 d1 d2 d3 d4 d5 d6 d7 d8 d9 d10 d11 df
 refine fin12 hr8 (Q:=bodyPost _ _ _ _ _) ?_
 intro w9 hq9 hk9
 obtain⟨⟨b0,b1,b2,b3,b4,b5,b6,b7,b8,b9,b10,b11⟩,bf⟩:=cells12 hq9
 refine bodyPost_ret (v:=NV a1 n1 s1 r1 t1 (.slice p1 m1 e1)) (by simp [results,Tryz.results110,go_sem,b0,b1,b2,b3,b4,b5,b6,b7,b8,b9,b10,b11]) rfl ?_
 have hP9:=hP8.keep hk9 (fun e=>hrp e.symm)
 have hK9:=hKw8.trans hk9 (fun n e=>by right;rw [HRB.out,e];exact Nat.le_refl _)
 have q2:=hk9.size
 have hN9:Nd w9 (Own w w9) (NV a1 n1 s1 r1 t1 (.slice p1 m1 e1)) u:=hN.mono (fun n hn=>hk9.block n hn.2 (by have:=hn.1;have:=lt_blk hr7;omega)) (fun n hn=>⟨by have:=hn.1;omega,by have:=hn.2;omega⟩)
 rcases HX2.out with ⟨k',rfl,rfl,rfl,hsk⟩ | ⟨f,rfl,rfl,hb⟩
 ·exact⟨_,j,rfl,hN9,hP9,hj,hsk,hK9⟩
 ·exact⟨_,_,j,rfl,hN9,hP9,hj,hb,hK9⟩
end Go.Proofs.YtgifkepklnhddaaGreatDoor.fm

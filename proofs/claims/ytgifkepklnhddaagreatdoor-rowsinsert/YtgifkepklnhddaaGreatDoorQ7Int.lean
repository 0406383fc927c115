import Derived.Test.YtgifkepklnhddaaGreatDoorQ7Big
import Derived.Deep.QuietTactic
import Derived.BigQuiet
namespace Go.Proofs.YtgifkepklnhddaaGreatDoor
open Go.RowKit
theorem Row.drewN {w:World} {b N:Nat} {f:Nat→Nat} (h:Row w b N f) (k:Nat):Row (w.drewN k) b N f:=⟨h.lt,h.cell,h.free⟩
theorem below_drewN {B:Nat} {w x:World} (h:Below B w x) (k:Nat):Below B w (x.drewN k):=⟨h.os,h.tape,h.output,h.size,h.block⟩
set_option maxHeartbeats 1000000 in
theorem mul_zero (a1 a2:Option Addr) (n m c1 c2:Nat) (w:World) (h:n=0∨m=0) (hn:n≤17592186044420) (hm:m≤17592186044420) :
  Calls Tryz.prog 193 #[.slice a1 n c1,.slice a2 m c2] w fun e w'=>e=.returned (.slice none 0 0)∧w'=w:=by
 by_cases z:n=0
 ·have hz:((n:Int) == 0)=true:=by simp [z]
  clear h z
  go_enter Tryz.func193,Tryz.ntmps193
  go_wp2
  go_ret
  exact⟨rfl,rfl⟩
 ·have hz:((n:Int) == 0)=false:=by simp [z]
  have hz2:((m:Int) == 0)=true:=by have:m=0:=(by omega);simp [this]
  clear h z
  go_enter Tryz.func193,Tryz.ntmps193
  go_wp2
  go_ret
  exact⟨rfl,rfl⟩
def MulTo (N k m V:Nat) (r:Nat→Nat):Prop:=(∀ t,t<N→r t<W32)∧(∀ t,k+m≤t→t<N→r t=0)∧valN N r=V
def MulIn (N k m l V x P c:Nat) (r:Nat→Nat):Prop:=(∀ t,t<N→r t<W32)∧(∀ t,k+m≤t→t<N→r t=0)∧c<W32∧valN N r+c*W32 ^ (k+l)=V+x*P*W32 ^ k
theorem mulIn_step {N k m l V x y P c:Nat} {r:Nat→Nat} (h:MulIn N k m l V x P c r) (hl:l<m) (hN:k+m<N) (hx:x<W32) (hy:y<W32) :
  MulIn N k m (l+1) V x (P+y*W32 ^ l) ((c+(x*y+r (k+l))) / W32) (upd r (k+l) ((c+(x*y+r (k+l))) % W32)):=by
 obtain⟨h1,h2,h3,h4⟩:=h
 have hf:=mul_fit h3 hx hy (h1 (k+l) (by omega))
 refine⟨?_,?_,?_,mul_step (by omega) rfl h4⟩
 ·intro t ht
  unfold upd
  split
  ·exact Nat.mod_lt _ (by decide)
  ·exact h1 t ht
 ·intro t h5 h6
  rw [upd_off (by omega)]
  exact h2 t h5 h6
 ·unfold W32 at *
  omega
theorem mulTo_step {N k m V x P c:Nat} {r:Nat→Nat} (h:MulIn N k m m V x P c r) (hN:k+m<N):MulTo N (k+1) m (V+x*P*W32 ^ k) (upd r (k+m) c):=by
 obtain⟨h1,h2,h3,h4⟩:=h
 refine⟨?_,?_,?_⟩
 ·intro t ht
  unfold upd
  split
  ·exact h3
  ·exact h1 t ht
 ·intro t h5 h6
  rw [upd_off (by omega)]
  exact h2 t (by omega) h6
 ·have:=valN_upd r (k+m) c N hN
  rw [h2 (k+m) (by omega) hN] at this
  omega
theorem mul_outer {f:Nat→Nat} {k G:Nat}:valN k f*G+f k*G*W32 ^ k=valN (k+1) f*G:=by
 simp only [valN]
 rw [Nat.add_mul,Nat.mul_assoc,Nat.mul_assoc,Nat.mul_comm G]
theorem valN_noughts (n x:Nat):valN n (fun _=>0)=0*x:=by
 have:=valN_pad (f:=fun _=>0) 0 n (fun _ _ _=>rfl)
 rw [Nat.zero_add] at this
 rw [this,Nat.zero_mul]
 rfl
theorem mul_cmod (c x y r:Nat):((c:Int)+((x:Int)*(y:Int)+(r:Int))) % 4294967296=(((c+(x*y+r)) % W32:Nat):Int):=by simp [W32]
theorem mul_cdiv (c x y r:Nat):((c:Int)+((x:Int)*(y:Int)+(r:Int))) / 4294967296=(((c+(x*y+r)) / W32:Nat):Int):=by simp [W32]
theorem mul_big {x y:Nat} (hx:x<4294967296) (hy:y<4294967296):(x:Int)*(y:Int)≤18446744065119617025∧0≤(x:Int)*(y:Int):=by
 have:x*y≤4294967295*4294967295:=Nat.mul_le_mul (by omega) (by omega)
 refine⟨?_,Int.mul_nonneg (by omega) (by omega)⟩
 rw [← Int.natCast_mul]
 omega
set_option maxRecDepth 100000 in
set_option maxHeartbeats 4000000 in
theorem mul_some (b n cap:Nat) (f:Nat→Nat) (b2 m cap2:Nat) (g:Nat→Nat) (w:World) (h:RdS w b n cap f) (h2:RdS w b2 m cap2 g) (hn0:0<n) (hm0:0<m) (hnm:n+m≤17592186044418) :
  Calls Tryz.prog 193 #[.slice (some ⟨b,0,none⟩) n cap,.slice (some ⟨b2,0,none⟩) m cap2] w fun e w'=>(∃ v,e=.returned v∧Num w' v (valN n f*valN m g))∧Below w.heap.size w w':=by
 have hmk:=make_u32 (n+m) (by omega) w
 have ec:((n+m:Nat):Int)=(n:Int)+m:=by omega
 rw [ec] at hmk
 have hr0:=Row.zeros w (n+m)
 have hz1:((n:Int) == 0)=false:=beq_eq_false_iff_ne.2 (by omega)
 have hz2:((m:Int) == 0)=false:=beq_eq_false_iff_ne.2 (by omega)
 go_enter Tryz.func193,Tryz.ntmps193
 go_upto_region 3 with fail
 go_cut [5] (fun s5 wx=>∃ br,s5=.slice (some ⟨br,0,none⟩) (n+m) (n+m)∧w.heap.size≤br∧Row wx br (n+m) (fun _=>0)∧Below w.heap.size w wx)
 case first =>
  go_wp2_with fail
  go_meet
  case rel=>exact⟨_,rfl,Nat.le_refl _,hr0,(Below.refl _ _).alloc (Nat.le_refl _) _⟩
 case rest =>
 obtain⟨br,rfl,hbr,hR,hB⟩:=hcut
 clear hmk hr0 ec
 go_wp2_with fail
 go_loopw [6] (fun i wr=>∃ (k:Nat) (r:Nat→Nat),k≤n∧i=.int .i64 k∧Row wr br (n+m) r∧MulTo (n+m) k m (valN k f*valN m g) r∧Below w.heap.size w wr) (fun i _=>n - (intOf i).toNat)
 case atStart=>exact⟨0,_,Nat.zero_le _,rfl,hR,⟨fun t _=>(by decide:0<W32),fun _ _ _=>rfl,valN_noughts _ _⟩,hB⟩
 case round =>
  obtain⟨k,r,hk,rfl,hRk,hMk,hBk⟩:=hrel
  by_cases hlt:k<n
  ·have hfk:=h.word k hlt
   have HM:Hid (MulIn (n+m) k m 0 (valN k f*valN m g) (f k) (valN 0 g) 0 r):=⟨hMk.1,hMk.2.1,by decide,by rw [hMk.2.2];simp [valN]⟩
   clear hMk
   go_wp2_with fail
   go_loopw [7,8] (fun c j wr=>∃ (l cc:Nat) (r:Nat→Nat),l≤m∧j=.int .i64 l∧c=.int .u64 cc∧Row wr br (n+m) r∧MulIn (n+m) k m l (valN k f*valN m g) (f k) (valN l g) cc r∧Below w.heap.size w wr) (fun _ j _=>m - (intOf j).toNat)
   case atStart=>exact⟨0,0,r,Nat.zero_le _,rfl,rfl,hRk,HM.out,hBk⟩
   case round =>
    clear HM hRk hBk r
    obtain⟨l,cc,r,hl,rfl,rfl,hRl,hMl,hBl⟩:=hrel
    by_cases hlm:l<m
    ·have hgl:=h2.word l hlm
     have hck:=(h.below hBl h.lt).cell k hlt
     have hcl:=(h2.below hBl h2.lt).cell l hlm
     have hcr:=hRl.cell (k+l) (by omega)
     have hfr:=hRl.free (k+l)
     obtain⟨hp1,hp2⟩:=mul_big hfk hgl
     have hcc:cc<4294967296:=hMl.2.2.1
     have hrr:r (k+l)<4294967296:=hMl.1 (k+l) (by omega)
     have HN:Hid (MulIn (n+m) k m (l+1) (valN k f*valN m g) (f k) (valN (l+1) g) ((cc+(f k*g l+r (k+l))) / W32) (upd r (k+l) ((cc+(f k*g l+r (k+l))) % W32))):=mulIn_step hMl hlm (by omega) hfk hgl
     clear hMl
     go_wp2_with fail
     go_quiet (fail)
     go_wp2_with fail
     exact⟨⟨l+1,_,_,by omega,by go_num,by rw [mul_cdiv],by rw [mul_cmod];exact (hRl.drewN nq).set (k+l) (by omega) _,HN.out,(below_drewN hBl nq).setCell hbr _⟩,by simp [intOf];omega⟩
    ·have hlm2:l=m:=by omega
     subst hlm2
     have hcr:=hRl.cell (k+l) (by omega)
     have hfr:=hRl.free (k+l)
     have hcc:cc<4294967296:=hMl.2.2.1
     have HN:Hid (MulTo (n+l) (k+1) l (valN (k+1) f*valN l g) (upd r (k+l) cc)):=by
      have:=mulTo_step hMl (by omega)
      rw [mul_outer] at this
      exact this
     clear hMl
     go_wp2_with fail
     exact⟨⟨k+1,_,by omega,by go_num,hRl.set (k+l) (by omega) cc,HN.out,hBl.setCell hbr _⟩,by simp [intOf];omega⟩
  ·have hkn:k=n:=by omega
   subst hkn
   have hrd:RdS wr br (k+m) (k+m) r:=⟨Nat.le_refl _,by omega,by omega,hRk.lt,hRk.cell,hMk.1⟩
   have HV:Hid (valN (k+m) r=valN k f*valN m g):=hMk.2.2
   clear hMk
   go_wp2_with fail
   refine (trim_some _ _ _ _ _ hrd).mono ?_
   rintro e w2 ⟨rfl,rfl⟩
   go_wp2_with fail
   go_ret
   exact⟨⟨_,rfl,num_trim (Or.inr ⟨_,_,rfl,hrd.cut (trimN_le _ _)⟩) HV.out⟩,hBk⟩
theorem mul_any (v1 v2:Value) (n m:Nat) (f g:Nat→Nat) (w:World) (h1:Rd w v1 n f) (h2:Rd w v2 m g) (hnm:n+m≤17592186044418) :
  Calls Tryz.prog 193 #[v1,v2] w fun e w'=>(∃ v,e=.returned v∧Num w' v (valN n f*valN m g))∧Below w.heap.size w w':=by
 by_cases hz:n=0∨m=0
 ·have e1:∃ a c,v1=.slice a n c:=by
   rcases h1 with ⟨e,q⟩ | ⟨b,c,e,_⟩
   ·exact⟨none,0,by rw [e,q]⟩
   ·exact⟨_,_,e⟩
  have e2:∃ a c,v2=.slice a m c:=by
   rcases h2 with ⟨e,q⟩ | ⟨b,c,e,_⟩
   ·exact⟨none,0,by rw [e,q]⟩
   ·exact⟨_,_,e⟩
  obtain⟨a1,c1,rfl⟩:=e1
  obtain⟨a2,c2,rfl⟩:=e2
  refine (mul_zero a1 a2 n m c1 c2 w hz (by omega) (by omega)).mono ?_
  rintro e w' ⟨rfl,rfl⟩
  refine⟨⟨_,rfl,0,f,Or.inl ⟨rfl,rfl⟩,fun m h=>by omega,?_⟩,Below.refl _ _⟩
  rcases hz with rfl | rfl<;>simp [valN]
 ·rcases h1 with ⟨_,q⟩ | ⟨b,cap,rfl,h1⟩
  ·exact absurd (Or.inl q) hz
  rcases h2 with ⟨_,q⟩ | ⟨b2,cap2,rfl,h2⟩
  ·exact absurd (Or.inr q) hz
  exact mul_some b n cap f b2 m cap2 g w h1 h2 (by omega) (by omega) hnm
end Go.Proofs.YtgifkepklnhddaaGreatDoor
namespace Go.Proofs.YtgifkepklnhddaaGreatDoor
open Go.RowKit
structure BigInt (w:World) (b:Nat) (neg:Bool) (x:Nat):Prop where
 lt:b<w.heap.size
 c0:w.cell? ⟨b,0,none⟩=some (.bool neg)
 c1:∃ v,w.cell? ⟨b,1,none⟩=some v∧Num w v x
 free:∀ i,w.frozen? ⟨b,i,none⟩=false
theorem BigInt.below {w w':World} {b:Nat} {neg:Bool} {x:Nat} (h:BigInt w b neg x) (hb:Below w.heap.size w w'):BigInt w' b neg x:=by
 obtain⟨h1,h2,⟨v,h3,h4⟩,h5⟩:=h
 exact⟨Nat.lt_of_lt_of_le h1 hb.size,by rw [hb.cell h1];exact h2,⟨v,by rw [hb.cell h1];exact h3,h4.below hb⟩,fun i=>by rw [hb.frozen h1];exact h5 i⟩
theorem RdS.other {w:World} {b n cap:Nat} {f:Nat→Nat} (h:RdS w b n cap f) {bz i:Nat} {z0:Bool} (hz:w.cell? ⟨bz,0,none⟩=some (.bool z0)) (u:Value):RdS (w.setCell ⟨bz,i,none⟩ u) b n cap f:=by
 refine⟨h.le,h.lim,h.capl,by simpa using h.lt,?_,h.word⟩
 intro j hj
 have hne:b≠bz:=by
  rintro rfl
  have:=h.cell 0 (by omega)
  rw [hz] at this
  cases this
 rw [← h.cell j hj]
 exact World.cell?_setCell_other _ _ _ _ (by intro q;injection q;omega)
theorem Num.other {w:World} {v:Value} {x:Nat} (h:Num w v x) {bz i:Nat} {z0:Bool} (hz:w.cell? ⟨bz,0,none⟩=some (.bool z0)) (u:Value):Num (w.setCell ⟨bz,i,none⟩ u) v x:=by
 obtain⟨n,f,h1,h2,h3⟩:=h
 refine⟨n,f,?_,h2,h3⟩
 rcases h1 with h1 | ⟨b,cap,e,h1⟩
 ·exact Or.inl h1
 ·exact Or.inr ⟨b,cap,e,h1.other hz u⟩
theorem cell_set_same {w:World} {b i:Nat} {u v:Value} (h:w.cell? ⟨b,i,none⟩=some u):(w.setCell ⟨b,i,none⟩ v).cell? ⟨b,i,none⟩=some v:=World.cell?_setCell_same' _ _ _ (by rw [h];rfl)
theorem cell_set_off {w:World} {b i j:Nat} {v:Value} (h:i≠j):(w.setCell ⟨b,i,none⟩ v).cell? ⟨b,j,none⟩=w.cell? ⟨b,j,none⟩:=World.cell?_setCell_other _ _ _ _ (by intro q;injection q;omega)
theorem BigInt.put {w:World} {b:Nat} {neg:Bool} {x:Nat} (h:BigInt w b neg x) {v:Value} {y:Nat} (hv:Num w v y) (nb:Bool):BigInt ((w.setCell ⟨b,1,none⟩ v).setCell ⟨b,0,none⟩ (.bool nb)) b nb y:=by
 obtain⟨h1,h2,⟨v0,h3,h4⟩,h5⟩:=h
 have e0:(w.setCell ⟨b,1,none⟩ v).cell? ⟨b,0,none⟩=some (.bool neg):=by rw [cell_set_off (by omega)];exact h2
 refine⟨by simpa using h1,cell_set_same e0,⟨v,?_,(hv.other h2 v).other e0 _⟩,fun i=>by simp [h5 i]⟩
 rw [cell_set_off (by omega)]
 exact cell_set_same h3
set_option maxHeartbeats 1000000 in
theorem give_walk (bz:Nat) (neg:Bool) (A:Option Addr) (n c:Nat) (w:World) (z0:Bool) (z1:Value) (h0:w.cell? ⟨bz,0,none⟩=some (.bool z0)) (h1:w.cell? ⟨bz,1,none⟩=some z1) (hf:∀ i,w.frozen? ⟨bz,i,none⟩=false) (_hn:n≤17592186044420) :
  Calls Tryz.prog 192 #[ptr bz,.bool neg,.slice A n c] w fun e w'=>e=.returned (ptr bz)∧w'=(w.setCell ⟨bz,1,none⟩ (.slice A n c)).setCell ⟨bz,0,none⟩ (.bool (neg && decide (0<n))):=by
 have hf0:=hf 0
 have hf1:=hf 1
 clear hf
 cases neg
 ·go_enter Tryz.func192,Tryz.ntmps192
  go_wp2
  go_ret
  exact⟨rfl,rfl⟩
 ·go_enter Tryz.func192,Tryz.ntmps192
  go_wp2
  go_ret
  exact⟨rfl,by simp⟩
theorem Num.shape {w:World} {v:Value} {x:Nat} (h:Num w v x):∃ A n c,v=.slice A n c∧n≤17592186044420∧(0<n↔x≠0):=by
 obtain⟨n,f,h1,h2,h3⟩:=h
 have hz:0<n↔x≠0:=by
  constructor
  ·intro hn e
   rw [e] at h3
   have:=valN_zero h2 h3
   omega
  ·intro hx
   rcases Nat.eq_zero_or_pos n with e | e
   ·subst e;exact absurd h3.symm hx
   ·exact e
 have hl:=h1.lim
 rcases h1 with ⟨e,q⟩ | ⟨b,cap,e,_⟩
 ·exact⟨none,0,0,e,by omega,by rw [q] at hz;exact hz⟩
 ·exact⟨_,n,_,e,hl,hz⟩
theorem give_any (bz:Nat) (neg:Bool) (v:Value) (x:Nat) (w:World) (zn:Bool) (zx:Nat) (hz:BigInt w bz zn zx) (hv:Num w v x) :
  Calls Tryz.prog 192 #[ptr bz,.bool neg,v] w fun e w'=>e=.returned (ptr bz)∧BigInt w' bz (neg && decide (x≠0)) x∧∀ B,B≤bz→Below B w w':=by
 obtain⟨A,n,c,rfl,hn,hx⟩:=hv.shape
 obtain⟨z1,hz1,_⟩:=hz.c1
 refine (give_walk bz neg A n c w zn z1 hz.c0 hz1 hz.free hn).mono ?_
 rintro e w' ⟨rfl,rfl⟩
 refine⟨rfl,?_,fun B hB=>(((Below.refl _ _).setCell (by exact hB) _).setCell (by exact hB) _)⟩
 have:(neg && decide (0<n))=(neg && decide (x≠0)):=by
  congr 1
  exact decide_eq_decide.2 hx
 rw [this]
 exact hz.put hv _
theorem BigInt.new (w:World) (t:TypeId):BigInt (w.alloc (.cells #[.bool false,.slice none 0 0] t)) w.heap.size false 0 :=
 ⟨by simp,by simp,⟨.slice none 0 0,by simp,0,fun _=>0,Or.inl ⟨rfl,rfl⟩,fun m h=>by omega,rfl⟩,fun i=>by simp⟩
set_option maxHeartbeats 1000000 in
theorem setInt_nn (bz x:Nat) (w:World) (zn:Bool) (zx:Nat) (hz:BigInt w bz zn zx) (hx:x<9223372036854775808) :
  Calls Tryz.prog 173 #[ptr bz,.int .i64 x] w fun e w'=>e=.returned (ptr bz)∧BigInt w' bz false x∧∀ B,B≤bz→Below B w w':=by
 go_enter Tryz.func173,Tryz.ntmps173
 go_wp2_with fail
 refine (words_any x _ (by omega)).mono ?_
 rintro e w1 ⟨⟨v,rfl,hv⟩,b1⟩
 have hz1:=hz.below b1
 have hN:=num_trim hv (word_val x)
 have hlt:=hz.lt
 go_wp2_with fail
 refine (give_any bz false v x _ zn zx hz1 hN).mono ?_
 rintro e w2 ⟨rfl,hz2,b2⟩
 go_wp2_with fail
 go_ret
 exact⟨rfl,hz2,fun B hB=>(b1.mono (by omega)).trans (b2 B hB)⟩
set_option maxHeartbeats 1000000 in
theorem newInt_nn (x:Nat) (w:World) (hx:x<9223372036854775808) :
  Calls Tryz.prog 145 #[.int .i64 x] w fun e w'=>(∃ b,e=.returned (ptr b)∧w.heap.size≤b∧BigInt w' b false x)∧Below w.heap.size w w':=by
 have h0:=BigInt.new w 239
 go_enter Tryz.func145,Tryz.ntmps145
 go_wp2_with fail
 refine (setInt_nn _ x _ false 0 h0 hx).mono ?_
 rintro e w1 ⟨rfl,hz,b1⟩
 go_wp2_with fail
 go_ret
 exact⟨⟨_,rfl,Nat.le_refl _,hz⟩,((Below.refl _ _).alloc (Nat.le_refl _) _).trans (b1 _ (Nat.le_refl _))⟩
def Small (x:Nat):Prop:=∀ (n:Nat) (f:Nat→Nat),Norm n f→valN n f=x→n≤17592186044416
theorem two_words {n:Nat} {f:Nat→Nat} {x:Nat} (h:Norm n f) (hx:valN n f=x) (hl:x<18446744073709551616):n≤2:=by
 match n,h,hx with
 | 0,_,_=>omega
 | 1,_,_=>omega
 | 2,_,_=>omega
 | n+3,h,hx =>
  exfalso
  have h1:W32 ^ (n+2)≤valN (n+3) f:=valN_ge (h (n+2) rfl)
  have h2:W32 ^ 2≤W32 ^ (n+2):=Nat.pow_le_pow_right (by decide) (by omega)
  have h3:W32 ^ 2=18446744073709551616:=by decide
  omega
theorem drew_below (w:World):Below w.heap.size w w.drew:=⟨rfl,rfl,rfl,Nat.le_refl _,fun _ _=>rfl⟩
theorem keepc {w w1:World} {b i:Nat} {u:Value} (h:w.cell? ⟨b,i,none⟩=some u) (hl:b<w.heap.size) (hb:Below w.drew.heap.size w.drew w1):w1.cell? ⟨b,i,none⟩=some u:=by
 rw [hb.cell (p:=⟨b,i,none⟩) hl];exact h
end Go.Proofs.YtgifkepklnhddaaGreatDoor

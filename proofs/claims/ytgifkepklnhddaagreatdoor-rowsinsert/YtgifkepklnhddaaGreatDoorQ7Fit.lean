import Derived.Test.YtgifkepklnhddaaGreatDoorQ7Int
import Derived.LoopN
import Derived.Laws.BitsAllLaws
import Derived.WalkSmall
namespace Go.Proofs.YtgifkepklnhddaaGreatDoor.dg
open Go.RowKit
def blen:Nat→Nat→Nat
 | 0,_=>0
 | k+1,t=>if t=0 then 0 else blen k (t / 2)+1
theorem blen_lt:∀ (k t:Nat),t<2 ^ k→t<2 ^ blen k t∧(t≠0→2 ^ (blen k t - 1)≤t)∧blen k t≤k
 | 0,t,h=>by
  have:t=0:=by simpa using h
  subst this
  simp [blen]
 | k+1,t,h=>by
  by_cases hz:t=0
  ·subst hz;simp [blen]
  ·obtain⟨h1,h2,h3⟩:=blen_lt k (t / 2) (by rw [Nat.pow_succ] at h;omega)
   have e:blen (k+1) t=blen k (t / 2)+1:=if_neg hz
   rw [e]
   refine⟨by rw [Nat.pow_succ];omega,fun _=>?_,by omega⟩
   rw [Nat.add_sub_cancel]
   by_cases hh:t / 2=0
   ·rw [hh]
    have:blen k 0=0:=by cases k<;>simp [blen]
    rw [this];simp;omega
   ·have h4:=h2 hh
    have h5:0<blen k (t / 2):=by
     cases k with
     | zero=>unfold blen at h1;omega
     | succ k=>simp [blen,hh]
    have e2:2 ^ blen k (t / 2)=2*2 ^ (blen k (t / 2) - 1):=by
     rw [← Nat.pow_succ'];congr 1;omega
    omega
def bits (n:Nat) (f:Nat→Nat):Nat:=match n with
 | 0=>0
 | n+1=>n*32+blen 32 (f n)
set_option maxHeartbeats 1000000 in
theorem length_zero (A:Option Addr) (c:Nat) (w:World) :
  Calls Tryz.prog 216 #[.slice A 0 c] w fun e w'=>e=.returned (.int .i64 0)∧w'=w:=by
 go_enter Tryz.func216,Tryz.ntmps216
 go_wp2
 go_ret
 exact⟨rfl,rfl⟩
set_option maxHeartbeats 1000000 in
theorem length_some (b n cap:Nat) (f:Nat→Nat) (w:World) (h:RdS w b (n+1) cap f) :
  Calls Tryz.prog 216 #[.slice (some ⟨b,0,none⟩) (n+1) cap] w fun e w'=>e=.returned (.int .i64 (bits (n+1) f:Nat))∧w'=w:=by
 have hc:=h.cell n (by omega)
 have hw:=h.word n (by omega)
 have hl:=h.le
 have hlim:=h.lim
 have hz:((n:Int)+1 == 0)=false:=beq_eq_false_iff_ne.2 (by omega)
 go_enter Tryz.func216,Tryz.ntmps216
 go_wp2_with fail
 go_loop [3,4] (fun c t=>∃ k x:Nat,k≤32∧c=.int .i64 k∧t=.int .u32 x∧x<4294967296∧blen 32 (f n)=k+blen (32 - k) x∧x<2 ^ (32 - k)) (fun c _=>32 - (intOf c).toNat)
 case atStart=>exact⟨0,f n,by omega,rfl,rfl,hw,by simp,by simpa using hw⟩
 case round =>
  obtain⟨k,x,hk,rfl,rfl,hx,hb,hx2⟩:=hrel
  by_cases xz:x=0
  ·have h0:((x:Int) != 0)=false:=by simp [xz]
   have HB:Hid (bits (n+1) f=n*32+k):=by
    have:blen (32 - k) x=0:=by
     rw [xz]
     cases (32 - k)<;>simp [blen]
    show n*32+blen 32 (f n)=_
    rw [hb,this];omega
   clear hb hx2 xz
   go_wp2_with fail
   go_ret
   exact⟨by rw [HB.out];simp,rfl⟩
  ·have h0:((x:Int) != 0)=true:=by simp [xz]
   have hk32:k<32:=by
    rcases Nat.lt_or_ge k 32 with q | q
    ·exact q
    ·exfalso
     have:32 - k=0:=by omega
     rw [this] at hx2
     simp at hx2
     exact xz hx2
   have HB:Hid (blen 32 (f n)=(k+1)+blen (32 - (k+1)) (x / 2)∧x / 2<2 ^ (32 - (k+1))):=by
    have e:32 - k=(32 - (k+1))+1:=by omega
    rw [e] at hb hx2
    constructor
    ·rw [hb]
     simp [blen,xz]
     omega
    ·rw [Nat.pow_succ] at hx2;omega
   clear hb hx2 xz
   go_wp2_with fail
   exact⟨⟨k+1,x / 2,by omega,by go_num,by simp,by omega,HB.out.1,HB.out.2⟩,by simp [intOf];omega⟩
theorem bit_form (x j:Nat) (hx:x<4294967296):Go.bits BinOp.and IntKind.u64 (IntKind.u64.wrap ((x:Int) / 2 ^ j)) 1=((x / 2 ^ j % 2:Nat):Int):=by
 have e:((x:Int) / 2 ^ j)=((x / 2 ^ j:Nat):Int):=by simp
 have hle:x / 2 ^ j≤x:=Nat.div_le_self _ _
 rw [e]
 generalize x / 2 ^ j=q at hle ⊢
 rw [IntKind.wrap_u64,Int.emod_eq_of_lt (by omega) (by omega),and_one_u64 _ (by omega) (by omega)]
 omega
set_option maxHeartbeats 1000000 in
theorem bit_some (b n cap i:Nat) (f:Nat→Nat) (w:World) (h:RdS w b n cap f) (hi:i / 32<n) (hi2:i<64) :
  Calls Tryz.prog 230 #[.slice (some ⟨b,0,none⟩) n cap,.int .i64 i] w fun e w'=>e=.returned (.int .u64 (f (i / 32) / 2 ^ (i % 32) % 2:Nat))∧w'=w:=by
 have hc:=h.cell (i / 32) hi
 have hw:=h.word (i / 32) hi
 have hl:=h.le
 have hlim:=h.lim
 have h1:((i:Int) / 32)<n:=by omega
 go_enter Tryz.func230,Tryz.ntmps230
 go_wp2_with fail
 go_ret
 exact⟨congrArg (fun z:Int=>Ending.returned (.int .u64 z)) (bit_form _ _ hw),rfl⟩
theorem bit_val {x i:Nat} {f:Nat→Nat} (hx:x=f 0+f 1*4294967296) (h0:f 0<4294967296) (hi:i<64):f (i / 32) / 2 ^ (i % 32) % 2=x / 2 ^ i % 2:=by
 by_cases c:i<32
 ·have e1:i / 32=0:=by omega
  have e2:i % 32=i:=by omega
  rw [e1,e2,hx]
  obtain⟨d,hd⟩:∃ d,32=i+(d+1):=⟨31 - i,by omega⟩
  have e3:4294967296=2 ^ i*(2 ^ d*2):=by
   have:(4294967296:Nat)=2 ^ 32:=by decide
   rw [this,hd,Nat.pow_add,Nat.pow_succ]
  have e4:f 1*4294967296=2 ^ i*(f 1*2 ^ d*2):=by
   rw [e3,Nat.mul_left_comm,← Nat.mul_assoc (f 1)]
  rw [e4,Nat.add_mul_div_left _ _ (Nat.pow_pos (by decide))]
  omega
 ·have e1:i / 32=1:=by omega
  rw [e1,hx]
  have e2:2 ^ i=4294967296*2 ^ (i % 32):=by
   have:(4294967296:Nat)=2 ^ 32:=by decide
   rw [this,← Nat.pow_add];congr 1;omega
  rw [e2,← Nat.div_div_eq_div_mul]
  have e3:(f 0+f 1*4294967296) / 4294967296=f 1:=by omega
  rw [e3]
set_option maxRecDepth 100000 in
set_option maxHeartbeats 2000000 in
theorem tzb_64 (bz b cap x:Nat) (f:Nat→Nat) (w:World) (hc1:w.cell? ⟨bz,1,none⟩=some (.slice (some ⟨b,0,none⟩) 2 cap)) (h:RdS w b 2 cap f) (hx:x=f 0+f 1*4294967296) (htop:x / 2 ^ 63 % 2=1) :
  Calls Tryz.prog 217 #[ptr bz] w fun e w'=>(∃ t:Nat,e=.returned (.int .u64 t)∧t≤63∧x / 2 ^ t % 2=1∧∀ i,i<t→x / 2 ^ i % 2=0)∧w'=w:=by
 have h0:=h.word 0 (by omega)
 have HX:Hid (x=f 0+f 1*4294967296):=hx
 have HT:Hid (x / 2 ^ 63 % 2=1):=htop
 clear hx htop
 go_enter Tryz.func217,Tryz.ntmps217
 go_wp2_with fail
 go_loop [3] (fun t=>∃ k:Nat,k≤63∧t=.int .u64 k∧∀ i,i<k→x / 2 ^ i % 2=0) (fun t=>64 - (intOf t).toNat)
 case atStart=>exact⟨0,by omega,rfl,fun i hi=>by omega⟩
 case round =>
  obtain⟨k,hk,rfl,hz⟩:=hrel
  have HZ:Hid (∀ i,i<k→x / 2 ^ i % 2=0):=hz
  clear hz
  have hbv:=bit_val (i:=k) HX.out h0 (by omega)
  have hb:=bit_some b 2 cap k f w h (by omega) (by omega)
  rw [hbv] at hb
  by_cases e:x / 2 ^ k % 2=0
  ·rw [e] at hb
   have HE:Hid (x / 2 ^ k % 2=0):=e
   clear e hbv
   have hk63:k<63:=by
    rcases Nat.lt_or_ge k 63 with q | q
    ·exact q
    ·exfalso
     have:k=63:=by omega
     subst this
     have h1:=HE.out
     have h2:=HT.out
     omega
   have HB:=hb
   clear hb
   go_wp2_with fail
   refine HB.mono ?_
   rintro e w1 ⟨rfl,rfl⟩
   go_wp2_with fail
   exact⟨⟨k+1,by omega,by go_num,fun i hi=>by
    rcases Nat.lt_or_ge i k with q | q
    ·exact HZ.out i q
    ·have:i=k:=by omega
     subst this;exact HE.out⟩,by simp [intOf];omega⟩
  ·have e1:x / 2 ^ k % 2=1:=by omega
   rw [e1] at hb
   have HE:Hid (x / 2 ^ k % 2=1):=e1
   clear e e1 hbv
   have HB:=hb
   clear hb
   go_wp2_with fail
   refine HB.mono ?_
   rintro e w1 ⟨rfl,rfl⟩
   go_wp2_with fail
   go_ret
   exact⟨⟨k,rfl,hk,HE.out,HZ.out⟩,rfl⟩
theorem or_form (a b:Nat) (ha:a<4294967296):a ||| b*4294967296=a+b*4294967296:=by
 have:=Nat.shiftLeft_add_eq_or_of_lt (i:=32) (b:=a) (by simpa using ha) b
 rw [Nat.shiftLeft_eq] at this
 have e:(2:Nat) ^ 32=4294967296:=by decide
 rw [e] at this
 rw [Nat.or_comm,← this]
 omega
set_option maxRecDepth 100000 in
set_option maxHeartbeats 2000000 in
theorem uint64_two (bz b cap:Nat) (f:Nat→Nat) (w:World) (hc1:w.cell? ⟨bz,1,none⟩=some (.slice (some ⟨b,0,none⟩) 2 cap)) (h:RdS w b 2 cap f) :
  Calls Tryz.prog 197 #[ptr bz] w fun e w'=>e=.returned (.int .u64 (f 0+f 1*4294967296:Nat))∧w'=w:=by
 have h0:=h.word 0 (by omega)
 have h1:=h.word 1 (by omega)
 have c0:=h.cell 0 (by omega)
 have c1:=h.cell 1 (by omega)
 go_enter Tryz.func197,Tryz.ntmps197
 go_wp2_with fail
 go_ret
 refine⟨congrArg (fun z:Int=>Ending.returned (.int .u64 z)) ?_,rfl⟩
 have e:((f 1:Int)*4294967296)=((f 1*4294967296:Nat):Int):=by simp
 rw [e,u64_or_nat _ _ (by omega) (by omega),or_form _ _ h0]
set_option maxRecDepth 100000 in
set_option maxHeartbeats 2000000 in
theorem uint64_one (bz b cap:Nat) (f:Nat→Nat) (w:World) (hc1:w.cell? ⟨bz,1,none⟩=some (.slice (some ⟨b,0,none⟩) 1 cap)) (h:RdS w b 1 cap f) :
  Calls Tryz.prog 197 #[ptr bz] w fun e w'=>e=.returned (.int .u64 (f 0:Nat))∧w'=w:=by
 have h0:=h.word 0 (by omega)
 have c0:=h.cell 0 (by omega)
 go_enter Tryz.func197,Tryz.ntmps197
 go_wp2_with fail
 go_ret
 exact⟨rfl,rfl⟩
set_option maxRecDepth 100000 in
set_option maxHeartbeats 2000000 in
theorem uint64_zero (bz:Nat) (A:Option Addr) (cap:Nat) (w:World) (hc1:w.cell? ⟨bz,1,none⟩=some (.slice A 0 cap)) :
  Calls Tryz.prog 197 #[ptr bz] w fun e w'=>e=.returned (.int .u64 0)∧w'=w:=by
 go_enter Tryz.func197,Tryz.ntmps197
 go_wp2_with fail
 go_ret
 exact⟨rfl,rfl⟩
theorem uint64_any (bz x:Nat) (neg:Bool) (w:World) (hz:BigInt w bz neg x) (hx:x<18446744073709551616) :
  Calls Tryz.prog 197 #[ptr bz] w fun e w'=>e=.returned (.int .u64 (x:Nat))∧w'=w:=by
 obtain⟨v,h1,n,f,h2,h3,h4⟩:=hz.c1
 have hn:=two_words h3 h4 hx
 match n,hn,h2,h4 with
 | 0,_,h2,h4 =>
  have:x=0:=h4.symm
  subst this
  rcases h2 with ⟨rfl,_⟩ | ⟨b,cap,rfl,_⟩
  ·exact uint64_zero bz _ _ w h1
  ·exact uint64_zero bz _ _ w h1
 | 1,_,h2,h4 =>
  rcases h2 with ⟨_,q⟩ | ⟨b,cap,rfl,h5⟩
  ·omega
  have:f 0=x:=by simpa [valN] using h4
  subst this
  exact uint64_one bz b cap f w h1 h5
 | 2,_,h2,h4 =>
  rcases h2 with ⟨_,q⟩ | ⟨b,cap,rfl,h5⟩
  ·omega
  have:f 0+f 1*4294967296=x:=by simpa [valN,W32] using h4
  subst this
  exact uint64_two bz b cap f w h1 h5
set_option maxHeartbeats 2000000 in
theorem int64_pos (bz x:Nat) (w:World) (hz:BigInt w bz false x) (hx:x<9223372036854775808) :
  Calls Tryz.prog 172 #[ptr bz] w fun e w'=>e=.returned (.int .i64 (x:Nat))∧w'=w:=by
 have h0:=hz.c0
 go_enter Tryz.func172,Tryz.ntmps172
 go_wp2_with fail
 refine (uint64_any bz x _ _ hz (by omega)).mono ?_
 rintro e w1 ⟨rfl,rfl⟩
 go_wp2_with fail
 go_ret
 exact⟨rfl,rfl⟩
theorem W32_two (m:Nat):W32 ^ m=2 ^ (32*m):=by
 have:W32=2 ^ 32:=by decide
 rw [this,← Nat.pow_mul]
theorem bits_val {n x:Nat} {f:Nat→Nat} (hd:∀ i,i<n+1→f i<W32) (hN:Norm (n+1) f) (hx:valN (n+1) f=x):x<2 ^ bits (n+1) f∧2 ^ (bits (n+1) f - 1)≤x:=by
 have h1:=valN_lt n f (fun i hi=>hd i (by omega))
 obtain⟨b1,b2,b3⟩:=blen_lt 32 (f n) (hd n (by omega))
 have b4:=b2 (hN n rfl)
 have hb:0<blen 32 (f n):=by
  rcases Nat.eq_zero_or_pos (blen 32 (f n)) with q | q
  ·rw [q] at b1
   have:=hN n rfl
   simp at b1
   exact absurd b1 this
  ·exact q
 simp only [valN] at hx
 have e1:bits (n+1) f=32*n+blen 32 (f n):=by show n*32+_=_;omega
 rw [e1]
 constructor
 ·rw [Nat.pow_add,← W32_two]
  have:f n*W32 ^ n+W32 ^ n≤W32 ^ n*2 ^ blen 32 (f n):=by
   rw [← Nat.succ_mul,Nat.mul_comm]
   exact Nat.mul_le_mul_left _ b1
  omega
 ·have e2:32*n+blen 32 (f n) - 1=32*n+(blen 32 (f n) - 1):=by omega
  rw [e2,Nat.pow_add,← W32_two]
  have:W32 ^ n*2 ^ (blen 32 (f n) - 1)≤f n*W32 ^ n:=by
   rw [Nat.mul_comm (f n)]
   exact Nat.mul_le_mul_left _ b4
  omega
def fitI (neg:Bool) (x:Nat):Bool:=decide (x<9223372036854775808) || (neg && decide (x=9223372036854775808))
end Go.Proofs.YtgifkepklnhddaaGreatDoor.dg

import Derived.Lib.AtoiAll
import Derived.Lib.ItoaMem
import Derived.Shelf.Strings.Search2
import Derived.Test.YtgifkepklnhddaaGreatDoorProg
namespace Go.Proofs.YtgifkepklnhddaaGreatDoor
open Go.Lib
theorem parse_append:∀ (l:List UInt8) (acc v:Nat) (r:List UInt8),parseUint10 acc l=.ok v→parseUint10 acc (l++r)=parseUint10 v r
 | [],acc,v,r,h=>by
  simp only [parseUint10] at h
  injection h with h
  subst h;rfl
 | c::l,acc,v,r,h=>by
  simp only [List.cons_append,parseUint10] at h ⊢
  by_cases a:48≤c.toNat∧c.toNat≤57
  ·rw [if_pos a] at h ⊢
   by_cases b:1844674407370955162≤acc
   ·rw [if_pos b] at h;cases h
   ·rw [if_neg b] at h ⊢
    by_cases d:18446744073709551616≤acc*10+(c.toNat - 48)
    ·rw [if_pos d] at h;cases h
    ·rw [if_neg d] at h ⊢
     exact parse_append l _ v r h
  ·rw [if_neg a] at h;cases h
theorem digit_nat {d:Nat} (h:d<10):(UInt8.ofNat (48+d)).toNat=48+d:=by
 rw [UInt8.toNat_ofNat'];omega
theorem parse_digit {acc d:Nat} (hd:d<10) (h:acc*10+d<18446744073709551616):parseUint10 acc [UInt8.ofNat (48+d)]=.ok (acc*10+d):=by
 simp only [parseUint10]
 rw [digit_nat hd,if_pos (by omega),if_neg (by omega),if_neg (by omega)]
 congr 1
 omega
theorem parse_dec (u:Nat) (h:u<18446744073709551616):parseUint10 0 (decDigits u)=.ok u:=by
 induction u using Nat.strongRecOn with
 | _ u ih =>
  by_cases c:u<10
  ·rw [decDigits_one c]
   have:=parse_digit (acc:=0) c (by omega)
   simpa using this
  ·have e:decDigits u=decDigits (u / 10)++[UInt8.ofNat (48+u % 10)]:=by
    rw [decDigits,dif_neg c]
   rw [e,parse_append _ 0 (u / 10) _ (ih (u / 10) (by omega) (by omega)),parse_digit (by omega) (by omega)]
   congr 1
   omega
theorem dec_ne (u:Nat):decDigits u≠[]:=by
 rw [decDigits]
 split<;>simp
theorem dec_head (u:Nat):∃ c r,decDigits u=c::r∧48≤c.toNat∧c.toNat≤57:=by
 induction u using Nat.strongRecOn with
 | _ u ih =>
  by_cases c:u<10
  ·exact⟨_,[],decDigits_one c,by rw [digit_nat c];omega,by rw [digit_nat c];omega⟩
  ·obtain⟨d,r,e,h⟩:=ih (u / 10) (by omega)
   refine⟨d,r++[UInt8.ofNat (48+u % 10)],?_,h⟩
   rw [decDigits,dif_neg c,e];rfl
theorem mag_dec (u:Nat) (h:u<18446744073709551616):parseMag (decDigits u)=.ok u:=by
 unfold parseMag
 rw [if_neg (dec_ne u)]
 exact parse_dec u h
theorem atoi_itoa (n:Int) (h0:-9223372036854775808≤n) (h1:n≤9223372036854775807):atoiAll (itoa n)=.ok n:=by
 by_cases c:n<0
 ·obtain⟨u,rfl⟩:∃ u:Nat,n=-(u:Int):=⟨n.natAbs,by omega⟩
  rw [itoa_neg u (by omega)]
  unfold atoiAll
  simp only [show (45:UInt8).toNat=45 from rfl,or_true,if_true]
  rw [mag_dec u (by omega)]
  have hu:¬ 9223372036854775808<u:=by omega
  simp [hu]
 ·obtain⟨u,rfl⟩:∃ u:Nat,n=(u:Int):=⟨n.toNat,by omega⟩
  rw [itoa_nonneg u]
  obtain⟨d,r,e,h2,h3⟩:=dec_head u
  have hm:=mag_dec u (by omega)
  rw [e] at hm ⊢
  unfold atoiAll
  simp only
  rw [if_neg (by omega),hm]
  simp only
  rw [if_neg (by omega),if_neg (by omega)]
  rw [if_neg (by omega)]
theorem nDigits_le (u:Nat):∀ k,1≤k→u<10 ^ k→nDigits u≤k:=by
 induction u using Nat.strongRecOn with
 | _ u ih =>
  intro k hk h
  rw [nDigits]
  split
  ·omega
  ·rename_i c
   match k,hk with
   | 1,_=>omega
   | k+2,_ =>
    have:=ih (u / 10) (by omega) (k+1) (by omega) (by rw [Nat.pow_succ] at h;omega)
    omega
theorem itoa_len (n:Int) (h0:-9223372036854775808≤n) (h1:n≤9223372036854775807):(itoa n).length≤20:=by
 by_cases c:n<0
 ·obtain⟨u,rfl⟩:∃ u:Nat,n=-(u:Int):=⟨n.natAbs,by omega⟩
  rw [itoa_neg u (by omega),List.length_cons,decDigits_length]
  have:=nDigits_le u 19 (by omega) (by omega)
  omega
 ·obtain⟨u,rfl⟩:∃ u:Nat,n=(u:Int):=⟨n.toNat,by omega⟩
  rw [itoa_nonneg u,decDigits_length]
  have:=nDigits_le u 19 (by omega) (by omega)
  omega
theorem itoa_ne (n:Int):itoa n≠[]:=by
 unfold itoa
 split
 ·simp
 ·exact dec_ne _
end Go.Proofs.YtgifkepklnhddaaGreatDoor
namespace Go.Proofs
open Go.Shelf
def Tryz.lays219_ren:Go.Shelf.Ren:=⟨fun | 219=>261 | 217=>276 | 225=>277 | 224=>278 | 267=>279 | 266=>285 | 314=>286 | n=>n,fun | 9=>9 | 3=>3 | 4=>4 | 5=>5 | 46=>188 | 146=>313 | 51=>233 | n=>n,fun | 1=>4 | n=>n⟩
theorem Tryz.lays219:Go.Proofs.Lays.n219 Tryz.prog Tryz.lays219_ren:={
 mixed:=by kernel_rfl
 f217:=Tryz.func276.trans (congrArg some (by kernel_rfl))
 f219:=Tryz.func261.trans (congrArg some (by kernel_rfl))
 f224:=Tryz.func278.trans (congrArg some (by kernel_rfl))
 f225:=Tryz.func277.trans (congrArg some (by kernel_rfl))
 f266:=Tryz.func285.trans (congrArg some (by kernel_rfl))
 f267:=Tryz.func279.trans (congrArg some (by kernel_rfl))
 f314:=Tryz.func286.trans (congrArg some (by kernel_rfl))
 t3:=Tryz.underlying3
 a3:=Tryz.isAgg3
 z3:=Tryz.sizeOf3
 v3:=Tryz.zeroValue3
 t4:=Tryz.underlying4
 a4:=Tryz.isAgg4
 z4:=Tryz.sizeOf4
 v4:=Tryz.zeroValue4
 t5:=Tryz.underlying5
 a5:=Tryz.isAgg5
 z5:=Tryz.sizeOf5
 v5:=Tryz.zeroValue5
 t9:=Tryz.underlying9
 a9:=Tryz.isAgg9
 z9:=Tryz.sizeOf9
 v9:=Tryz.zeroValue9
 t46:=Tryz.underlying188
 a46:=Tryz.isAgg188
 z46:=Tryz.sizeOf188
 v46:=Tryz.zeroValue188
 t51:=Tryz.underlying233
 a51:=Tryz.isAgg233
 z51:=Tryz.sizeOf233
 v51:=Tryz.zeroValue233
 t146:=Tryz.underlying313
 a146:=Tryz.isAgg313
 z146:=Tryz.sizeOf313
 v146:=Tryz.zeroValue313
 g1:=by kernel_rfl }
open Go.RowKit Go.Lib in
theorem Tryz.stringslite_Index_one (s:ByteArray) (c:UInt8) (w:World) :
  Calls Tryz.prog 261 #[.string s,.string ⟨#[c]⟩] w fun e w'=>e=.returned (.int .i64 (Lib.indexByte s.data.toList c))∧w'=w:=Any.stringslite_Index_one Tryz.lays219 s c w
end Go.Proofs
namespace Go.Proofs.YtgifkepklnhddaaGreatDoor
def W32:Nat:=4294967296
def trimN:Nat→(Nat→Nat)→Nat
 | 0,_=>0
 | n+1,f=>if f n=0 then trimN n f else n+1
def valN:Nat→(Nat→Nat)→Nat
 | 0,_=>0
 | n+1,f=>valN n f+f n*W32 ^ n
theorem trimN_le:∀ (n:Nat) (f:Nat→Nat),trimN n f≤n
 | 0,_=>Nat.le_refl _
 | n+1,f=>by
  unfold trimN
  split
  ·exact Nat.le_trans (trimN_le n f) (by omega)
  ·exact Nat.le_refl _
theorem valN_trim:∀ (n:Nat) (f:Nat→Nat),valN (trimN n f) f=valN n f
 | 0,_=>rfl
 | n+1,f=>by
  unfold trimN
  split
  ·rename_i h
   rw [valN_trim n f]
   simp [valN,h]
  ·rfl
def Norm (n:Nat) (f:Nat→Nat):Prop:=∀ m,n=m+1→f m≠0
theorem trimN_norm:∀ (n:Nat) (f:Nat→Nat),Norm (trimN n f) f
 | 0,_=>fun m h=>by simp [trimN] at h
 | n+1,f=>by
  unfold trimN
  split
  ·exact trimN_norm n f
  ·rename_i h
   intro m e
   have:m=n:=by omega
   subst this;exact h
theorem valN_congr:∀ (n:Nat) (f g:Nat→Nat),(∀ i,i<n→f i=g i)→valN n f=valN n g
 | 0,_,_,_=>rfl
 | n+1,f,g,h=>by
  simp only [valN]
  rw [valN_congr n f g (fun i hi=>h i (by omega)),h n (by omega)]
theorem W32_pos (n:Nat):0<W32 ^ n:=Nat.pow_pos (by decide)
theorem valN_lt:∀ (n:Nat) (f:Nat→Nat),(∀ i,i<n→f i<W32)→valN n f<W32 ^ n
 | 0,_,_=>by simp [valN]
 | n+1,f,h=>by
  have ih:=valN_lt n f (fun i hi=>h i (by omega))
  have hn:=h n (by omega)
  simp only [valN,Nat.pow_succ]
  have:f n*W32 ^ n+W32 ^ n≤W32 ^ n*W32:=by
   rw [← Nat.succ_mul,Nat.mul_comm]
   exact Nat.mul_le_mul_left _ hn
  omega
theorem valN_ge {n:Nat} {f:Nat→Nat} (h:f n≠0):W32 ^ n≤valN (n+1) f:=by
 simp only [valN]
 have:W32 ^ n≤f n*W32 ^ n:=Nat.le_mul_of_pos_left _ (by omega)
 omega
theorem valN_zero {n:Nat} {f:Nat→Nat} (h:Norm n f) (h0:valN n f=0):n=0:=by
 cases n with
 | zero=>rfl
 | succ n =>
  have:=valN_ge (h n rfl)
  have:=W32_pos n
  omega
theorem valN_pad {f:Nat→Nat} (n:Nat):∀ m,(∀ i,n≤i→i<n+m→f i=0)→valN (n+m) f=valN n f
 | 0,_=>rfl
 | m+1,h=>by
  show valN (n+m) f+f (n+m)*W32 ^ (n+m)=_
  rw [valN_pad n m (fun i h1 h2=>h i h1 (by omega)),h (n+m) (by omega) (by omega)]
  simp
def upd (f:Nat→Nat) (k v:Nat):Nat→Nat:=fun i=>if i=k then v else f i
theorem upd_at (f:Nat→Nat) (k v:Nat):upd f k v k=v:=if_pos rfl
theorem upd_off {f:Nat→Nat} {k v i:Nat} (h:i≠k):upd f k v i=f i:=if_neg h
theorem valN_upd (f:Nat→Nat) (k v:Nat):∀ n,k<n→valN n (upd f k v)+f k*W32 ^ k=valN n f+v*W32 ^ k
 | 0,h=>by omega
 | n+1,h=>by
  simp only [valN]
  by_cases e:k=n
  ·subst e
   rw [upd_at,valN_congr k (upd f k v) f (fun i hi=>upd_off (by omega))]
   omega
  ·rw [upd_off (Ne.symm e)]
   have:=valN_upd f k v n (by omega)
   omega
def wordF (x:Nat):Nat→Nat:=fun i=>if i=0 then x % W32 else x / W32
theorem word_val (x:Nat):valN 2 (wordF x)=x:=by
 simp only [valN,wordF,W32]
 simp
 omega
theorem word_lt {x:Nat} (h:x<18446744073709551616):∀ i,wordF x i<W32:=by
 intro i
 unfold wordF W32
 split<;>omega
def addC (fa fb:Nat→Nat):Nat→Nat
 | 0=>0
 | i+1=>(addC fa fb i+fa i+fb i) / W32
def addD (fa fb:Nat→Nat):Nat→Nat:=fun i=>(addC fa fb i+fa i+fb i) % W32
theorem addC_le (fa fb:Nat→Nat) (n:Nat) (ha:∀ i,i<n→fa i<W32) (hb:∀ i,i<n→fb i<W32):∀ i,i≤n→addC fa fb i≤1
 | 0,_=>by simp [addC]
 | i+1,h=>by
  have ih:=addC_le fa fb n ha hb i (by omega)
  have h1:=ha i (by omega)
  have h2:=hb i (by omega)
  simp only [addC]
  unfold W32 at *
  omega
theorem add_inv (fa fb:Nat→Nat):∀ n,valN n (addD fa fb)+addC fa fb n*W32 ^ n=valN n fa+valN n fb
 | 0=>by simp [valN,addC]
 | n+1=>by
  have ih:=add_inv fa fb n
  simp only [valN,addC]
  have hd:addD fa fb n+(addC fa fb n+fa n+fb n) / W32*W32=addC fa fb n+fa n+fb n:=by
   unfold addD
   have:=Nat.div_add_mod (addC fa fb n+fa n+fb n) W32
   rw [Nat.mul_comm] at this
   omega
  have e1:(addC fa fb n+fa n+fb n) / W32*W32 ^ (n+1)=(addC fa fb n+fa n+fb n) / W32*W32*W32 ^ n:=by
   rw [Nat.pow_succ,Nat.mul_comm (W32 ^ n),Nat.mul_assoc]
  have e2:addD fa fb n*W32 ^ n+(addC fa fb n+fa n+fb n) / W32*W32*W32 ^ n=addC fa fb n*W32 ^ n+fa n*W32 ^ n+fb n*W32 ^ n:=by
   rw [← Nat.add_mul,hd,Nat.add_mul,Nat.add_mul]
  rw [e1]
  omega
def padF (n:Nat) (f:Nat→Nat):Nat→Nat:=fun i=>if i<n then f i else 0
theorem pad_val {f:Nat→Nat} {n m:Nat} (h:n≤m):valN m (padF n f)=valN n f:=by
 obtain⟨d,rfl⟩:∃ d,m=n+d:=⟨m - n,by omega⟩
 rw [valN_pad (f:=padF n f) n d (fun i h1 _=>if_neg (by omega))]
 exact valN_congr _ _ _ (fun i hi=>if_pos hi)
theorem pad_lt {f:Nat→Nat} {n:Nat} (h:∀ i,i<n→f i<W32) (i:Nat):padF n f i<W32:=by
 unfold padF
 split
 ·exact h i (by assumption)
 ·decide
def sumF (na:Nat) (fa:Nat→Nat) (nb:Nat) (fb:Nat→Nat):Nat→Nat:=fun i=>if i<na then addD fa (padF nb fb) i else addC fa (padF nb fb) na
theorem sum_val {na nb:Nat} {fa fb:Nat→Nat} (h:nb≤na):valN (na+1) (sumF na fa nb fb)=valN na fa+valN nb fb:=by
 have:=add_inv fa (padF nb fb) na
 rw [pad_val h] at this
 simp only [valN]
 rw [valN_congr na (sumF na fa nb fb) (addD fa (padF nb fb)) (fun i hi=>if_pos hi)]
 show _+sumF na fa nb fb na*_=_
 unfold sumF
 rw [if_neg (by omega)]
 exact this
theorem mul_step {N i j x y r c V P:Nat} {f:Nat→Nat} (hk:i+j<N) (hr:f (i+j)=r)
  (hinv:valN N f+c*W32 ^ (i+j)=V+x*P*W32 ^ i) :
  valN N (upd f (i+j) ((c+(x*y+r)) % W32))+(c+(x*y+r)) / W32*W32 ^ (i+(j+1))=V+x*(P+y*W32 ^ j)*W32 ^ i:=by
 have h:=valN_upd f (i+j) ((c+(x*y+r)) % W32) N hk
 rw [hr] at h
 have hd:=Nat.div_add_mod (c+(x*y+r)) W32
 have e1:(c+(x*y+r)) / W32*W32 ^ (i+(j+1))=W32*((c+(x*y+r)) / W32)*W32 ^ (i+j):=by
  rw [show i+(j+1)=(i+j)+1 from by omega,Nat.pow_succ,Nat.mul_comm (W32 ^ (i+j)) W32,← Nat.mul_assoc,Nat.mul_comm ((c+(x*y+r)) / W32) W32]
 have e2:W32*((c+(x*y+r)) / W32)*W32 ^ (i+j)+(c+(x*y+r)) % W32*W32 ^ (i+j)=c*W32 ^ (i+j)+x*y*W32 ^ (i+j)+r*W32 ^ (i+j):=by
  rw [← Nat.add_mul,hd,Nat.add_mul,Nat.add_mul];omega
 have e3:x*(P+y*W32 ^ j)*W32 ^ i=x*P*W32 ^ i+x*y*W32 ^ (i+j):=by
  rw [Nat.mul_add,Nat.add_mul,Nat.pow_add,← Nat.mul_assoc x y,Nat.mul_assoc (x*y),Nat.mul_comm (W32 ^ j)]
 rw [e1,e3]
 omega
theorem mul_fit {c x y r:Nat} (hc:c<W32) (hx:x<W32) (hy:y<W32) (hr:r<W32):c+(x*y+r)<18446744073709551616:=by
 have:x*y≤4294967295*4294967295:=by
  unfold W32 at *
  exact Nat.mul_le_mul (by omega) (by omega)
 unfold W32 at *
 omega
end Go.Proofs.YtgifkepklnhddaaGreatDoor

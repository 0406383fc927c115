import Derived.Test.YtgifkepklnhddaaGreatDoorQ7Hold
import Derived.Test.YtgifkepklnhddaaGreatDoorQ7Num
import Derived.LoopN
namespace Go.Proofs.YtgifkepklnhddaaGreatDoor
open Go.RowKit
structure RdS (w:World) (b n cap:Nat) (f:Nat→Nat):Prop where
 le:n≤cap
 lim:n≤17592186044420
 capl:cap≤9223372036854775807
 lt:b<w.heap.size
 cell:∀ i,i<n→w.cell? ⟨b,i,none⟩=some (.int .u32 (f i:Int))
 word:∀ i,i<n→f i<4294967296
def Rd (w:World) (v:Value) (n:Nat) (f:Nat→Nat):Prop :=
 (v=.slice none 0 0∧n=0)∨∃ b cap:Nat,v=.slice (some ⟨b,0,none⟩) n cap∧RdS w b n cap f
theorem RdS.below {w w':World} {b n cap:Nat} {f:Nat→Nat} {B:Nat} (h:RdS w b n cap f) (hb:Below B w w') (hB:b<B):RdS w' b n cap f :=
 ⟨h.le,h.lim,h.capl,Nat.lt_of_lt_of_le h.lt hb.size,fun i hi=>by rw [hb.cell (p:=⟨b,i,none⟩) hB];exact h.cell i hi,h.word⟩
theorem Rd.below {w w':World} {v:Value} {n:Nat} {f:Nat→Nat} (h:Rd w v n f) (hb:Below w.heap.size w w'):Rd w' v n f:=by
 rcases h with h | ⟨b,cap,h1,h2⟩
 ·exact Or.inl h
 ·exact Or.inr ⟨b,cap,h1,h2.below hb h2.lt⟩
theorem Rd.word {w:World} {v:Value} {n:Nat} {f:Nat→Nat} (h:Rd w v n f):∀ i,i<n→f i<W32:=by
 rcases h with h | ⟨b,cap,h1,h2⟩
 ·intro i hi;omega
 ·exact h2.word
theorem Rd.lim {w:World} {v:Value} {n:Nat} {f:Nat→Nat} (h:Rd w v n f):n≤17592186044420:=by
 rcases h with h | ⟨b,cap,h1,h2⟩
 ·omega
 ·exact h2.lim
theorem RdS.cut {w:World} {b n m cap:Nat} {f:Nat→Nat} (h:RdS w b n cap f) (hm:m≤n):RdS w b m cap f :=
 ⟨Nat.le_trans hm h.le,Nat.le_trans hm h.lim,h.capl,h.lt,fun i hi=>h.cell i (by omega),fun i hi=>h.word i (by omega)⟩
set_option maxHeartbeats 1000000 in
theorem trim_some (b n cap:Nat) (f:Nat→Nat) (w:World) (h:RdS w b n cap f) :
  Calls Tryz.prog 212 #[.slice (some ⟨b,0,none⟩) n cap] w fun e w'=>e=.returned (.slice (some ⟨b,0,none⟩) (trimN n f) cap)∧w'=w:=by
 obtain⟨hc,hcap,hcl,_,hw,hf⟩:=h
 go_enter Tryz.func212,Tryz.ntmps212
 go_wp2
 go_loop [3] (fun t=>∃ k:Nat,k≤n∧t=.int .i64 k∧trimN n f=trimN k f) (fun t=>(intOf t).toNat)
 case atStart=>exact⟨n,Nat.le_refl _,rfl,rfl⟩
 case round =>
  obtain⟨k,hk,rfl,ht⟩:=hrel
  have HT:Hid (trimN n f=trimN k f):=ht
  clear ht
  match k,hk,HT with
  | 0,hk,HT =>
   go_wp2
   go_ret
   exact⟨by rw [HT.out];rfl,rfl⟩
  | k+1,hk,HT =>
   have hcell:=hw k (by omega)
   have hfk:=hf k (by omega)
   by_cases z:f k=0
   ·have hz:((f k:Int) == 0)=true:=by simp [z]
    have HZ:Hid (f k=0):=z
    clear z
    go_wp2
    exact⟨⟨k,by omega,rfl,by rw [HT.out];exact if_pos HZ.out⟩,by simp [intOf]⟩
   ·have hz:((f k:Int) == 0)=false:=by simp [z]
    have HZ:Hid (¬ f k=0):=z
    clear z
    go_wp2
    go_ret
    exact⟨by rw [HT.out,show trimN (k+1) f=k+1 from if_neg HZ.out];rfl,rfl⟩
set_option maxHeartbeats 1000000 in
theorem words_any (x:Nat) (w:World) (hx:x<18446744073709551616) :
  Calls Tryz.prog 198 #[.int .u64 x] w fun e w'=>(∃ v,e=.returned v∧Rd w' v (trimN 2 (wordF x)) (wordF x))∧Below w.heap.size w w':=by
 have hr:RdS (w.alloc (.cells #[.int .u32 ((x:Int) % 4294967296),.int .u32 ((x:Int) / 4294967296)] 233)) w.heap.size 2 2 (wordF x):=by
  refine⟨Nat.le_refl _,by decide,by decide,by simp,?_,fun i _=>word_lt hx i⟩
  intro i hi
  match i,hi with
  | 0,_=>simp [wordF,W32]
  | 1,_=>simp [wordF,W32]
 go_enter Tryz.func198,Tryz.ntmps198
 go_wp2_with fail
 refine (trim_some _ _ _ (wordF x) _ hr).mono ?_
 rintro e w1 ⟨rfl,rfl⟩
 go_wp2_with fail
 go_ret
 exact⟨⟨_,rfl,Or.inr ⟨_,_,rfl,hr.cut (trimN_le _ _)⟩⟩,(Below.refl _ _).alloc (Nat.le_refl _) _⟩
structure Row (w:World) (b N:Nat) (f:Nat→Nat):Prop where
 lt:b<w.heap.size
 cell:∀ i,i<N→w.cell? ⟨b,i,none⟩=some (.int .u32 (f i:Int))
 free:∀ i,w.frozen? ⟨b,i,none⟩=false
theorem Row.congr {w:World} {b N:Nat} {f g:Nat→Nat} (h:Row w b N f) (e:∀ i,i<N→f i=g i):Row w b N g :=
 ⟨h.lt,fun i hi=>by rw [← e i hi];exact h.cell i hi,h.free⟩
theorem Row.set {w:World} {b N:Nat} {f:Nat→Nat} (h:Row w b N f) (k:Nat) (hk:k<N) (v:Nat):Row (w.setCell ⟨b,k,none⟩ (.int .u32 (v:Int))) b N (upd f k v):=by
 refine⟨by simpa using h.lt,?_,fun i=>by simp [h.free i]⟩
 intro i hi
 by_cases e:i=k
 ·subst e
  rw [World.cell?_setCell_same' _ _ _ (by rw [h.cell i hi];rfl),upd_at]
 ·rw [upd_off e,← h.cell i hi]
  exact World.cell?_setCell_other _ _ _ _ (by intro q;injection q;omega)
def zeros (n:Nat):Array Value:=madeCells #[.int .u32 0] n
theorem info85:(Tryz.prog.info? 233).map (fun i=>(i.zero,i.size,i.bytes))=some (some (.int .u32 0),1,4):=by kernel_rfl
theorem make_u32 (n:Nat) (hn:n≤17592186044420) (w:World):(Instr.makeSlice 237 (.int .i64 (n:Int)) (.int .i64 (n:Int))).run Tryz.prog w=.ok (.slice (some ⟨w.heap.size,0,none⟩) n n) (w.alloc (.cells (zeros n) 233)):=by
 obtain⟨i0,hi,hz0,hz1,hz2⟩:=info_parts info85
 have:=run_make (P:=Tryz.prog) w 237 233 i0 (.int .u32 0) Tryz.underlying237 hi hz0 .i64 .i64 (n:Int) (n:Int) (by omega) (by omega) (by rw [hz2];omega) (by omega)
 rw [this,hz1]
 simp [zeros,Value.cells]
theorem Row.zeros (w:World) (n:Nat):Row (w.alloc (.cells (zeros n) 233)) w.heap.size n (fun _=>0):=by
 refine⟨by simp,?_,fun i=>by simp⟩
 intro i hi
 simp [YtgifkepklnhddaaGreatDoor.zeros,madeCells,hi,Nat.mod_one]
theorem add_carry {f g:Nat→Nat} {m i:Nat} (h:i<m):((addC f (padF m g) i:Int)+f i+g i) / 4294967296=(addC f (padF m g) (i+1):Int):=by
 simp [addC,padF,h,W32]
theorem add_carry0 {f g:Nat→Nat} {m i:Nat} (h:¬ i<m):((addC f (padF m g) i:Int)+f i) / 4294967296=(addC f (padF m g) (i+1):Int):=by
 simp [addC,padF,h,W32]
theorem add_digit {f g:Nat→Nat} {m i:Nat} (h:i<m):((addC f (padF m g) i:Int)+f i+g i) % 4294967296=(addD f (padF m g) i:Int):=by
 simp [addD,padF,h,W32]
theorem add_digit0 {f g:Nat→Nat} {m i:Nat} (h:¬ i<m):((addC f (padF m g) i:Int)+f i) % 4294967296=(addD f (padF m g) i:Int):=by
 simp [addD,padF,h,W32]
def sumTo (f g:Nat→Nat) (i:Nat):Nat→Nat:=fun k=>if k<i then addD f g k else 0
theorem sumTo_step (f g:Nat→Nat) (i:Nat):∀ k,upd (sumTo f g i) i (addD f g i) k=sumTo f g (i+1) k:=by
 intro k
 unfold upd sumTo
 by_cases h:k=i
 ·subst h;rw [if_pos rfl,if_pos (by omega)]
 ·rw [if_neg h]
  by_cases h2:k<i
  ·rw [if_pos h2,if_pos (by omega)]
  ·rw [if_neg h2,if_neg (by omega)]
theorem sumTo_last {n m:Nat} {f g:Nat→Nat}:∀ k,k<n+1→upd (sumTo f (padF m g) n) n (addC f (padF m g) n) k=sumF n f m g k:=by
 intro k hk
 unfold upd sumTo sumF
 by_cases h:k=n
 ·subst h;rw [if_pos rfl,if_neg (by omega)]
 ·rw [if_neg h,if_pos (by omega),if_pos (by omega)]
theorem sumF_lt {n m:Nat} {f g:Nat→Nat} (hf:∀ i,i<n→f i<W32) (hg:∀ i,i<m→g i<W32):∀ k,sumF n f m g k<4294967296:=by
 intro k
 unfold sumF
 split
 ·exact Nat.mod_lt _ (by decide)
 ·have:=addC_le f (padF m g) n hf (fun i _=>pad_lt hg i) n (Nat.le_refl _)
  omega
set_option maxRecDepth 100000 in
set_option maxHeartbeats 2000000 in
theorem add_some (b n cap:Nat) (f:Nat→Nat) (b2 m cap2:Nat) (g:Nat→Nat) (w:World) (h:RdS w b n cap f) (h2:RdS w b2 m cap2 g) (hm:m≤n) (hn:n≤17592186044416) :
  Calls Tryz.prog 213 #[.slice (some ⟨b,0,none⟩) n cap,.slice (some ⟨b2,0,none⟩) m cap2] w fun e w'=>(∃ v,e=.returned v∧Rd w' v (trimN (n+1) (sumF n f m g)) (sumF n f m g))∧Below w.heap.size w w':=by
 have hmk:=make_u32 (n+1) (by omega) w
 have ec:((n+1:Nat):Int)=(n:Int)+1:=by omega
 rw [ec] at hmk
 have hr0:=Row.zeros w (n+1)
 have hnl:¬ (n:Int)<m:=by omega
 go_enter Tryz.func213,Tryz.ntmps213
 go_upto_region 3 with fail
 go_cut [5] (fun s5 wx=>∃ br,s5=.slice (some ⟨br,0,none⟩) (n+1) (n+1)∧w.heap.size≤br∧Row wx br (n+1) (fun _=>0)∧Below w.heap.size w wx)
 case first =>
  go_wp2_with fail
  go_meet
  case rel=>exact⟨_,rfl,Nat.le_refl _,hr0,(Below.refl _ _).alloc (Nat.le_refl _) _⟩
 case rest =>
 obtain⟨br,rfl,hbr,hR,hB⟩:=hcut
 clear hmk hr0 ec
 go_wp2_with fail
 go_loopw [6,7] (fun c i wr=>∃ k:Nat,k≤n∧i=.int .i64 k∧c=.int .u64 (addC f (padF m g) k:Nat)∧Row wr br (n+1) (sumTo f (padF m g) k)∧Below w.heap.size w wr) (fun _ i _=>n - (intOf i).toNat)
 case atStart=>exact⟨0,Nat.zero_le _,rfl,rfl,hR.congr (fun i _=>(if_neg (by omega)).symm),hB⟩
 case round =>
  obtain⟨k,hk,rfl,rfl,hRk,hBk⟩:=hrel
  have hC:=addC_le f (padF m g) n h.word (fun i _=>pad_lt h2.word i) k hk
  by_cases hlt:k<n
  ·have hfk:=h.word k hlt
   have hck:=(h.below hBk h.lt).cell k hlt
   have hcr:=hRk.cell k (by omega)
   have hfr:=hRk.free k
   by_cases hkm:k<m
   ·have hgk:=h2.word k hkm
    have hcg:=(h2.below hBk h2.lt).cell k hkm
    have hs:=hRk.set k (by omega) (addD f (padF m g) k)
    rw [← add_digit hkm] at hs
    have HS:Hid (Row (wr.setCell ⟨br,k,none⟩ (.int .u32 (((addC f (padF m g) k:Int)+f k+g k) % 4294967296))) br (n+1) (upd (sumTo f (padF m g) k) k (addD f (padF m g) k))):=hs
    clear hs
    go_wp2
    exact⟨⟨k+1,by omega,by go_num,by rw [add_carry hkm],HS.out.congr (fun i _=>sumTo_step _ _ _ i),hBk.setCell hbr _⟩,by simp [intOf];omega⟩
   ·have hs:=hRk.set k (by omega) (addD f (padF m g) k)
    rw [← add_digit0 hkm] at hs
    have HS:Hid (Row (wr.setCell ⟨br,k,none⟩ (.int .u32 (((addC f (padF m g) k:Int)+f k) % 4294967296))) br (n+1) (upd (sumTo f (padF m g) k) k (addD f (padF m g) k))):=hs
    clear hs
    go_wp2
    exact⟨⟨k+1,by omega,by go_num,by rw [add_carry0 hkm],HS.out.congr (fun i _=>sumTo_step _ _ _ i),hBk.setCell hbr _⟩,by simp [intOf];omega⟩
  ·have hkn:k=n:=by omega
   subst hkn
   have hs:=(hRk.set k (by omega) (addC f (padF m g) k)).congr (fun i hi=>sumTo_last i hi)
   have hwd:=sumF_lt (n:=k) (m:=m) (g:=g) h.word h2.word
   have hcr:=hRk.cell k (by omega)
   have hfr:=hRk.free k
   have hBs:Below w.heap.size w (wr.setCell ⟨br,k,none⟩ (.int .u32 (addC f (padF m g) k:Nat))):=hBk.setCell hbr _
   have hrd:RdS (wr.setCell ⟨br,k,none⟩ (.int .u32 (addC f (padF m g) k:Nat))) br (k+1) (k+1) (sumF k f m g):=⟨Nat.le_refl _,by omega,by omega,hs.lt,hs.cell,fun i _=>hwd i⟩
   clear hs hwd
   go_wp2_with fail
   refine (trim_some _ _ _ _ _ hrd).mono ?_
   rintro e w2 ⟨rfl,rfl⟩
   go_wp2_with fail
   go_ret
   exact⟨⟨_,rfl,Or.inr ⟨_,_,rfl,hrd.cut (trimN_le _ _)⟩⟩,hBs⟩
set_option maxRecDepth 100000 in
set_option maxHeartbeats 2000000 in
theorem add_nil (b n cap:Nat) (f:Nat→Nat)  (g:Nat→Nat) (w:World) (h:RdS w b n cap f) (hm:0≤n) (hn:n≤17592186044416) :
  Calls Tryz.prog 213 #[.slice (some ⟨b,0,none⟩) n cap,.slice none 0 0] w fun e w'=>(∃ v,e=.returned v∧Rd w' v (trimN (n+1) (sumF n f 0 g)) (sumF n f 0 g))∧Below w.heap.size w w':=by
 have hmk:=make_u32 (n+1) (by omega) w
 have ec:((n+1:Nat):Int)=(n:Int)+1:=by omega
 rw [ec] at hmk
 have hr0:=Row.zeros w (n+1)
 have hnl:¬ (n:Int)<0:=by omega
 go_enter Tryz.func213,Tryz.ntmps213
 go_upto_region 3 with fail
 go_cut [5] (fun s5 wx=>∃ br,s5=.slice (some ⟨br,0,none⟩) (n+1) (n+1)∧w.heap.size≤br∧Row wx br (n+1) (fun _=>0)∧Below w.heap.size w wx)
 case first =>
  go_wp2_with fail
  go_meet
  case rel=>exact⟨_,rfl,Nat.le_refl _,hr0,(Below.refl _ _).alloc (Nat.le_refl _) _⟩
 case rest =>
 obtain⟨br,rfl,hbr,hR,hB⟩:=hcut
 clear hmk hr0 ec
 go_wp2_with fail
 go_loopw [6,7] (fun c i wr=>∃ k:Nat,k≤n∧i=.int .i64 k∧c=.int .u64 (addC f (padF 0 g) k:Nat)∧Row wr br (n+1) (sumTo f (padF 0 g) k)∧Below w.heap.size w wr) (fun _ i _=>n - (intOf i).toNat)
 case atStart=>exact⟨0,Nat.zero_le _,rfl,rfl,hR.congr (fun i _=>(if_neg (by omega)).symm),hB⟩
 case round =>
  obtain⟨k,hk,rfl,rfl,hRk,hBk⟩:=hrel
  have hC:=addC_le f (padF 0 g) n h.word (fun i _=>pad_lt (n:=0) (by intro i hi;omega) i) k hk
  by_cases hlt:k<n
  ·have hfk:=h.word k hlt
   have hck:=(h.below hBk h.lt).cell k hlt
   have hcr:=hRk.cell k (by omega)
   have hfr:=hRk.free k
   have hkm:¬ k<0:=by omega
   have hs:=hRk.set k (by omega) (addD f (padF 0 g) k)
   rw [← add_digit0 hkm] at hs
   have HS:Hid (Row (wr.setCell ⟨br,k,none⟩ (.int .u32 (((addC f (padF 0 g) k:Int)+f k) % 4294967296))) br (n+1) (upd (sumTo f (padF 0 g) k) k (addD f (padF 0 g) k))):=hs
   clear hs
   go_wp2
   exact⟨⟨k+1,by omega,by go_num,by rw [add_carry0 hkm],HS.out.congr (fun i _=>sumTo_step _ _ _ i),hBk.setCell hbr _⟩,by simp [intOf];omega⟩
  ·have hkn:k=n:=by omega
   subst hkn
   have hs:=(hRk.set k (by omega) (addC f (padF 0 g) k)).congr (fun i hi=>sumTo_last i hi)
   have hwd:=sumF_lt (n:=k) (m:=0) (g:=g) h.word (by intro i hi;omega)
   have hcr:=hRk.cell k (by omega)
   have hfr:=hRk.free k
   have hBs:Below w.heap.size w (wr.setCell ⟨br,k,none⟩ (.int .u32 (addC f (padF 0 g) k:Nat))):=hBk.setCell hbr _
   have hrd:RdS (wr.setCell ⟨br,k,none⟩ (.int .u32 (addC f (padF 0 g) k:Nat))) br (k+1) (k+1) (sumF k f 0 g):=⟨Nat.le_refl _,by omega,by omega,hs.lt,hs.cell,fun i _=>hwd i⟩
   clear hs hwd
   go_wp2_with fail
   refine (trim_some _ _ _ _ _ hrd).mono ?_
   rintro e w2 ⟨rfl,rfl⟩
   go_wp2_with fail
   go_ret
   exact⟨⟨_,rfl,Or.inr ⟨_,_,rfl,hrd.cut (trimN_le _ _)⟩⟩,hBs⟩
set_option maxRecDepth 100000 in
set_option maxHeartbeats 2000000 in
theorem add_some_sw (b n cap:Nat) (f:Nat→Nat) (b2 m cap2:Nat) (g:Nat→Nat) (w:World) (h:RdS w b n cap f) (h2:RdS w b2 m cap2 g) (hm:m<n) (hn:n≤17592186044416) :
  Calls Tryz.prog 213 #[.slice (some ⟨b2,0,none⟩) m cap2,.slice (some ⟨b,0,none⟩) n cap] w fun e w'=>(∃ v,e=.returned v∧Rd w' v (trimN (n+1) (sumF n f m g)) (sumF n f m g))∧Below w.heap.size w w':=by
 have hmk:=make_u32 (n+1) (by omega) w
 have ec:((n+1:Nat):Int)=(n:Int)+1:=by omega
 rw [ec] at hmk
 have hr0:=Row.zeros w (n+1)
 have hnl:(m:Int)<n:=by omega
 go_enter Tryz.func213,Tryz.ntmps213
 go_upto_region 3 with fail
 go_cut [5] (fun s5 wx=>∃ br,s5=.slice (some ⟨br,0,none⟩) (n+1) (n+1)∧w.heap.size≤br∧Row wx br (n+1) (fun _=>0)∧Below w.heap.size w wx)
 case first =>
  go_wp2_with fail
  go_meet
  case rel=>exact⟨_,rfl,Nat.le_refl _,hr0,(Below.refl _ _).alloc (Nat.le_refl _) _⟩
 case rest =>
 obtain⟨br,rfl,hbr,hR,hB⟩:=hcut
 clear hmk hr0 ec
 go_wp2_with fail
 go_loopw [6,7] (fun c i wr=>∃ k:Nat,k≤n∧i=.int .i64 k∧c=.int .u64 (addC f (padF m g) k:Nat)∧Row wr br (n+1) (sumTo f (padF m g) k)∧Below w.heap.size w wr) (fun _ i _=>n - (intOf i).toNat)
 case atStart=>exact⟨0,Nat.zero_le _,rfl,rfl,hR.congr (fun i _=>(if_neg (by omega)).symm),hB⟩
 case round =>
  obtain⟨k,hk,rfl,rfl,hRk,hBk⟩:=hrel
  have hC:=addC_le f (padF m g) n h.word (fun i _=>pad_lt h2.word i) k hk
  by_cases hlt:k<n
  ·have hfk:=h.word k hlt
   have hck:=(h.below hBk h.lt).cell k hlt
   have hcr:=hRk.cell k (by omega)
   have hfr:=hRk.free k
   by_cases hkm:k<m
   ·have hgk:=h2.word k hkm
    have hcg:=(h2.below hBk h2.lt).cell k hkm
    have hs:=hRk.set k (by omega) (addD f (padF m g) k)
    rw [← add_digit hkm] at hs
    have HS:Hid (Row (wr.setCell ⟨br,k,none⟩ (.int .u32 (((addC f (padF m g) k:Int)+f k+g k) % 4294967296))) br (n+1) (upd (sumTo f (padF m g) k) k (addD f (padF m g) k))):=hs
    clear hs
    go_wp2
    exact⟨⟨k+1,by omega,by go_num,by rw [add_carry hkm],HS.out.congr (fun i _=>sumTo_step _ _ _ i),hBk.setCell hbr _⟩,by simp [intOf];omega⟩
   ·have hs:=hRk.set k (by omega) (addD f (padF m g) k)
    rw [← add_digit0 hkm] at hs
    have HS:Hid (Row (wr.setCell ⟨br,k,none⟩ (.int .u32 (((addC f (padF m g) k:Int)+f k) % 4294967296))) br (n+1) (upd (sumTo f (padF m g) k) k (addD f (padF m g) k))):=hs
    clear hs
    go_wp2
    exact⟨⟨k+1,by omega,by go_num,by rw [add_carry0 hkm],HS.out.congr (fun i _=>sumTo_step _ _ _ i),hBk.setCell hbr _⟩,by simp [intOf];omega⟩
  ·have hkn:k=n:=by omega
   subst hkn
   have hs:=(hRk.set k (by omega) (addC f (padF m g) k)).congr (fun i hi=>sumTo_last i hi)
   have hwd:=sumF_lt (n:=k) (m:=m) (g:=g) h.word h2.word
   have hcr:=hRk.cell k (by omega)
   have hfr:=hRk.free k
   have hBs:Below w.heap.size w (wr.setCell ⟨br,k,none⟩ (.int .u32 (addC f (padF m g) k:Nat))):=hBk.setCell hbr _
   have hrd:RdS (wr.setCell ⟨br,k,none⟩ (.int .u32 (addC f (padF m g) k:Nat))) br (k+1) (k+1) (sumF k f m g):=⟨Nat.le_refl _,by omega,by omega,hs.lt,hs.cell,fun i _=>hwd i⟩
   clear hs hwd
   go_wp2_with fail
   refine (trim_some _ _ _ _ _ hrd).mono ?_
   rintro e w2 ⟨rfl,rfl⟩
   go_wp2_with fail
   go_ret
   exact⟨⟨_,rfl,Or.inr ⟨_,_,rfl,hrd.cut (trimN_le _ _)⟩⟩,hBs⟩
set_option maxRecDepth 100000 in
set_option maxHeartbeats 2000000 in
theorem add_nil_sw (b n cap:Nat) (f:Nat→Nat)  (g:Nat→Nat) (w:World) (h:RdS w b n cap f) (hm:0<n) (hn:n≤17592186044416) :
  Calls Tryz.prog 213 #[.slice none 0 0,.slice (some ⟨b,0,none⟩) n cap] w fun e w'=>(∃ v,e=.returned v∧Rd w' v (trimN (n+1) (sumF n f 0 g)) (sumF n f 0 g))∧Below w.heap.size w w':=by
 have hmk:=make_u32 (n+1) (by omega) w
 have ec:((n+1:Nat):Int)=(n:Int)+1:=by omega
 rw [ec] at hmk
 have hr0:=Row.zeros w (n+1)
 have hnl:(0:Int)<n:=by omega
 go_enter Tryz.func213,Tryz.ntmps213
 go_upto_region 3 with fail
 go_cut [5] (fun s5 wx=>∃ br,s5=.slice (some ⟨br,0,none⟩) (n+1) (n+1)∧w.heap.size≤br∧Row wx br (n+1) (fun _=>0)∧Below w.heap.size w wx)
 case first =>
  go_wp2_with fail
  go_meet
  case rel=>exact⟨_,rfl,Nat.le_refl _,hr0,(Below.refl _ _).alloc (Nat.le_refl _) _⟩
 case rest =>
 obtain⟨br,rfl,hbr,hR,hB⟩:=hcut
 clear hmk hr0 ec
 go_wp2_with fail
 go_loopw [6,7] (fun c i wr=>∃ k:Nat,k≤n∧i=.int .i64 k∧c=.int .u64 (addC f (padF 0 g) k:Nat)∧Row wr br (n+1) (sumTo f (padF 0 g) k)∧Below w.heap.size w wr) (fun _ i _=>n - (intOf i).toNat)
 case atStart=>exact⟨0,Nat.zero_le _,rfl,rfl,hR.congr (fun i _=>(if_neg (by omega)).symm),hB⟩
 case round =>
  obtain⟨k,hk,rfl,rfl,hRk,hBk⟩:=hrel
  have hC:=addC_le f (padF 0 g) n h.word (fun i _=>pad_lt (n:=0) (by intro i hi;omega) i) k hk
  by_cases hlt:k<n
  ·have hfk:=h.word k hlt
   have hck:=(h.below hBk h.lt).cell k hlt
   have hcr:=hRk.cell k (by omega)
   have hfr:=hRk.free k
   have hkm:¬ k<0:=by omega
   have hs:=hRk.set k (by omega) (addD f (padF 0 g) k)
   rw [← add_digit0 hkm] at hs
   have HS:Hid (Row (wr.setCell ⟨br,k,none⟩ (.int .u32 (((addC f (padF 0 g) k:Int)+f k) % 4294967296))) br (n+1) (upd (sumTo f (padF 0 g) k) k (addD f (padF 0 g) k))):=hs
   clear hs
   go_wp2
   exact⟨⟨k+1,by omega,by go_num,by rw [add_carry0 hkm],HS.out.congr (fun i _=>sumTo_step _ _ _ i),hBk.setCell hbr _⟩,by simp [intOf];omega⟩
  ·have hkn:k=n:=by omega
   subst hkn
   have hs:=(hRk.set k (by omega) (addC f (padF 0 g) k)).congr (fun i hi=>sumTo_last i hi)
   have hwd:=sumF_lt (n:=k) (m:=0) (g:=g) h.word (by intro i hi;omega)
   have hcr:=hRk.cell k (by omega)
   have hfr:=hRk.free k
   have hBs:Below w.heap.size w (wr.setCell ⟨br,k,none⟩ (.int .u32 (addC f (padF 0 g) k:Nat))):=hBk.setCell hbr _
   have hrd:RdS (wr.setCell ⟨br,k,none⟩ (.int .u32 (addC f (padF 0 g) k:Nat))) br (k+1) (k+1) (sumF k f 0 g):=⟨Nat.le_refl _,by omega,by omega,hs.lt,hs.cell,fun i _=>hwd i⟩
   clear hs hwd
   go_wp2_with fail
   refine (trim_some _ _ _ _ _ hrd).mono ?_
   rintro e w2 ⟨rfl,rfl⟩
   go_wp2_with fail
   go_ret
   exact⟨⟨_,rfl,Or.inr ⟨_,_,rfl,hrd.cut (trimN_le _ _)⟩⟩,hBs⟩
set_option maxRecDepth 100000 in
set_option maxHeartbeats 1000000 in
theorem add_zero (a1 a2:Option Addr) (c1 c2:Nat) (w:World) :
  Calls Tryz.prog 213 #[.slice a1 0 c1,.slice a2 0 c2] w fun e w'=>(∃ v,e=.returned v∧Rd w' v 0 (fun _=>0))∧Below w.heap.size w w':=by
 have hmk:(Instr.makeSlice 237 (.int .i64 1) (.int .i64 1)).run Tryz.prog w=.ok (.slice (some ⟨w.heap.size,0,none⟩) 1 1) (w.alloc (.cells (zeros 1) 233)):=make_u32 1 (by omega) w
 have hr0:=Row.zeros w 1
 have hs:=(hr0.set 0 (by omega) 0).congr (g:=fun _=>0) (fun i _=>by unfold upd;split<;>rfl)
 have hcr:=hr0.cell 0 (by omega)
 have hfr:=hr0.free 0
 go_enter Tryz.func213,Tryz.ntmps213
 go_upto_region 3 with fail
 go_cut [5] (fun s5 wx=>∃ br,s5=.slice (some ⟨br,0,none⟩) 1 1∧w.heap.size≤br∧Row wx br 1 (fun _=>0)∧Below w.heap.size w wx)
 case first =>
  go_wp2_with fail
  go_meet
  case rel=>exact⟨_,rfl,Nat.le_refl _,hr0,(Below.refl _ _).alloc (Nat.le_refl _) _⟩
 case rest =>
 obtain⟨br,rfl,hbr,hR,hB⟩:=hcut
 clear hmk hr0 hs hcr hfr
 have hs:=(hR.set 0 (by omega) 0).congr (g:=fun _=>0) (fun i _=>by unfold upd;split<;>rfl)
 have hcr:=hR.cell 0 (by omega)
 have hfr:=hR.free 0
 have hBs:Below w.heap.size w (wc.setCell ⟨br,0,none⟩ (.int .u32 0)):=hB.setCell hbr _
 have hrd:RdS (wc.setCell ⟨br,0,none⟩ (.int .u32 0)) br 1 1 (fun _=>0):=⟨Nat.le_refl _,by omega,by omega,hs.lt,hs.cell,fun i _=>by omega⟩
 clear hs
 go_wp2_with fail
 refine wp_loop_rounds 1 ?_
 rw [rounds_succ]
 go_wp2_with fail
 refine (trim_some _ _ _ _ _ hrd).mono ?_
 rintro e w2 ⟨rfl,rfl⟩
 go_wp2_with fail
 go_ret
 exact⟨⟨_,rfl,Or.inr ⟨_,_,rfl,hrd.cut (Nat.zero_le _)⟩⟩,hBs⟩
def Num (w:World) (v:Value) (x:Nat):Prop:=∃ n f,Rd w v n f∧Norm n f∧valN n f=x
theorem Num.below {w w':World} {v:Value} {x:Nat} (h:Num w v x) (hb:Below w.heap.size w w'):Num w' v x:=by
 obtain⟨n,f,h1,h2,h3⟩:=h
 exact⟨n,f,h1.below hb,h2,h3⟩
theorem num_trim {w:World} {v:Value} {n:Nat} {f:Nat→Nat} {x:Nat} (h:Rd w v (trimN n f) f) (hx:valN n f=x):Num w v x :=
 ⟨_,f,h,trimN_norm _ _,by rw [valN_trim];exact hx⟩
theorem add_any (v1 v2:Value) (n m:Nat) (f g:Nat→Nat) (w:World) (h1:Rd w v1 n f) (h2:Rd w v2 m g) (hn:n≤17592186044416) (hm:m≤17592186044416) :
  Calls Tryz.prog 213 #[v1,v2] w fun e w'=>(∃ v,e=.returned v∧Num w' v (valN n f+valN m g))∧Below w.heap.size w w':=by
 by_cases hz:n=0∧m=0
 ·obtain⟨rfl,rfl⟩:=hz
  have e1:∃ a c,v1=.slice a 0 c:=by
   rcases h1 with ⟨e,_⟩ | ⟨b,c,e,_⟩
   ·exact⟨_,_,e⟩
   ·exact⟨_,_,e⟩
  have e2:∃ a c,v2=.slice a 0 c:=by
   rcases h2 with ⟨e,_⟩ | ⟨b,c,e,_⟩
   ·exact⟨_,_,e⟩
   ·exact⟨_,_,e⟩
  obtain⟨a1,c1,rfl⟩:=e1
  obtain⟨a2,c2,rfl⟩:=e2
  refine (add_zero a1 a2 c1 c2 w).mono ?_
  rintro e w' ⟨⟨v,rfl,hv⟩,hb⟩
  exact⟨⟨v,rfl,0,_,hv,fun m h=>by omega,rfl⟩,hb⟩
 by_cases hle:m≤n
 ·rcases h1 with ⟨_,rfl⟩ | ⟨b,cap,rfl,h1⟩
  ·omega
  rcases h2 with ⟨rfl,rfl⟩ | ⟨b2,cap2,rfl,h2⟩
  ·refine (add_nil b n cap f g w h1 hle hn).mono ?_
   rintro e w' ⟨⟨v,rfl,hv⟩,hb⟩
   exact⟨⟨v,rfl,num_trim hv (sum_val hle)⟩,hb⟩
  ·refine (add_some b n cap f b2 m cap2 g w h1 h2 hle hn).mono ?_
   rintro e w' ⟨⟨v,rfl,hv⟩,hb⟩
   exact⟨⟨v,rfl,num_trim hv (sum_val hle)⟩,hb⟩
 ·rcases h2 with ⟨_,rfl⟩ | ⟨b,cap,rfl,h2⟩
  ·omega
  rcases h1 with ⟨rfl,rfl⟩ | ⟨b2,cap2,rfl,h1⟩
  ·refine (add_nil_sw b m cap g f w h2 (by omega) hm).mono ?_
   rintro e w' ⟨⟨v,rfl,hv⟩,hb⟩
   exact⟨⟨v,rfl,num_trim hv (by rw [sum_val (by omega)];omega)⟩,hb⟩
  ·refine (add_some_sw b m cap g b2 n cap2 f w h2 h1 (by omega) hm).mono ?_
   rintro e w' ⟨⟨v,rfl,hv⟩,hb⟩
   exact⟨⟨v,rfl,num_trim hv (by rw [sum_val (by omega)];omega)⟩,hb⟩
end Go.Proofs.YtgifkepklnhddaaGreatDoor

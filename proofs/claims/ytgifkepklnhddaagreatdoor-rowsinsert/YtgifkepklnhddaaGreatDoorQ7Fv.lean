import Derived.Test.YtgifkepklnhddaaGreatDoorQ7Fe4
import Derived.Test.YtgifkepklnhddaaGreatDoorQ7Read
import Derived.Test.YtgifkepklnhddaaGreatDoorQ7Amath
namespace Go.Proofs.YtgifkepklnhddaaGreatDoor.fm
open Go.RowKit
def refOf (t:ByteArray):Option Rf:=if (adr.rdR t).ok=true then some ⟨(adr.rdR t).c,(adr.rdR t).r,(adr.rdR t).fc,(adr.rdR t).fr⟩ else none
def meanOf (t:ByteArray):Option T :=
 match refOf t with
 | some r=>some (tRef r)
 | none=>if (rd t).1=1 then some (.nd 1 (rd t).2.1 nul .z .z []) else if (rd t).1=3 then some (.nd 3 (rd t).2.1 nul .z .z []) else none
def lexP:Lex:=⟨refOf,meanOf,by decide +kernel,by decide +kernel⟩
theorem ref_yes (t:ByteArray) (w:World) (r:Rf) (ht:t.size≤200) (h:refOf t=some r) :
  Calls Tryz.prog 252 #[.string t] w fun e w'=>e=.returned (.tuple #[RV r,.nilIface])∧Below w.heap.size w w':=by
 unfold refOf at h
 split at h
 ·next hok =>
  refine (adr.ref_any t w (by omega)).mono ?_
  rintro e w1 ⟨rfl,hb⟩
  cases h
  rw [hok]
  exact⟨rfl,hb⟩
 ·cases h
theorem ref_no (t:ByteArray) (w:World) (ht:t.size≤200) (h:refOf t=none) :
  Calls Tryz.prog 252 #[.string t] w fun e w'=>e=.returned (.tuple #[RV .z,.iface 100 (.int .i64 2)])∧Below w.heap.size w w':=by
 unfold refOf at h
 split at h
 ·cases h
 ·next hok =>
  have hno:(adr.rdR t).ok=false:=by simpa using hok
  refine (adr.ref_any t w (by omega)).mono ?_
  rintro e w1 ⟨rfl,hb⟩
  rw [adr.rdR_no hno]
  exact⟨rfl,hb⟩
set_option maxHeartbeats 2000000 in
theorem mean_ref (t:ByteArray) (w:World) (_:EnvF w) (ht:t.size≤200) (r:Rf) (hr:refOf t=some r) :
  Calls Tryz.prog 239 #[.string t] w fun e w'=>e=.returned (.tuple #[NV 5 0 nul r .z (.slice none 0 0),.bool true])∧Below w.heap.size w w':=by
 have HR:Hid (refOf t=some r):=hr
 clear hr
 have hq0:=blk_new w (.cells NZ 57)
 have hb0:Below w.heap.size w (w.alloc (.cells NZ 57)):=(Below.refl _ _).alloc (Nat.le_refl _) _
 go_enter Tryz.func239,Tryz.ntmps239
 go_wp2_with fail
 refine (ref_yes t _ r ht HR.out).mono ?_
 rintro e w1 ⟨rfl,hb1⟩
 have hq1:=((Kp.refl (fun _=>False) _).below hb1).blk hq0 id
 have hB1:Below w.heap.size w w1:=bnext hb0 hb1 hb0.size
 have hKa:=(Kp.refl (fun _=>False) w1).alloc (.cells #[.int .i64 r.c,.int .i64 r.r,.bool r.fc,.bool r.fr] 54)
 have hq2:=hKa.blk hq1 id
 have hr2:=cells4 (blk_new w1 (.cells #[.int .i64 r.c,.int .i64 r.r,.bool r.fc,.bool r.fr] 54))
 obtain⟨a0,a1,a2,a3⟩:=hr2
 obtain⟨⟨b0,b1,b2,b3,b4,b5,b6,b7,b8,b9,b10,b11⟩,bf⟩:=cells12 hq2
 have hB2:=hB1.alloc hB1.size (.cells #[.int .i64 r.c,.int .i64 r.r,.bool r.fc,.bool r.fr] 54)
 go_wp2_with fail
 refine fin12 hq2 (Q:=bodyPost _ _ _ _ _) ?_
 intro w9 hq9 hk9
 clear b0 b1 b2 b3 b4 b5 b6 b7 b8 b9 b10 b11 bf
 obtain⟨⟨b0,b1,b2,b3,b4,b5,b6,b7,b8,b9,b10,b11⟩,bf⟩:=cells12 hq9
 have hB9:Below w.heap.size w w9:=hB2.trans (hk9.toBelow hB2.size (fun n hn e=>by omega))
 exact bodyPost_ret (v:=.tuple #[NV 5 0 nul r .z (.slice none 0 0),.bool true]) (by simp [results,Tryz.results239,go_sem,b0,b1,b2,b3,b4,b5,b6,b7,b8,b9,b10,b11]) rfl ⟨rfl,hB9⟩
set_option maxHeartbeats 2000000 in
theorem mean_num (t:ByteArray) (w:World) (hE:EnvF w) (ht:t.size≤200) (n:Int) (x:ByteArray) (hr:refOf t=none) (hv:rd t=(1,n,x)) :
  Calls Tryz.prog 239 #[.string t] w fun e w'=>e=.returned (.tuple #[NV 1 n nul .z .z (.slice none 0 0),.bool true])∧Below w.heap.size w w':=by
 have HR:Hid (refOf t=none):=hr
 clear hr
 have HV:Hid (rd t=(1,n,x)):=hv
 clear hv
 have hq0:=blk_new w (.cells NZ 57)
 have hb0:Below w.heap.size w (w.alloc (.cells NZ 57)):=(Below.refl _ _).alloc (Nat.le_refl _) _
 go_enter Tryz.func239,Tryz.ntmps239
 go_wp2_with fail
 refine (ref_no t _ ht HR.out).mono ?_
 rintro e w1 ⟨rfl,hb1⟩
 have hq1:=((Kp.refl (fun _=>False) _).below hb1).blk hq0 id
 have hB1:Below w.heap.size w w1:=bnext hb0 hb1 hb0.size
 have hKa:=(Kp.refl (fun _=>False) w1).alloc (.cells #[.int .i64 0,.int .i64 0,.bool false,.bool false] 54)
 have hq2:=hKa.blk hq1 id
 have hB2:=hB1.alloc hB1.size (.cells #[.int .i64 0,.int .i64 0,.bool false,.bool false] 54)
 have hE2:=hE.below hB2 hE.env.size
 go_wp2_with fail
 generalize w1.alloc (.cells #[.int .i64 0,.int .i64 0,.bool false,.bool false] 54)=w2 at *
 refine (read_any t _ hE2.env).mono ?_
 rintro e w3 ⟨rfl,hb3⟩
 rw [HV.out]
 have hq3:=((Kp.refl (fun _=>False) _).below hb3).blk hq2 id
 have hB3:Below w.heap.size w w3:=bnext hB2 hb3 hB2.size
 have hKc:=(Kp.refl (fun _=>False) w3).alloc (.cells #[.int .i64 1,.int .i64 n,.string x] 163)
 have hq4:=hKc.blk hq3 id
 have hB4:=hB3.alloc hB3.size (.cells #[.int .i64 1,.int .i64 n,.string x] 163)
 have hv4:(w3.alloc (.cells #[.int .i64 1,.int .i64 n,.string x] 163)).cell? ⟨w3.heap.size,0,none⟩=some (.int .i64 1)∧(w3.alloc (.cells #[.int .i64 1,.int .i64 n,.string x] 163)).cell? ⟨w3.heap.size,1,none⟩=some (.int .i64 n):=by
  have:=blk_new w3 (.cells #[.int .i64 1,.int .i64 n,.string x] 163)
  exact⟨by rw [cell_blk this];rfl,by rw [cell_blk this];rfl⟩
 obtain⟨v0,v1⟩:=hv4
 obtain⟨⟨b0,b1,b2,b3,b4,b5,b6,b7,b8,b9,b10,b11⟩,bf⟩:=cells12 hq4
 go_wp2_with fail
 refine fin12 hq4 (Q:=bodyPost _ _ _ _ _) ?_
 intro w9 hq9 hk9
 clear b0 b1 b2 b3 b4 b5 b6 b7 b8 b9 b10 b11 bf
 obtain⟨⟨b0,b1,b2,b3,b4,b5,b6,b7,b8,b9,b10,b11⟩,bf⟩:=cells12 hq9
 have hB9:Below w.heap.size w w9:=hB4.trans (hk9.toBelow hB4.size (fun n hn e=>by omega))
 exact bodyPost_ret (v:=.tuple #[NV 1 n nul .z .z (.slice none 0 0),.bool true]) (by simp [results,Tryz.results239,go_sem,b0,b1,b2,b3,b4,b5,b6,b7,b8,b9,b10,b11]) rfl ⟨rfl,hB9⟩
set_option maxHeartbeats 2000000 in
theorem mean_tru (t:ByteArray) (w:World) (hE:EnvF w) (ht:t.size≤200) (n:Int) (x:ByteArray) (hr:refOf t=none) (hv:rd t=(3,n,x)) :
  Calls Tryz.prog 239 #[.string t] w fun e w'=>e=.returned (.tuple #[NV 3 n nul .z .z (.slice none 0 0),.bool true])∧Below w.heap.size w w':=by
 have HR:Hid (refOf t=none):=hr
 clear hr
 have HV:Hid (rd t=(3,n,x)):=hv
 clear hv
 have hq0:=blk_new w (.cells NZ 57)
 have hb0:Below w.heap.size w (w.alloc (.cells NZ 57)):=(Below.refl _ _).alloc (Nat.le_refl _) _
 go_enter Tryz.func239,Tryz.ntmps239
 go_wp2_with fail
 refine (ref_no t _ ht HR.out).mono ?_
 rintro e w1 ⟨rfl,hb1⟩
 have hq1:=((Kp.refl (fun _=>False) _).below hb1).blk hq0 id
 have hB1:Below w.heap.size w w1:=bnext hb0 hb1 hb0.size
 have hKa:=(Kp.refl (fun _=>False) w1).alloc (.cells #[.int .i64 0,.int .i64 0,.bool false,.bool false] 54)
 have hq2:=hKa.blk hq1 id
 have hB2:=hB1.alloc hB1.size (.cells #[.int .i64 0,.int .i64 0,.bool false,.bool false] 54)
 have hE2:=hE.below hB2 hE.env.size
 go_wp2_with fail
 generalize w1.alloc (.cells #[.int .i64 0,.int .i64 0,.bool false,.bool false] 54)=w2 at *
 refine (read_any t _ hE2.env).mono ?_
 rintro e w3 ⟨rfl,hb3⟩
 rw [HV.out]
 have hq3:=((Kp.refl (fun _=>False) _).below hb3).blk hq2 id
 have hB3:Below w.heap.size w w3:=bnext hB2 hb3 hB2.size
 have hKc:=(Kp.refl (fun _=>False) w3).alloc (.cells #[.int .i64 3,.int .i64 n,.string x] 163)
 have hq4:=hKc.blk hq3 id
 have hB4:=hB3.alloc hB3.size (.cells #[.int .i64 3,.int .i64 n,.string x] 163)
 have hv4:(w3.alloc (.cells #[.int .i64 3,.int .i64 n,.string x] 163)).cell? ⟨w3.heap.size,0,none⟩=some (.int .i64 3)∧(w3.alloc (.cells #[.int .i64 3,.int .i64 n,.string x] 163)).cell? ⟨w3.heap.size,1,none⟩=some (.int .i64 n):=by
  have:=blk_new w3 (.cells #[.int .i64 3,.int .i64 n,.string x] 163)
  exact⟨by rw [cell_blk this];rfl,by rw [cell_blk this];rfl⟩
 obtain⟨v0,v1⟩:=hv4
 obtain⟨⟨b0,b1,b2,b3,b4,b5,b6,b7,b8,b9,b10,b11⟩,bf⟩:=cells12 hq4
 go_wp2_with fail
 refine fin12 hq4 (Q:=bodyPost _ _ _ _ _) ?_
 intro w9 hq9 hk9
 clear b0 b1 b2 b3 b4 b5 b6 b7 b8 b9 b10 b11 bf
 obtain⟨⟨b0,b1,b2,b3,b4,b5,b6,b7,b8,b9,b10,b11⟩,bf⟩:=cells12 hq9
 have hB9:Below w.heap.size w w9:=hB4.trans (hk9.toBelow hB4.size (fun n hn e=>by omega))
 exact bodyPost_ret (v:=.tuple #[NV 3 n nul .z .z (.slice none 0 0),.bool true]) (by simp [results,Tryz.results239,go_sem,b0,b1,b2,b3,b4,b5,b6,b7,b8,b9,b10,b11]) rfl ⟨rfl,hB9⟩
set_option maxHeartbeats 2000000 in
theorem mean_none (t:ByteArray) (w:World) (hE:EnvF w) (ht:t.size≤200) (q n:Int) (x:ByteArray) (hr:refOf t=none) (hv:rd t=(q,n,x)) (h1:q≠1) (h3:q≠3) :
  Calls Tryz.prog 239 #[.string t] w fun e w'=>e=.returned (.tuple #[NV 0 0 nul .z .z (.slice none 0 0),.bool false])∧Below w.heap.size w w':=by
 have HR:Hid (refOf t=none):=hr
 clear hr
 have HV:Hid (rd t=(q,n,x)):=hv
 clear hv
 have q1:(q == 1)=false:=by rw [beq_eq_false_iff_ne];exact h1
 have q3:(q == 3)=false:=by rw [beq_eq_false_iff_ne];exact h3
 clear h1 h3
 have hq0:=blk_new w (.cells NZ 57)
 have hb0:Below w.heap.size w (w.alloc (.cells NZ 57)):=(Below.refl _ _).alloc (Nat.le_refl _) _
 go_enter Tryz.func239,Tryz.ntmps239
 go_wp2_with fail
 refine (ref_no t _ ht HR.out).mono ?_
 rintro e w1 ⟨rfl,hb1⟩
 have hq1:=((Kp.refl (fun _=>False) _).below hb1).blk hq0 id
 have hB1:Below w.heap.size w w1:=bnext hb0 hb1 hb0.size
 have hKa:=(Kp.refl (fun _=>False) w1).alloc (.cells #[.int .i64 0,.int .i64 0,.bool false,.bool false] 54)
 have hq2:=hKa.blk hq1 id
 have hB2:=hB1.alloc hB1.size (.cells #[.int .i64 0,.int .i64 0,.bool false,.bool false] 54)
 have hE2:=hE.below hB2 hE.env.size
 go_wp2_with fail
 generalize w1.alloc (.cells #[.int .i64 0,.int .i64 0,.bool false,.bool false] 54)=w2 at *
 refine (read_any t _ hE2.env).mono ?_
 rintro e w3 ⟨rfl,hb3⟩
 rw [HV.out]
 have hq3:=((Kp.refl (fun _=>False) _).below hb3).blk hq2 id
 have hB3:Below w.heap.size w w3:=bnext hB2 hb3 hB2.size
 have hKc:=(Kp.refl (fun _=>False) w3).alloc (.cells #[.int .i64 q,.int .i64 n,.string x] 163)
 have hq4:=hKc.blk hq3 id
 have hB4:=hB3.alloc hB3.size (.cells #[.int .i64 q,.int .i64 n,.string x] 163)
 have hv4:(w3.alloc (.cells #[.int .i64 q,.int .i64 n,.string x] 163)).cell? ⟨w3.heap.size,0,none⟩=some (.int .i64 q)∧(w3.alloc (.cells #[.int .i64 q,.int .i64 n,.string x] 163)).cell? ⟨w3.heap.size,1,none⟩=some (.int .i64 n):=by
  have:=blk_new w3 (.cells #[.int .i64 q,.int .i64 n,.string x] 163)
  exact⟨by rw [cell_blk this];rfl,by rw [cell_blk this];rfl⟩
 obtain⟨v0,v1⟩:=hv4
 obtain⟨⟨b0,b1,b2,b3,b4,b5,b6,b7,b8,b9,b10,b11⟩,bf⟩:=cells12 hq4
 go_wp2_with fail
 refine fin12 hq4 (Q:=bodyPost _ _ _ _ _) ?_
 intro w9 hq9 hk9
 clear b0 b1 b2 b3 b4 b5 b6 b7 b8 b9 b10 b11 bf
 obtain⟨⟨b0,b1,b2,b3,b4,b5,b6,b7,b8,b9,b10,b11⟩,bf⟩:=cells12 hq9
 have hB9:Below w.heap.size w w9:=hB4.trans (hk9.toBelow hB4.size (fun n hn e=>by omega))
 exact bodyPost_ret (v:=.tuple #[NV 0 0 nul .z .z (.slice none 0 0),.bool false]) (by simp [results,Tryz.results239,go_sem,b0,b1,b2,b3,b4,b5,b6,b7,b8,b9,b10,b11]) rfl ⟨rfl,hB9⟩
end Go.Proofs.YtgifkepklnhddaaGreatDoor.fm
namespace Go.Proofs.YtgifkepklnhddaaGreatDoor.fm
open Go.RowKit
def badFrom (s:ByteArray) (k:Nat):Nat→Nat→Option (Nat×Nat)
 | 0,_=>none
 | f+1,n=>if pre s k (sh 4 (n:Nat) YtgifkepklnhddaaGreatDoor.nul).data.toList=true then some (n,(sh 4 (n:Nat) YtgifkepklnhddaaGreatDoor.nul).size) else badFrom s k f (n+1)
theorem shBad:(sh 4 ((1:Nat):Int) YtgifkepklnhddaaGreatDoor.nul=bt0∧sh 4 ((2:Nat):Int) YtgifkepklnhddaaGreatDoor.nul=bt1∧sh 4 ((3:Nat):Int) YtgifkepklnhddaaGreatDoor.nul=bt2)∧sh 4 ((4:Nat):Int) YtgifkepklnhddaaGreatDoor.nul=bt3∧sh 4 ((5:Nat):Int) YtgifkepklnhddaaGreatDoor.nul=bt4∧sh 4 ((6:Nat):Int) YtgifkepklnhddaaGreatDoor.nul=bt5:=by
 refine⟨⟨?_,?_,?_⟩,?_,?_,?_⟩<;>rfl
theorem badAt_from (s:ByteArray) (k:Nat):badAt s k=badFrom s k 6 1:=by
 obtain⟨⟨e1,e2,e3⟩,e4,e5,e6⟩:=shBad
 unfold badAt badList
 simp only [badFrom,List.find?,Nat.reduceAdd]
 rw [e1,e2,e3,e4,e5,e6]
 cases h1:pre s k [35,68,73,86,33]<;>simp
 cases h2:pre s k [35,86,65,76,85,69,33]<;>simp
 cases h3:pre s k [35,82,69,70,33]<;>simp
 cases h4:pre s k [35,78,65,77,69,33]<;>simp
 cases h5:pre s k [35,78,85,77,33]<;>simp
 cases h6:pre s k [35,78,79,78,69,33]<;>simp
 all_goals rfl
theorem shBad_ne (n:Nat) (h1:1≤n) (h6:n≤6):(sh 4 (n:Nat) YtgifkepklnhddaaGreatDoor.nul).data.toList≠[]:=by
 obtain⟨⟨e1,e2,e3⟩,e4,e5,e6⟩:=shBad
 match n,h1,h6 with
 | 1,_,_=>rw [e1];decide
 | 2,_,_=>rw [e2];decide
 | 3,_,_=>rw [e3];decide
 | 4,_,_=>rw [e4];decide
 | 5,_,_=>rw [e5];decide
 | 6,_,_=>rw [e6];decide
set_option maxHeartbeats 4000000 in
theorem bad_any (s:ByteArray) (hs:s.size≤200) (rb k d:Nat) (w:World) (hE:EnvF w) (h:RD w rb s k d) (hk:k<s.size) (hrb:11≤rb) (RR:Rs T) (hRR:RR=match badAt s k with | none=>.err k 2 | some (n,len)=>.ok (tBad n) (k+len)) :
  Calls Tryz.prog 221 #[ptr rb] w (Out w rb s d RR):=by
 rw [badAt_from] at hRR
 have HRR:Hid (RR=match badFrom s k 6 1 with | none=>.err k 2 | some (n,len)=>.ok (tBad n) (k+len)):=hRR
 have hrl:=h.lt
 have hR0:=h.alloc (.cells NZ 57)
 have hK0:=(Kp.refl (·=rb) w).alloc (.cells NZ 57)
 have hq0:=blk_new w (.cells NZ 57)
 clear hRR
 go_enter Tryz.func221,Tryz.ntmps221
 go_wp2_with fail
 go_loopw [3] (fun a wr=>∃ n:Nat,a=.int .i64 n∧1≤n∧n≤7∧badFrom s k 6 1=badFrom s k (7 - n) n∧RD wr rb s k d∧wr.heap[w.heap.size]?=some (.cells NZ 57 (0,0))∧Kp (·=rb) w wr) (fun a _=>7 - (intOf a).toNat)
 case atStart=>exact⟨1,rfl,by omega,by omega,rfl,hR0,hq0,hK0⟩
 case round =>
  clear hR0 hq0 hK0
  obtain⟨n,rfl,h1,h7,hbf,hR,hq,hK⟩:=hrel
  have HBF:Hid (badFrom s k 6 1=badFrom s k (7 - n) n):=hbf
  clear hbf
  by_cases h6:n≤6
  ·have hle:(n:Int)≤6:=by omega
   have hEr:=hE.keep hK (fun n e=>by omega)
   have hne:=shBad_ne n h1 h6
   have HST:Hid (badFrom s k (7 - n) n=if pre s k (sh 4 (n:Nat) YtgifkepklnhddaaGreatDoor.nul).data.toList=true then some (n,(sh 4 (n:Nat) YtgifkepklnhddaaGreatDoor.nul).size) else badFrom s k (7 - (n+1)) (n+1)):=by
    unfold Hid
    rw [show 7 - n=(7 - (n+1))+1 from by omega,badFrom]
   have hpx:=pre_extract s k (sh 4 (n:Nat) YtgifkepklnhddaaGreatDoor.nul)
   have HPX:Hid (Lib.hasPrefix (s.extract k s.size).data.toList (sh 4 (n:Nat) YtgifkepklnhddaaGreatDoor.nul).data.toList=pre s k (sh 4 (n:Nat) YtgifkepklnhddaaGreatDoor.nul).data.toList):=hpx
   have HLE:Hid (pre s k (sh 4 (n:Nat) YtgifkepklnhddaaGreatDoor.nul).data.toList=true→k+(sh 4 (n:Nat) YtgifkepklnhddaaGreatDoor.nul).size≤s.size):=fun e=>by
    have:=pre_le e hne
    simpa using this
   clear hpx hne
   go_wp2_with fail
   refine (show_any 4 n YtgifkepklnhddaaGreatDoor.nul _ hEr.env (by omega) (by omega)).mono ?_
   rintro e w2 ⟨rfl,hb2⟩
   have hR2:=hR.below hb2
   have hK2:=hK.below hb2
   have hq2:=((Kp.refl (fun _=>False) _).below hb2).blk hq id
   generalize sh 4 (n:Nat) YtgifkepklnhddaaGreatDoor.nul=st at *
   go_wp2_with fail
   refine (rest_any rb _ d s _ hR2 (by omega)).mono ?_
   rintro e w3 ⟨rfl,hb3⟩
   have hR3:=hR2.below hb3
   have hK3:=hK2.below hb3
   have hq3:=((Kp.refl (fun _=>False) _).below hb3).blk hq2 id
   go_wp2_with fail
   refine (prefix_any _ _ _).mono ?_
   rintro e w4 ⟨rfl,rfl⟩
   rw [HPX.out]
   cases hp:pre s k st.data.toList with
   | true =>
    have hlen:=HLE.out hp
    have HRT:Hid (RR=.ok (tBad n) (k+st.size)):=by
     have h1:=HRR.out
     rw [HBF.out,HST.out,if_pos hp] at h1
     exact h1
    clear hp HRR HBF HST HLE HPX
    obtain⟨⟨c0,c1,c2⟩,f0,f1,f2⟩:=hR3.cells
    obtain⟨⟨b0,b1,b2,b3,b4,b5,b6,b7,b8,b9,b10,b11⟩,bf⟩:=cells12 hq3
    have hne:w.heap.size≠rb:=by omega
    go_wp2_with fail
    clear c0 c1 c2 f0 f1 f2 b0 b1 b2 b3 b4 b5 b6 b7 b8 b9 b10 b11 bf
    rw [show ((k:Nat):Int)+(st.size:Int)=((k+st.size:Nat):Int) from by omega]
    have hR8:=hR3.setAt (k+st.size)
    have hK8:=hK3.setCell (p:=⟨rb,1,none⟩) (Or.inl rfl) (.int .i64 ((k+st.size:Nat):Int))
    have hq8:=(kpset w4 rb 1 (.int .i64 ((k+st.size:Nat):Int))).blk hq3 hne
    generalize w4.setCell ⟨rb,1,none⟩ (.int .i64 ((k+st.size:Nat):Int))=w8 at *
    refine fin12 hq8 (Q:=bodyPost _ _ _ _ _) ?_
    intro w9 hq9 hk9
    obtain⟨⟨b0,b1,b2,b3,b4,b5,b6,b7,b8,b9,b10,b11⟩,bf⟩:=cells12 hq9
    refine bodyPost_ret (v:=NV 4 n nul .z .z (.slice none 0 0)) (by simp [results,Tryz.results221,go_sem,b0,b1,b2,b3,b4,b5,b6,b7,b8,b9,b10,b11]) rfl ?_
    rw [HRT.out]
    exact⟨_,rfl,Nd.leaf,hR8.keep hk9 (by omega),hK8.trans hk9 (fun n e=>by right;omega)⟩
   | false =>
    have HB2:Hid (badFrom s k 6 1=badFrom s k (7 - (n+1)) (n+1)):=by
     unfold Hid
     rw [HBF.out,HST.out,if_neg (by simp [hp])]
    clear hp HBF HST HLE HPX
    go_wp2_with fail
    exact⟨⟨n+1,by simp,by omega,by omega,HB2.out,hR3,hq3,hK3⟩,by simp [intOf];omega⟩
  ·obtain rfl:n=7:=by omega
   have HRT:Hid (RR=.err k 2):=by
    have h1:=HRR.out
    rw [HBF.out] at h1
    exact h1
   clear HRR HBF
   go_wp2_with fail
   refine (fault_any rb _ d 2 s _ hR).mono ?_
   rintro e w3 ⟨rfl,hb3⟩
   go_wp2_with fail
   refine⟨rfl,?_⟩
   rw [HRT.out]
   exact⟨rfl,hK.below hb3⟩
end Go.Proofs.YtgifkepklnhddaaGreatDoor.fm

import Derived.Test.YtgifkepklnhddaaGreatDoorQ7Conv
namespace Go.Proofs.YtgifkepklnhddaaGreatDoor
open Go.RowKit
theorem bad_any (n:Int) (w:World) :
  Calls Tryz.prog 265 #[.int .i64 n] w fun e w'=>e=.returned (V 4 n nul)∧Below w.heap.size w w':=by
 go_enter Tryz.func265,Tryz.ntmps265
 go_wp2
 exact bodyPost_ret (v:=V 4 n nul) (by simp [results,Tryz.results265,go_sem]) rfl ⟨rfl,(Below.refl _ _).alloc (Nat.le_refl _) _⟩
theorem number_any (n:Int) (w:World) :
  Calls Tryz.prog 267 #[.int .i64 n] w fun e w'=>e=.returned (V 1 n nul)∧Below w.heap.size w w':=by
 go_enter Tryz.func267,Tryz.ntmps267
 go_wp2
 exact bodyPost_ret (v:=V 1 n nul) (by simp [results,Tryz.results267,go_sem]) rfl ⟨rfl,(Below.refl _ _).alloc (Nat.le_refl _) _⟩
theorem text_any (s:ByteArray) (w:World) :
  Calls Tryz.prog 270 #[.string s] w fun e w'=>e=.returned (V 2 0 s)∧Below w.heap.size w w':=by
 go_enter Tryz.func270,Tryz.ntmps270
 go_wp2
 exact bodyPost_ret (v:=V 2 0 s) (by simp [results,Tryz.results270,go_sem]) rfl ⟨rfl,(Below.refl _ _).alloc (Nat.le_refl _) _⟩
structure Cell3 (w0:World) (b:Nat) (w:World):Prop where
 mine:Mine w b
 has:Has w b 0 0 nul
 below:Below w0.heap.size w0 w
 le:w0.heap.size≤b
theorem Cell3.next {w0:World} {b:Nat} {w w':World} (h:Cell3 w0 b w) (hb:Below w.heap.size w w'):Cell3 w0 b w' :=
 ⟨h.mine.below hb,h.has.below hb,bnext h.below hb h.below.size,h.le⟩
theorem Cell3.start (w:World) (t:TypeId):Cell3 w w.heap.size (w.alloc (.cells #[.int .i64 0,.int .i64 0,.string nul] t)) :=
 ⟨Mine.new _ _ _,Has.new _ _ _ _ _,(Below.refl _ _).alloc (Nat.le_refl _) _,Nat.le_refl _⟩
set_option maxHeartbeats 1000000 in
theorem read_empty (s:ByteArray) (h0:s.toList.isEmpty=true) (w:World) :
  Calls Tryz.prog 253 #[.string s] w fun e w'=>e=.returned (V 0 0 nul)∧Below w.heap.size w w':=by
 go_enter Tryz.func253,Tryz.ntmps253
 go_wp2
 exact bodyPost_ret (v:=V 0 0 nul) (by simp [results,Tryz.results253,go_sem]) rfl ⟨rfl,by (repeat (first | exact Below.refl _ _ | assumption | (refine Below.setCell ?_ (by first | omega | (simp<;>omega)) _) | (refine Below.alloc ?_ (by first | omega | (simp<;>omega)) _) | (refine Below.drew ?_) | (refine Below.trans ?_ (Below.mono (by assumption) (by first | omega | (simp<;>omega))))))⟩
set_option maxHeartbeats 1000000 in
theorem read_long (s:ByteArray) (h0:s.toList.isEmpty=false) (h1:(200:Int)<(s.size:Int)) (w:World) :
  Calls Tryz.prog 253 #[.string s] w fun e w'=>e=.returned (V 4 2 nul)∧Below w.heap.size w w':=by
 have hC:=Cell3.start w 163
 go_enter Tryz.func253,Tryz.ntmps253
 go_wp2_with fail
 refine (bad_any _ _).mono ?_
 rintro e w1 ⟨rfl,b1⟩
 replace hC:=hC.next b1
 obtain⟨⟨_,hf⟩,⟨_,c0,c1,c2⟩,hB,hle⟩:=hC
 go_wp2_with fail
 exact bodyPost_ret (v:=V 4 2 nul) (by simp [results,Tryz.results253,go_sem,c0,c1,c2]) rfl ⟨rfl,by (repeat (first | exact Below.refl _ _ | assumption | (refine Below.setCell ?_ (by first | omega | (simp<;>omega)) _) | (refine Below.alloc ?_ (by first | omega | (simp<;>omega)) _) | (refine Below.drew ?_) | (refine Below.trans ?_ (Below.mono (by assumption) (by first | omega | (simp<;>omega))))))⟩
set_option maxHeartbeats 1000000 in
theorem read_num (s:ByteArray) (h0:s.toList.isEmpty=false) (h1:(s.size:Int)≤200) (v:Int) (hn:numOf s=some v) (w:World) (hE:Env w) :
  Calls Tryz.prog 253 #[.string s] w fun e w'=>e=.returned (V 1 v nul)∧Below w.heap.size w w':=by
 have hs:s.size≤200:=by omega
 have HN:Hid (numOf s=some v):=hn
 clear hn
 have hC:=Cell3.start w 163
 have hE0:=hE.alloc (.cells #[.int .i64 0,.int .i64 0,.string nul] 163)
 go_enter Tryz.func253,Tryz.ntmps253
 go_wp2_with fail
 refine (readNumber_yes s v _ hs hE0 HN.out).mono ?_
 rintro e w1 ⟨rfl,b1⟩
 replace hC:=hC.next b1
 go_wp2_with fail
 refine (number_any _ _).mono ?_
 rintro e w2 ⟨rfl,b2⟩
 replace hC:=hC.next b2
 obtain⟨⟨_,hf⟩,⟨_,c0,c1,c2⟩,hB,hle⟩:=hC
 go_wp2_with fail
 exact bodyPost_ret (v:=V 1 v nul) (by simp [results,Tryz.results253,go_sem,c0,c1,c2]) rfl ⟨rfl,by (repeat (first | exact Below.refl _ _ | assumption | (refine Below.setCell ?_ (by first | omega | (simp<;>omega)) _) | (refine Below.alloc ?_ (by first | omega | (simp<;>omega)) _) | (refine Below.drew ?_) | (refine Below.trans ?_ (Below.mono (by assumption) (by first | omega | (simp<;>omega))))))⟩
set_option maxHeartbeats 1000000 in
theorem read_true (s:ByteArray) (h0:s.toList.isEmpty=false) (h1:(s.size:Int)≤200) (hn:numOf s=none) (ht:(s.toList == [84,82,85,69])=true) (w:World) (hE:Env w) :
  Calls Tryz.prog 253 #[.string s] w fun e w'=>e=.returned (V 3 1 nul)∧Below w.heap.size w w':=by
 have hs:s.size≤200:=by omega
 have HN:Hid (numOf s=none):=hn
 clear hn
 have hC:=Cell3.start w 163
 have hE0:=hE.alloc (.cells #[.int .i64 0,.int .i64 0,.string nul] 163)
 go_enter Tryz.func253,Tryz.ntmps253
 go_wp2_with fail
 refine (readNumber_no s _ hs hE0 HN.out).mono ?_
 rintro e w1 ⟨rfl,b1⟩
 replace hC:=hC.next b1
 have hE1:=hE0.next b1
 go_wp2_with fail
 refine (truth_any _ _).mono ?_
 rintro e w2 ⟨rfl,b2⟩
 replace hC:=hC.next b2
 obtain⟨⟨_,hf⟩,⟨_,c0,c1,c2⟩,hB,hle⟩:=hC
 go_wp2_with fail
 exact bodyPost_ret (v:=V 3 1 nul) (by simp [results,Tryz.results253,go_sem,c0,c1,c2,b2n]) rfl ⟨rfl,by (repeat (first | exact Below.refl _ _ | assumption | (refine Below.setCell ?_ (by first | omega | (simp<;>omega)) _) | (refine Below.alloc ?_ (by first | omega | (simp<;>omega)) _) | (refine Below.drew ?_) | (refine Below.trans ?_ (Below.mono (by assumption) (by first | omega | (simp<;>omega))))))⟩
set_option maxHeartbeats 1000000 in
theorem read_false (s:ByteArray) (h0:s.toList.isEmpty=false) (h1:(s.size:Int)≤200) (hn:numOf s=none) (ht:(s.toList == [84,82,85,69])=false) (hf0:(s.toList == [70,65,76,83,69])=true) (w:World) (hE:Env w) :
  Calls Tryz.prog 253 #[.string s] w fun e w'=>e=.returned (V 3 0 nul)∧Below w.heap.size w w':=by
 have hs:s.size≤200:=by omega
 have HN:Hid (numOf s=none):=hn
 clear hn
 have hC:=Cell3.start w 163
 have hE0:=hE.alloc (.cells #[.int .i64 0,.int .i64 0,.string nul] 163)
 go_enter Tryz.func253,Tryz.ntmps253
 go_wp2_with fail
 refine (readNumber_no s _ hs hE0 HN.out).mono ?_
 rintro e w1 ⟨rfl,b1⟩
 replace hC:=hC.next b1
 have hE1:=hE0.next b1
 go_wp2_with fail
 refine (truth_any _ _).mono ?_
 rintro e w2 ⟨rfl,b2⟩
 replace hC:=hC.next b2
 obtain⟨⟨_,hf⟩,⟨_,c0,c1,c2⟩,hB,hle⟩:=hC
 go_wp2_with fail
 exact bodyPost_ret (v:=V 3 0 nul) (by simp [results,Tryz.results253,go_sem,c0,c1,c2,b2n]) rfl ⟨rfl,by (repeat (first | exact Below.refl _ _ | assumption | (refine Below.setCell ?_ (by first | omega | (simp<;>omega)) _) | (refine Below.alloc ?_ (by first | omega | (simp<;>omega)) _) | (refine Below.drew ?_) | (refine Below.trans ?_ (Below.mono (by assumption) (by first | omega | (simp<;>omega))))))⟩
set_option maxHeartbeats 1000000 in
theorem read_bad (s:ByteArray) (h0:s.toList.isEmpty=false) (h1:(s.size:Int)≤200) (hn:numOf s=none) (ht:(s.toList == [84,82,85,69])=false) (hf0:(s.toList == [70,65,76,83,69])=false) (hb:(badOf s != 0)=true) (w:World) (hE:Env w) :
  Calls Tryz.prog 253 #[.string s] w fun e w'=>e=.returned (V 4 (badOf s) nul)∧Below w.heap.size w w':=by
 have hs:s.size≤200:=by omega
 have HN:Hid (numOf s=none):=hn
 clear hn
 have hC:=Cell3.start w 163
 have hE0:=hE.alloc (.cells #[.int .i64 0,.int .i64 0,.string nul] 163)
 go_enter Tryz.func253,Tryz.ntmps253
 go_wp2_with fail
 refine (readNumber_no s _ hs hE0 HN.out).mono ?_
 rintro e w1 ⟨rfl,b1⟩
 replace hC:=hC.next b1
 have hE1:=hE0.next b1
 go_wp2_with fail
 refine (readBad_any s _ hE1).mono ?_
 rintro e w2 ⟨rfl,rfl⟩
 go_wp2_with fail
 refine (bad_any _ _).mono ?_
 rintro e w2 ⟨rfl,b2⟩
 replace hC:=hC.next b2
 obtain⟨⟨_,hf⟩,⟨_,c0,c1,c2⟩,hB,hle⟩:=hC
 go_wp2_with fail
 exact bodyPost_ret (v:=V 4 (badOf s) nul) (by simp [results,Tryz.results253,go_sem,c0,c1,c2]) rfl ⟨rfl,by (repeat (first | exact Below.refl _ _ | assumption | (refine Below.setCell ?_ (by first | omega | (simp<;>omega)) _) | (refine Below.alloc ?_ (by first | omega | (simp<;>omega)) _) | (refine Below.drew ?_) | (refine Below.trans ?_ (Below.mono (by assumption) (by first | omega | (simp<;>omega))))))⟩
set_option maxHeartbeats 1000000 in
theorem read_text (s:ByteArray) (h0:s.toList.isEmpty=false) (h1:(s.size:Int)≤200) (hn:numOf s=none) (ht:(s.toList == [84,82,85,69])=false) (hf0:(s.toList == [70,65,76,83,69])=false) (hb:(badOf s != 0)=false) (w:World) (hE:Env w) :
  Calls Tryz.prog 253 #[.string s] w fun e w'=>e=.returned (V 2 0 s)∧Below w.heap.size w w':=by
 have hs:s.size≤200:=by omega
 have HN:Hid (numOf s=none):=hn
 clear hn
 have hC:=Cell3.start w 163
 have hE0:=hE.alloc (.cells #[.int .i64 0,.int .i64 0,.string nul] 163)
 go_enter Tryz.func253,Tryz.ntmps253
 go_wp2_with fail
 refine (readNumber_no s _ hs hE0 HN.out).mono ?_
 rintro e w1 ⟨rfl,b1⟩
 replace hC:=hC.next b1
 have hE1:=hE0.next b1
 go_wp2_with fail
 refine (readBad_any s _ hE1).mono ?_
 rintro e w2 ⟨rfl,rfl⟩
 go_wp2_with fail
 refine (text_any _ _).mono ?_
 rintro e w2 ⟨rfl,b2⟩
 replace hC:=hC.next b2
 obtain⟨⟨_,hf⟩,⟨_,c0,c1,c2⟩,hB,hle⟩:=hC
 go_wp2_with fail
 exact bodyPost_ret (v:=V 2 0 s) (by simp [results,Tryz.results253,go_sem,c0,c1,c2]) rfl ⟨rfl,by (repeat (first | exact Below.refl _ _ | assumption | (refine Below.setCell ?_ (by first | omega | (simp<;>omega)) _) | (refine Below.alloc ?_ (by first | omega | (simp<;>omega)) _) | (refine Below.drew ?_) | (refine Below.trans ?_ (Below.mono (by assumption) (by first | omega | (simp<;>omega))))))⟩
def rd (s:ByteArray):Int×Int×ByteArray :=
 if s.toList.isEmpty=true then (0,0,nul) else if (200:Int)<(s.size:Int) then (4,2,nul) else
 match numOf s with
 | some v=>(1,v,nul)
 | none=>if (s.toList == [84,82,85,69])=true then (3,1,nul) else if (s.toList == [70,65,76,83,69])=true then (3,0,nul) else if (badOf s != 0)=true then (4,badOf s,nul) else (2,0,s)
theorem read_any (s:ByteArray) (w:World) (hE:Env w) :
  Calls Tryz.prog 253 #[.string s] w fun e w'=>e=.returned (V (rd s).1 (rd s).2.1 (rd s).2.2)∧Below w.heap.size w w':=by
 unfold rd
 by_cases h0:s.toList.isEmpty=true
 ·rw [if_pos h0];exact read_empty s h0 w
 rw [if_neg h0]
 rw [Bool.not_eq_true] at h0
 by_cases h1:(200:Int)<(s.size:Int)
 ·rw [if_pos h1];exact read_long s h0 h1 w
 rw [if_neg h1]
 have h2:(s.size:Int)≤200:=by omega
 cases hn:numOf s with
 | some v=>exact read_num s h0 h2 v hn w hE
 | none =>
  by_cases ht:(s.toList == [84,82,85,69])=true
  ·simp only [ht,if_true];exact read_true s h0 h2 hn ht w hE
  simp only [ht]
  rw [Bool.not_eq_true] at ht
  by_cases hf:(s.toList == [70,65,76,83,69])=true
  ·simp only [hf,if_true];exact read_false s h0 h2 hn ht hf w hE
  simp only [hf]
  rw [Bool.not_eq_true] at hf
  by_cases hb:(badOf s != 0)=true
  ·simp only [hb,if_true];exact read_bad s h0 h2 hn ht hf hb w hE
  simp only [hb]
  rw [Bool.not_eq_true] at hb
  exact read_text s h0 h2 hn ht hf hb w hE
end Go.Proofs.YtgifkepklnhddaaGreatDoor

import Derived.Shelf.Strings.Replace
import Derived.Shelf.Strconv.Itoa3
import Derived.Test.YtgifkepklnhddaaGreatDoorProg
import Derived.Test.YtgifkepklnhddaaGreatDoorQ7Arow
import Derived.Deep.QuietTactic
import Derived.BigQuiet
import Derived.Laws.Runes
import Derived.Test.YtgifkepklnhddaaGreatDoorQ7Pc
import Derived.Test.YtgifkepklnhddaaGreatDoorQ7Pe
import Derived.Lib.SplitLaws
import Derived.Deep.RegionHeld3
import Derived.Test.YtgifkepklnhddaaGreatDoorQ7Pf
import Derived.Test.YtgifkepklnhddaaGreatDoorQ7Pa
namespace Go.Proofs
open Go.Shelf
def Tryz.lays155_ren:Go.Shelf.Ren:=⟨fun | 155=>208 | 154=>226 | 138=>241 | 165=>242 | 143=>243 | 166=>151 | 197=>244 | 169=>153 | 195=>258 | 218=>259 | 240=>180 | 241=>260 | 219=>261 | 260=>262 | 276=>205 | 277=>275 | 217=>276 | 225=>277 | 224=>278 | 267=>279 | 266=>285 | 314=>286 | n=>n,fun | 9=>9 | 3=>3 | 4=>4 | 72=>205 | 0=>0 | 76=>208 | 105=>291 | 21=>21 | 5=>5 | 70=>203 | 20=>20 | 37=>155 | 75=>26 | 127=>253 | 164=>173 | 46=>188 | 119=>309 | 139=>312 | 138=>311 | 146=>313 | 51=>233 | 80=>200 | n=>n,fun | 1=>4 | 3=>5 | 4=>6 | n=>n⟩
theorem Tryz.lays155:Go.Proofs.Lays.n155 Tryz.prog Tryz.lays155_ren:={
 mixed:=by kernel_rfl
 f138:=Tryz.func241.trans (congrArg some (by kernel_rfl))
 f143:=Tryz.func243.trans (congrArg some (by kernel_rfl))
 f154:=Tryz.func226.trans (congrArg some (by kernel_rfl))
 f155:=Tryz.func208.trans (congrArg some (by kernel_rfl))
 f165:=Tryz.func242.trans (congrArg some (by kernel_rfl))
 f166:=Tryz.func151.trans (congrArg some (by kernel_rfl))
 f169:=Tryz.func153.trans (congrArg some (by kernel_rfl))
 f195:=Tryz.func258.trans (congrArg some (by kernel_rfl))
 f197:=Tryz.func244.trans (congrArg some (by kernel_rfl))
 f217:=Tryz.func276.trans (congrArg some (by kernel_rfl))
 f218:=Tryz.func259.trans (congrArg some (by kernel_rfl))
 f219:=Tryz.func261.trans (congrArg some (by kernel_rfl))
 f224:=Tryz.func278.trans (congrArg some (by kernel_rfl))
 f225:=Tryz.func277.trans (congrArg some (by kernel_rfl))
 f240:=Tryz.func180.trans (congrArg some (by kernel_rfl))
 f241:=Tryz.func260.trans (congrArg some (by kernel_rfl))
 f260:=Tryz.func262.trans (congrArg some (by kernel_rfl))
 f266:=Tryz.func285.trans (congrArg some (by kernel_rfl))
 f267:=Tryz.func279.trans (congrArg some (by kernel_rfl))
 f276:=Tryz.func205.trans (congrArg some (by kernel_rfl))
 f277:=Tryz.func275.trans (congrArg some (by kernel_rfl))
 f314:=Tryz.func286.trans (congrArg some (by kernel_rfl))
 t0:=Tryz.underlying0
 a0:=Tryz.isAgg0
 z0:=Tryz.sizeOf0
 v0:=Tryz.zeroValue0
 t3:=Tryz.underlying3
 a3:=Tryz.isAgg3
 z3:=Tryz.sizeOf3
 v3:=Tryz.zeroValue3
 t4:=Tryz.underlying4
 a4:=Tryz.isAgg4
 z4:=Tryz.sizeOf4
 v4:=Tryz.zeroValue4
 t5:=Tryz.underlying5
 a5:=Tryz.isAgg5
 z5:=Tryz.sizeOf5
 v5:=Tryz.zeroValue5
 t9:=Tryz.underlying9
 a9:=Tryz.isAgg9
 z9:=Tryz.sizeOf9
 v9:=Tryz.zeroValue9
 t20:=Tryz.underlying20
 a20:=Tryz.isAgg20
 z20:=Tryz.sizeOf20
 v20:=Tryz.zeroValue20
 t21:=Tryz.underlying21
 a21:=Tryz.isAgg21
 z21:=Tryz.sizeOf21
 v21:=Tryz.zeroValue21
 t37:=Tryz.underlying155
 a37:=Tryz.isAgg155
 z37:=Tryz.sizeOf155
 v37:=Tryz.zeroValue155
 t46:=Tryz.underlying188
 a46:=Tryz.isAgg188
 z46:=Tryz.sizeOf188
 v46:=Tryz.zeroValue188
 t51:=Tryz.underlying233
 a51:=Tryz.isAgg233
 z51:=Tryz.sizeOf233
 v51:=Tryz.zeroValue233
 t70:=Tryz.underlying203
 a70:=Tryz.isAgg203
 z70:=Tryz.sizeOf203
 v70:=Tryz.zeroValue203
 t72:=Tryz.underlying205
 a72:=Tryz.isAgg205
 z72:=Tryz.sizeOf205
 v72:=Tryz.zeroValue205
 t75:=Tryz.underlying26
 a75:=Tryz.isAgg26
 z75:=Tryz.sizeOf26
 v75:=Tryz.zeroValue26
 t76:=Tryz.underlying208
 a76:=Tryz.isAgg208
 z76:=Tryz.sizeOf208
 v76:=Tryz.zeroValue208
 t105:=Tryz.underlying291
 a105:=Tryz.isAgg291
 z105:=Tryz.sizeOf291
 v105:=Tryz.zeroValue291
 t119:=Tryz.underlying309
 a119:=Tryz.isAgg309
 z119:=Tryz.sizeOf309
 t127:=Tryz.underlying253
 a127:=Tryz.isAgg253
 z127:=Tryz.sizeOf253
 v127:=Tryz.zeroValue253
 t138:=Tryz.underlying311
 a138:=Tryz.isAgg311
 z138:=Tryz.sizeOf311
 v138:=Tryz.zeroValue311
 t139:=Tryz.underlying312
 a139:=Tryz.isAgg312
 z139:=Tryz.sizeOf312
 v139:=Tryz.zeroValue312
 t146:=Tryz.underlying313
 a146:=Tryz.isAgg313
 z146:=Tryz.sizeOf313
 v146:=Tryz.zeroValue313
 t164:=Tryz.underlying173
 a164:=Tryz.isAgg173
 z164:=Tryz.sizeOf173
 v164:=Tryz.zeroValue173
 g1:=by kernel_rfl
 g3:=by kernel_rfl
 g4:=by kernel_rfl }
theorem Tryz.Builder_Extra_155:Builder.Extra Tryz.prog Tryz.lays155_ren:={
 sizeBuilder:=by kernel_rfl
 liesBuilder:=by kernel_rfl
 t5:=Tryz.underlying5
 a5:=Tryz.isAgg5
 z5:=Tryz.sizeOf5
 v5:=Tryz.zeroValue5
 infoByte:=by kernel_rfl
 cellsByte:=by kernel_rfl
 sizeByte:=by kernel_rfl
 neB5:=by decide }
open Go.RowKit Go.Lib in
theorem Tryz.strings_ReplaceAll (s old new:ByteArray) (m:Int) (w:World) (hs:s.size<4294967281) (hm:w.cell? ⟨4,0,none⟩=some (.int .i64 m)) (h1:1≤old.size) (hlen:s.size+Lib.countB s old*new.size≤140737488355328) :
  Calls Tryz.prog 208 #[.string s,.string old,.string new] w fun e w' =>
   e=.returned (.string ⟨(Lib.replaceAll s.data.toList old.data.toList new.data.toList).toArray⟩)∧Below w.heap.size w w':=Any.strings_ReplaceAll Tryz.lays155 Tryz.Builder_Extra_155 s old new m w hs hm h1 hlen
def Tryz.lays171_ren:Go.Shelf.Ren:=⟨fun | 171=>207 | 243=>225 | 246=>240 | 283=>254 | 284=>255 | 285=>256 | 286=>257 | 129=>166 | 317=>271 | 318=>272 | 319=>273 | 320=>274 | 337=>283 | 338=>284 | n=>n,fun | 3=>3 | 9=>9 | 2=>2 | 4=>4 | 171=>299 | 0=>0 | 53=>235 | 37=>155 | 5=>5 | 173=>301 | 212=>306 | 51=>233 | 20=>20 | 213=>307 | 46=>188 | 232=>316 | 233=>317 | n=>n,fun | 17=>3 | 18=>7 | 19=>8 | n=>n⟩
theorem Tryz.lays171:Go.Proofs.Lays.n171 Tryz.prog Tryz.lays171_ren:={
 mixed:=by kernel_rfl
 f129:=Tryz.func166.trans (congrArg some (by kernel_rfl))
 f171:=Tryz.func207.trans (congrArg some (by kernel_rfl))
 f243:=Tryz.func225.trans (congrArg some (by kernel_rfl))
 f246:=Tryz.func240.trans (congrArg some (by kernel_rfl))
 f283:=Tryz.func254.trans (congrArg some (by kernel_rfl))
 f284:=Tryz.func255.trans (congrArg some (by kernel_rfl))
 f285:=Tryz.func256.trans (congrArg some (by kernel_rfl))
 f286:=Tryz.func257.trans (congrArg some (by kernel_rfl))
 f317:=Tryz.func271.trans (congrArg some (by kernel_rfl))
 f318:=Tryz.func272.trans (congrArg some (by kernel_rfl))
 f319:=Tryz.func273.trans (congrArg some (by kernel_rfl))
 f320:=Tryz.func274.trans (congrArg some (by kernel_rfl))
 f337:=Tryz.func283.trans (congrArg some (by kernel_rfl))
 f338:=Tryz.func284.trans (congrArg some (by kernel_rfl))
 t0:=Tryz.underlying0
 a0:=Tryz.isAgg0
 z0:=Tryz.sizeOf0
 v0:=Tryz.zeroValue0
 t2:=Tryz.underlying2
 a2:=Tryz.isAgg2
 z2:=Tryz.sizeOf2
 v2:=Tryz.zeroValue2
 t3:=Tryz.underlying3
 a3:=Tryz.isAgg3
 z3:=Tryz.sizeOf3
 v3:=Tryz.zeroValue3
 t4:=Tryz.underlying4
 a4:=Tryz.isAgg4
 z4:=Tryz.sizeOf4
 v4:=Tryz.zeroValue4
 t5:=Tryz.underlying5
 a5:=Tryz.isAgg5
 z5:=Tryz.sizeOf5
 v5:=Tryz.zeroValue5
 t9:=Tryz.underlying9
 a9:=Tryz.isAgg9
 z9:=Tryz.sizeOf9
 v9:=Tryz.zeroValue9
 t20:=Tryz.underlying20
 a20:=Tryz.isAgg20
 z20:=Tryz.sizeOf20
 v20:=Tryz.zeroValue20
 t37:=Tryz.underlying155
 a37:=Tryz.isAgg155
 z37:=Tryz.sizeOf155
 v37:=Tryz.zeroValue155
 t46:=Tryz.underlying188
 a46:=Tryz.isAgg188
 z46:=Tryz.sizeOf188
 v46:=Tryz.zeroValue188
 t51:=Tryz.underlying233
 a51:=Tryz.isAgg233
 z51:=Tryz.sizeOf233
 v51:=Tryz.zeroValue233
 t53:=Tryz.underlying235
 a53:=Tryz.isAgg235
 z53:=Tryz.sizeOf235
 v53:=Tryz.zeroValue235
 t171:=Tryz.underlying299
 a171:=Tryz.isAgg299
 z171:=Tryz.sizeOf299
 v171:=Tryz.zeroValue299
 t173:=Tryz.underlying301
 a173:=Tryz.isAgg301
 z173:=Tryz.sizeOf301
 v173:=Tryz.zeroValue301
 t212:=Tryz.underlying306
 a212:=Tryz.isAgg306
 z212:=Tryz.sizeOf306
 v212:=Tryz.zeroValue306
 t213:=Tryz.underlying307
 a213:=Tryz.isAgg307
 z213:=Tryz.sizeOf307
 t232:=Tryz.underlying316
 a232:=Tryz.isAgg316
 z232:=Tryz.sizeOf316
 v232:=Tryz.zeroValue316
 t233:=Tryz.underlying317
 a233:=Tryz.isAgg317
 z233:=Tryz.sizeOf317
 v233:=Tryz.zeroValue317
 g17:=by kernel_rfl
 g18:=by kernel_rfl
 g19:=by kernel_rfl }
open Go.RowKit Go.Sort Go.Lib in
theorem Tryz.strconv_Itoa_small (i:Nat) (hi:i<100) (w:World) :
  Calls Tryz.prog 207 #[.int .i64 i] w fun e w'=>e=.returned (.string ⟨(Lib.decDigits i).toArray⟩)∧w'=w:=Any.strconv_Itoa_small Tryz.lays171 i hi w
end Go.Proofs
namespace Go.Proofs.YtgifkepklnhddaaGreatDoor.adr
open Go.RowKit
theorem sign_any (t:Bool) (w:World) :
  Calls Tryz.prog 246 #[.bool t] w fun e w'=>e=.returned (.string (sg t))∧w'=w:=by
 cases t
 ·go_enter Tryz.func246,Tryz.ntmps246
  go_wp2
  go_ret
  exact⟨rfl,rfl⟩
 ·go_enter Tryz.func246,Tryz.ntmps246
  go_wp2
  go_ret
  exact⟨rfl,rfl⟩
theorem enc_letter {c:Int} (h1:1≤c) (h2:c≤26):Utf8.encode (65+c - 1)=⟨#[UInt8.ofNat (64+c.toNat)]⟩:=by
 have hv:Utf8.valid (65+c - 1)=true:=by unfold Utf8.valid;simp;omega
 unfold Utf8.encode
 simp only [hv,if_true]
 rw [if_pos (by omega),show (65+c - 1).toNat=64+c.toNat from by omega]
def itB (r:Int):ByteArray:=⟨(Lib.decDigits r.toNat).toArray⟩
def nm (c r:Int) (fc fr:Bool):ByteArray:=if isC c r=true then sg fc++Utf8.encode (65+c - 1)++sg fr++itB r else nul
theorem below_drewN {B:Nat} {a w:World} (h:Below B a w) (n:Nat):Below B a (w.drewN n):=⟨h.os,h.tape,h.output,h.size,h.block⟩
theorem sg_size (t:Bool):(sg t).size≤1:=by cases t<;>decide
theorem enc_size {c:Int} (h1:1≤c) (h2:c≤26):(Utf8.encode (65+c - 1)).size=1:=by rw [enc_letter h1 h2];rfl
theorem it_len {r:Nat} (h:r<100):(Lib.decDigits r).length≤2:=by
 rw [Lib.decDigits]
 split
 ·simp
 ·rw [Lib.decDigits,dif_pos (by omega)]
  simp
theorem it_size {r:Int} (h1:1≤r) (h2:r≤99):(itB r).size≤2:=by
 have:=it_len (r:=r.toNat) (by omega)
 unfold itB
 simpa [ByteArray.size] using this
theorem itoa_at (r:Int) (h1:1≤r) (h2:r≤99) (w:World) :
  Calls Tryz.prog 207 #[.int .i64 r] w fun e w'=>e=.returned (.string (itB r))∧w'=w:=by
 have:=Tryz.strconv_Itoa_small r.toNat (by omega) w
 rw [show ((r.toNat:Nat):Int)=r from by omega] at this
 exact this
set_option maxRecDepth 100000 in
set_option maxHeartbeats 4000000 in
theorem refName_yes (c r:Int) (fc fr:Bool) (h:isC c r=true) (w:World) :
  Calls Tryz.prog 229 #[R c r fc fr] w fun e w'=>e=.returned (.tuple #[.string (nm c r fc fr),.nilIface])∧Below w.heap.size w w':=by
 have HN:Hid (nm c r fc fr=sg fc++Utf8.encode (65+c - 1)++sg fr++itB r):=by unfold Hid nm;rw [if_pos h]
 obtain⟨⟨h1,h2⟩,h3,h4⟩:=isC_iff.1 h
 have HC:Hid (isC c r=true):=h
 have q1:¬ 9223372036854775807<(sg fc).size+(Utf8.encode (65+c - 1)).size:=by
  have:=sg_size fc;have:=enc_size h1 h2;omega
 have q2:¬ 9223372036854775807<(sg fc).size+(Utf8.encode (65+c - 1)).size+(sg fr).size:=by
  have:=sg_size fc;have:=enc_size h1 h2;have:=sg_size fr;omega
 have q3:¬ 9223372036854775807<(sg fc).size+(Utf8.encode (65+c - 1)).size+(sg fr).size+(itB r).size:=by
  have:=sg_size fc;have:=enc_size h1 h2;have:=sg_size fr;have:=it_size h3 h4;omega
 clear h
 go_enter Tryz.func229,Tryz.ntmps229
 go_wp2_with fail
 refine (check_any _ _ _).mono ?_
 rintro e w1 ⟨rfl,b1⟩
 rw [HC.out,show ckc true=.nilIface from rfl]
 have hx:(w1.cell? ⟨w.heap.size,0,none⟩=some (.int .i64 c)∧w1.cell? ⟨w.heap.size,1,none⟩=some (.int .i64 r))∧w1.cell? ⟨w.heap.size,2,none⟩=some (.bool fc)∧w1.cell? ⟨w.heap.size,3,none⟩=some (.bool fr):=by
  refine⟨⟨?_,?_⟩,?_,?_⟩<;>(rw [b1.cell (by simp)];simp)
 obtain⟨⟨c0,c1⟩,c2,c3⟩:=hx
 have hB:=bnext ((Below.refl w.heap.size w).alloc (Nat.le_refl _) _) b1 (by simp)
 clear b1
 go_wp2_with fail
 go_quiet ((first | (go_at_call 246;exact Calls.quiet_of_same (sign_any _ _)) | (go_at_call 207;exact Calls.quiet_of_same (itoa_at _ h3 h4 _))))
 go_wp2_with fail
 go_ret2
 exact⟨by rw [HN.out];rfl,below_drewN hB nq⟩
def sgL (t:Bool):List UInt8:=if t=true then [36] else []
theorem sg_list (t:Bool):(sg t).data.toList=sgL t:=by cases t<;>rfl
theorem nm_list {c r:Int} (fc fr:Bool) (h:isC c r=true):(nm c r fc fr).data.toList=sgL fc++UInt8.ofNat (64+c.toNat)::(sgL fr++Lib.decDigits r.toNat):=by
 obtain⟨⟨h1,h2⟩,h3,h4⟩:=isC_iff.1 h
 unfold nm itB
 rw [if_pos h,enc_letter h1 h2]
 simp only [ByteArray.data_append,Array.toList_append,sg_list]
 simp
end Go.Proofs.YtgifkepklnhddaaGreatDoor.adr
namespace Go.Proofs.YtgifkepklnhddaaGreatDoor.fm
open Go.RowKit
theorem rep_dbl:∀ l:List UInt8,Lib.replaceK [34] [34,34] (Lib.count l [34]) l=dbl l
 | []=>by decide
 | c::l=>by
  have ih:=rep_dbl l
  by_cases hc:c=34
  ·subst hc
   have hi:Lib.index (34::l) [34]=((0:Nat):Int):=by simp [Lib.index,List.isPrefixOf]
   rw [Lib.count_cons_eq,Nat.add_comm,Lib.replaceK_hit _ _ _ _ 0 hi]
   show []++[34,34]++Lib.replaceK [34] [34,34] (Lib.count l [34]) l=_
   rw [ih];simp [dbl]
  ·rw [Lib.count_cons_ne _ _ _ hc]
   unfold dbl
   rw [if_neg hc]
   cases hk:Lib.count l [34] with
   | zero=>rw [hk] at ih;rw [Lib.replaceK] at ih ⊢;rw [← ih]
   | succ k =>
    obtain⟨i,hi⟩:=Lib.index_of_count (s:=l) (old:=[34]) (by omega)
    have hi2:Lib.index (c::l) [34]=((i+1:Nat):Int):=by
     rw [Lib.index,if_neg (by simp [List.isPrefixOf,Ne.symm hc]),hi,if_neg (by simp)]
     omega
    rw [hk,Lib.replaceK_hit _ _ _ _ i hi] at ih
    rw [Lib.replaceK_hit _ _ _ _ (i+1) hi2,← ih]
    simp
theorem repAll_dbl (l:List UInt8):Lib.replaceAll l [34] [34,34]=dbl l:=by
 unfold Lib.replaceAll Lib.replace Lib.replaceNum
 rw [if_neg (by decide),if_pos (by omega)]
 exact rep_dbl l
theorem dbl_le (l:List UInt8):(dbl l).length≤2*l.length:=by
 induction l with
 | nil=>simp [dbl]
 | cons c l ih=>unfold dbl;split<;>simp<;>omega
structure EnvW (w:World):Prop where
 f:EnvF w
 m:∃ m,w.cell? ⟨4,0,none⟩=some (.int .i64 m)
theorem EnvW.below {w w':World} {B:Nat} (h:EnvW w) (hb:Below B w w') (hB:10<B):EnvW w' :=
 ⟨h.f.below hb hB,by obtain⟨m,hm⟩:=h.m;exact⟨m,by rw [hb.cell (p:=⟨4,0,none⟩) (show 4<B by omega)];exact hm⟩⟩
theorem EnvW.lt {w:World} (h:EnvW w):10<w.heap.size:=h.f.env.size
theorem EnvW.next {w w':World} (h:EnvW w) (hb:Below w.heap.size w w'):EnvW w':=h.below hb h.lt
theorem refText_any (r:Rf) (w:World) (h:adr.isC r.c r.r=true) :
  Calls Tryz.prog 210 #[RV r] w fun e w'=>e=.returned (.string ⟨(ink.ref r).toArray⟩)∧Below w.heap.size w w':=by
 have hb0:Below w.heap.size w (w.alloc (.cells #[.int .i64 r.c,.int .i64 r.r,.bool r.fc,.bool r.fr] 54)):=(Below.refl _ _).alloc (Nat.le_refl _) _
 obtain⟨a0,a1,a2,a3⟩:=cells4 (blk_new w (.cells #[.int .i64 r.c,.int .i64 r.r,.bool r.fc,.bool r.fr] 54))
 have hnm:adr.nm r.c r.r r.fc r.fr=⟨(ink.ref r).toArray⟩:=by
  apply ByteArray.ext
  apply Array.ext'
  rw [adr.nm_list r.fc r.fr h]
  rfl
 have HC:=fun w=>adr.refName_yes r.c r.r r.fc r.fr h w
 rw [hnm] at HC
 clear hnm
 go_enter Tryz.func210,Tryz.ntmps210
 go_wp2_with fail
 refine (HC _).mono ?_
 rintro e w1 ⟨rfl,hb1⟩
 go_wp2_with fail
 go_ret
 exact⟨rfl,bnext hb0 hb1 hb0.size⟩
theorem leaf_num (n:Int) (s:ByteArray) (r t:Rf) (p:Option Addr) (m c:Nat) (w:World) (hE:EnvW w) (h0:0≤n) (h1:n≤9223372036854775807) :
  Calls Tryz.prog 186 #[NV 1 n s r t (.slice p m c)] w fun e w'=>e=.returned (.string ⟨(ink.num n).toArray⟩)∧Below w.heap.size w w':=by
 have hb0:Below w.heap.size w (w.alloc (.cells (N12 1 n s r t (.slice p m c)) 57)):=(Below.refl _ _).alloc (Nat.le_refl _) _
 obtain⟨⟨a0,a1,a2,a3,a4,a5,a6,a7,a8,a9,a10,a11⟩,af⟩:=cells12 (blk_new w (.cells (N12 1 n s r t (.slice p m c)) 57))
 have hE0:=(hE.next hb0).f.env
 have HC:=itoa_any n _ (by omega) h1 hE0
 clear hE hE0
 go_enter Tryz.func186,Tryz.ntmps186
 go_wp2_with fail
 refine HC.mono ?_
 rintro e w1 ⟨rfl,hb1⟩
 go_wp2_with fail
 go_ret
 exact⟨rfl,bnext hb0 hb1 hb0.size⟩
theorem leaf_text (n:Int) (s:ByteArray) (r t:Rf) (p:Option Addr) (m c:Nat) (w:World) (hE:EnvW w) (hs:s.size≤200) :
  Calls Tryz.prog 186 #[NV 2 n s r t (.slice p m c)] w fun e w'=>e=.returned (.string ⟨(34::(dbl s.data.toList++[34])).toArray⟩)∧Below w.heap.size w w':=by
 have hb0:Below w.heap.size w (w.alloc (.cells (N12 2 n s r t (.slice p m c)) 57)):=(Below.refl _ _).alloc (Nat.le_refl _) _
 obtain⟨⟨a0,a1,a2,a3,a4,a5,a6,a7,a8,a9,a10,a11⟩,af⟩:=cells12 (blk_new w (.cells (N12 2 n s r t (.slice p m c)) 57))
 obtain⟨mm,hm⟩:=(hE.next hb0).m
 have hcb:Lib.countB s ⟨#[34]⟩*(⟨#[34,34]⟩:ByteArray).size≤1000:=by
  have h1:Lib.countB s ⟨#[34]⟩≤s.data.toList.length+1:=Lib.count_le _ _
  have h2:s.data.toList.length=s.size:=by simp
  have h3:(⟨#[34,34]⟩:ByteArray).size=2:=rfl
  rw [h3]
  omega
 have HC:=Tryz.strings_ReplaceAll s ⟨#[34]⟩ ⟨#[34,34]⟩ mm _ (by omega) hm (by decide) (by omega)
 rw [show (⟨#[34]⟩:ByteArray).data.toList=[34] from rfl,show (⟨#[34,34]⟩:ByteArray).data.toList=[34,34] from rfl,repAll_dbl] at HC
 have hdl:=dbl_le s.data.toList
 have hsz:(⟨(dbl s.data.toList).toArray⟩:ByteArray).size≤400:=by
  show (dbl s.data.toList).toArray.size≤400
  simp at hdl ⊢
  have:s.data.size=s.size:=rfl
  omega
 have HR:Hid (((⟨#[34]⟩:ByteArray)++⟨(dbl s.data.toList).toArray⟩)++⟨#[34]⟩=⟨(34::(dbl s.data.toList++[34])).toArray⟩):=by
  unfold Hid
  apply ByteArray.ext
  simp [ByteArray.data_append]
 obtain⟨D,hD⟩:∃ D:ByteArray,⟨(dbl s.data.toList).toArray⟩=D:=⟨_,rfl⟩
 rw [hD] at HC hsz HR
 clear hD hE hm hcb hdl
 go_enter Tryz.func186,Tryz.ntmps186
 go_wp2_with fail
 refine HC.mono ?_
 rintro e w1 ⟨rfl,hb1⟩
 have q1:¬ 9223372036854775807<(⟨#[34]⟩:ByteArray).size+D.size:=by have:(⟨#[34]⟩:ByteArray).size=1:=rfl;omega
 have q2:¬ 9223372036854775807<(⟨#[34]⟩:ByteArray).size+D.size+(⟨#[34]⟩:ByteArray).size:=by have:(⟨#[34]⟩:ByteArray).size=1:=rfl;omega
 go_wp2_with fail
 go_ret
 exact⟨by rw [← HR.out];rfl,bnext hb0 hb1 hb0.size⟩
theorem leaf_truth (n:Int) (s:ByteArray) (r t:Rf) (p:Option Addr) (m c:Nat) (w:World) (hn:n=0∨n=1) :
  Calls Tryz.prog 186 #[NV 3 n s r t (.slice p m c)] w fun e w'=>e=.returned (.string ⟨(truT n).toArray⟩)∧Below w.heap.size w w':=by
 have hb0:Below w.heap.size w (w.alloc (.cells (N12 3 n s r t (.slice p m c)) 57)):=(Below.refl _ _).alloc (Nat.le_refl _) _
 obtain⟨⟨a0,a1,a2,a3,a4,a5,a6,a7,a8,a9,a10,a11⟩,af⟩:=cells12 (blk_new w (.cells (N12 3 n s r t (.slice p m c)) 57))
 have HC:=fun w=>show_tru 3 n nul w rfl rfl rfl
 have ht:truText n=⟨(truT n).toArray⟩:=by rcases hn with rfl | rfl<;>rfl
 rw [ht] at HC
 clear ht
 go_enter Tryz.func186,Tryz.ntmps186
 go_wp2_with fail
 refine (HC _).mono ?_
 rintro e w1 ⟨rfl,hb1⟩
 go_wp2_with fail
 go_ret
 exact⟨rfl,bnext hb0 hb1 hb0.size⟩
theorem leaf_bad (n:Nat) (s:ByteArray) (r t:Rf) (p:Option Addr) (m c:Nat) (w:World) (hE:EnvW w) (h1:1≤n) (h6:n≤6) :
  Calls Tryz.prog 186 #[NV 4 n s r t (.slice p m c)] w fun e w'=>e=.returned (.string ⟨(badT n).toArray⟩)∧Below w.heap.size w w':=by
 have hb0:Below w.heap.size w (w.alloc (.cells (N12 4 n s r t (.slice p m c)) 57)):=(Below.refl _ _).alloc (Nat.le_refl _) _
 obtain⟨⟨a0,a1,a2,a3,a4,a5,a6,a7,a8,a9,a10,a11⟩,af⟩:=cells12 (blk_new w (.cells (N12 4 n s r t (.slice p m c)) 57))
 have hE0:=(hE.next hb0).f.env
 have HC:=show_bad 4 n nul _ rfl rfl rfl rfl hE0
 have ht:badText n=⟨(badT n).toArray⟩:=by
  have hc:n=1∨n=2∨n=3∨n=4∨n=5∨n=6:=by omega
  rcases hc with rfl | rfl | rfl | rfl | rfl | rfl<;>rfl
 rw [ht] at HC
 clear ht hE hE0
 go_enter Tryz.func186,Tryz.ntmps186
 go_wp2_with fail
 refine HC.mono ?_
 rintro e w1 ⟨rfl,hb1⟩
 go_wp2_with fail
 go_ret
 exact⟨rfl,bnext hb0 hb1 hb0.size⟩
theorem leaf_ref (n:Int) (s:ByteArray) (r t:Rf) (p:Option Addr) (m c:Nat) (w:World) (h:adr.isC r.c r.r=true) :
  Calls Tryz.prog 186 #[NV 5 n s r t (.slice p m c)] w fun e w'=>e=.returned (.string ⟨(ink.ref r).toArray⟩)∧Below w.heap.size w w':=by
 have hb0:Below w.heap.size w (w.alloc (.cells (N12 5 n s r t (.slice p m c)) 57)):=(Below.refl _ _).alloc (Nat.le_refl _) _
 obtain⟨⟨a0,a1,a2,a3,a4,a5,a6,a7,a8,a9,a10,a11⟩,af⟩:=cells12 (blk_new w (.cells (N12 5 n s r t (.slice p m c)) 57))
 have HC:=fun w=>refText_any r w h
 clear h
 go_enter Tryz.func186,Tryz.ntmps186
 go_wp2_with fail
 refine (HC _).mono ?_
 rintro e w1 ⟨rfl,hb1⟩
 go_wp2_with fail
 go_ret
 exact⟨rfl,bnext hb0 hb1 hb0.size⟩
theorem ref_size (r:Rf) (h:adr.isC r.c r.r=true):(⟨(ink.ref r).toArray⟩:ByteArray).size≤10:=by
 have e:=adr.nm_list r.fc r.fr h
 obtain⟨⟨h1,h2⟩,h3,h4⟩:=adr.isC_iff.1 h
 have h5:=adr.it_len (r:=r.r.toNat) (by omega)
 show (ink.ref r).toArray.size≤10
 unfold ink dollar
 simp only [List.size_toArray,List.length_append,List.length_cons]
 split<;>split<;>simp<;>omega
end Go.Proofs.YtgifkepklnhddaaGreatDoor.fm
namespace Go.Proofs.YtgifkepklnhddaaGreatDoor.fm
open Go.RowKit
abbrev Op8 (w:World) (k n:Int) (s:ByteArray) (r t:Rf) (v:Value) (wx:World):Prop :=
 wx.cell? ⟨w.heap.size,3,none⟩=some (.int .i64 r.c)∧wx.cell? ⟨w.heap.size,4,none⟩=some (.int .i64 r.r)∧wx.cell? ⟨w.heap.size,5,none⟩=some (.bool r.fc)∧wx.cell? ⟨w.heap.size,6,none⟩=some (.bool r.fr)∧wx.cell? ⟨w.heap.size,7,none⟩=some (.int .i64 t.c)∧wx.cell? ⟨w.heap.size,8,none⟩=some (.int .i64 t.r)∧wx.cell? ⟨w.heap.size,9,none⟩=some (.bool t.fc)∧wx.cell? ⟨w.heap.size,10,none⟩=some (.bool t.fr)∧OB w w (N12 k n s r t v) wx
theorem Op8.mk {w:World} {k n:Int} {s:ByteArray} {r t:Rf} {v:Value} {wx:World} (h:OB w w (N12 k n s r t v) wx):Op8 w k n s r t v wx:=by
 obtain⟨⟨a0,a1,a2,a3,a4,a5,a6,a7,a8,a9,a10,a11⟩,af⟩:=cells12 h.a
 exact⟨a3,a4,a5,a6,a7,a8,a9,a10,h⟩
theorem op8_below {w:World} {k n:Int} {s:ByteArray} {r t:Rf} {v:Value} {wx wy:World} (h:Op8 w k n s r t v wx) (hb:Below wx.heap.size wx wy):Op8 w k n s r t v wy :=
 .mk (h.2.2.2.2.2.2.2.2.next hb)
theorem op8_end {w:World} {k n:Int} {s:ByteArray} {r t:Rf} {v:Value} {wx:World} (h:Op8 w k n s r t v wx):Below w.heap.size w wx:=h.2.2.2.2.2.2.2.2.below
set_option maxHeartbeats 4000000 in
set_option maxRecDepth 100000 in
theorem leaf_box (n:Int) (s:ByteArray) (r t:Rf) (p:Option Addr) (m c:Nat) (w:World) (h:adr.isC r.c r.r=true) (h2:adr.isC t.c t.r=true) :
  Calls Tryz.prog 186 #[NV 6 n s r t (.slice p m c)] w fun e w'=>e=.returned (.string ⟨(ink.ref r++58::ink.ref t).toArray⟩)∧Below w.heap.size w w':=by
 have hb0:Below w.heap.size w (w.alloc (.cells (N12 6 n s r t (.slice p m c)) 57)):=(Below.refl _ _).alloc (Nat.le_refl _) _
 have hq0:=blk_new w (.cells (N12 6 n s r t (.slice p m c)) 57)
 obtain⟨⟨a0,a1,a2,a3,a4,a5,a6,a7,a8,a9,a10,a11⟩,af⟩:=cells12 hq0
 have z1:=ref_size r h
 have z2:=ref_size t h2
 have HC1:Hid (∀ w,Calls Tryz.prog 210 #[RV r] w fun e w'=>e=.returned (.string ⟨(ink.ref r).toArray⟩)∧Below w.heap.size w w'):=fun w=>refText_any r w h
 have HC2:Hid (∀ w,Calls Tryz.prog 210 #[RV t] w fun e w'=>e=.returned (.string ⟨(ink.ref t).toArray⟩)∧Below w.heap.size w w'):=fun w=>refText_any t w h2
 have HR:Hid (((⟨(ink.ref r).toArray⟩:ByteArray)++⟨#[58]⟩)++⟨(ink.ref t).toArray⟩=⟨(ink.ref r++58::ink.ref t).toArray⟩):=by
  unfold Hid
  apply ByteArray.ext
  simp [ByteArray.data_append]
 obtain⟨D,hD⟩:∃ D:ByteArray,⟨(ink.ref r).toArray⟩=D:=⟨_,rfl⟩
 obtain⟨E,hE⟩:∃ E:ByteArray,⟨(ink.ref t).toArray⟩=E:=⟨_,rfl⟩
 rw [hD] at HC1 HR z1
 rw [hE] at HC2 HR z2
 clear hD hE h h2
 have q0:(⟨#[58]⟩:ByteArray).size=1:=rfl
 have q1:¬ 9223372036854775807<D.size+(⟨#[58]⟩:ByteArray).size:=by omega
 have q2:¬ 9223372036854775807<D.size+(⟨#[58]⟩:ByteArray).size+E.size:=by omega
 have q3:¬ 9223372036854775807<D.size+1:=by omega
 have q4:¬ 9223372036854775807<D.size+1+E.size:=by omega
 clear q0
 have h0d:Op8 w 6 n s r t (.slice p m c) (w.alloc (.cells (N12 6 n s r t (.slice p m c)) 57)).drew:=Op8.mk (OB.start (Below.refl _ _) _).drew
 clear hq0 hb0
 go_enter Tryz.func186,Tryz.ntmps186
 go_wp2_with fail
 clear a0 a1 a2 a11 af
 generalize hw0:w.alloc _=w0 at *
 clear hw0
 go_region_held3 (fun wx=>Op8 w 6 n s r t (.slice p m c) wx) (first | with_reducible exact h0d | with_reducible assumption | exact op8_below (by with_reducible assumption) (by with_reducible assumption)) (first | (go_at_call 210;with_reducible refine (HC1.out _).mono ?_;rintro e wa ⟨rfl,ha⟩) | (go_at_call 210;with_reducible refine (HC2.out _).mono ?_;rintro e wa ⟨rfl,ha⟩))
 all_goals
  go_wp2_with fail
  go_ret
  exact⟨by rw [← HR.out];rfl,op8_end (by assumption)⟩
end Go.Proofs.YtgifkepklnhddaaGreatDoor.fm
namespace Go.Proofs.YtgifkepklnhddaaGreatDoor.fm
open Go.RowKit
theorem Kw.blk {B wb:Nat} {w w':World} (h:Kw B wb w w') {b:Nat} {cs:Array Value} {t:TypeId} {f:Nat×Nat} (hb:w.heap[b]?=some (.cells cs t f)) (ht:t≠5) (hne:b≠wb):w'.heap[b]?=some (.cells cs t f) :=
 h.o b _ hb (fun e=>hne (Option.some.inj e)) (fun c fz e=>ht (by injection e))
def NodeOK (w0:World) (v:Value) (x:List UInt8) (dp:Nat):Prop:=∀ (w:World) (wb:Nat) (y:List UInt8) (d m:Nat),Below w0.heap.size w0 w→WB w w0.heap.size wb y d m→d≤m→m≤500000∧d+dp≤500000→y.length+x.length≤1000000 →
 Calls Tryz.prog 152 #[ptr wb,v] w fun e w'=>e=.returned (.tuple #[])∧WB w' w0.heap.size wb (y++x) d (max m (d+dp))∧Kw w0.heap.size wb w w'
def OpdOK (w0:World) (v:Value) (l:Nat) (x:List UInt8) (dp:Nat):Prop:=∀ (w:World) (wb:Nat) (y:List UInt8) (d m:Nat),Below w0.heap.size w0 w→WB w w0.heap.size wb y d m→d≤m→m≤500000∧d+dp≤500000→y.length+x.length≤1000000 →
 Calls Tryz.prog 183 #[ptr wb,v,.int .i64 (l:Nat)] w fun e w'=>e=.returned (.tuple #[])∧WB w' w0.heap.size wb (y++x) d (max m (d+dp))∧Kw w0.heap.size wb w w'
theorem clos95 (wb pb nb:Nat) (v:Value) (k n:Int) (s:ByteArray) (r t:Rf) (u:Value) (hv:v=NV k n s r t u) (w:World) (hp:w.heap[pb]?=some (.cells #[ptr wb] 247 (0,0))) (hn:w.heap[nb]?=some (.cells (N12 k n s r t u) 57 (0,0))) (Q:Ending→World→Prop)
  (h:Calls Tryz.prog 152 #[ptr wb,v] w fun e w'=>e=.returned (.tuple #[])∧Q e w'):Calls Tryz.prog 206 #[ptr pb,ptr nb] w fun e w'=>e=.returned (.tuple #[])∧Q e w':=by
 subst hv
 obtain⟨p0,p1⟩:=cells1 hp
 obtain⟨⟨a0,a1,a2,a3,a4,a5,a6,a7,a8,a9,a10,a11⟩,af⟩:=cells12 hn
 have HH:Hid (Calls Tryz.prog 152 #[ptr wb,NV k n s r t u] w fun e w'=>e=.returned (.tuple #[])∧Q e w'):=h
 clear h
 go_enter Tryz.func206,Tryz.ntmps206
 go_wp2_with fail
 refine HH.out.mono ?_
 rintro e w1 ⟨rfl,hq⟩
 have HQ:Hid (Q (.returned (.tuple #[])) w1):=hq
 clear hq
 go_wp2_with fail
 go_end0
 exact⟨rfl,HQ.out⟩
set_option maxHeartbeats 4000000 in
set_option maxRecDepth 100000 in
theorem opd_loose (w0:World) (hE:EnvW w0) (op l:Nat) (h1:1≤op) (h11:op≤11) (s:ByteArray) (r t:Rf) (p:Option Addr) (q c:Nat) (x:List UInt8) (dp:Nat) (hN:NodeOK w0 (NV 8 op s r t (.slice p q c)) x dp) (hl:lev op<l):OpdOK w0 (NV 8 op s r t (.slice p q c)) l (40::(x++[41])) (dp+1):=by
 intro w wb y d m hb hW hdm hm hlen
 have hEw:=hE.below hb hE.lt
 have hB:=hW.ge
 have hs0:=hb.size
 have hlt:=hW.lt
 have hW2:=(hW.alloc (.cells #[ptr wb] 247)).alloc (.cells (N12 8 op s r t (.slice p q c)) 57)
 have kW2:Kw w0.heap.size wb w ((w.alloc (.cells #[ptr wb] 247)).alloc (.cells (N12 8 op s r t (.slice p q c)) 57)):=((Kw.refl _ _ _).alloc hs0 _).alloc (by simp;omega) _
 have hp2:((w.alloc (.cells #[ptr wb] 247)).alloc (.cells (N12 8 op s r t (.slice p q c)) 57)).heap[w.heap.size]?=some (.cells #[ptr wb] 247 (0,0)):=by
  rw [Below.heap_alloc _ _ _ (by simp)];exact blk_new _ _
 have hn2:((w.alloc (.cells #[ptr wb] 247)).alloc (.cells (N12 8 op s r t (.slice p q c)) 57)).heap[w.heap.size+1]?=some (.cells (N12 8 op s r t (.slice p q c)) 57 (0,0)):=by
  have:=blk_new (w.alloc (.cells #[ptr wb] 247)) (.cells (N12 8 op s r t (.slice p q c)) 57)
  simpa using this
 have hE2:=hEw.below kW2.b hE.lt
 have hcell:=(hE2.f.cell op (by omega)).2
 have hcell0:=(hEw.f.cell op (by omega)).2
 rw [show 2*op+1=op*2+1 from by omega] at hcell hcell0
 obtain⟨p0,p1⟩:=cells1 hp2
 obtain⟨⟨a0,a1,a2,a3,a4,a5,a6,a7,a8,a9,a10,a11⟩,af⟩:=cells12 hn2
 have hlv:opLv op=lev op:=by
  have hc:op=1∨op=2∨op=3∨op=4∨op=5∨op=6∨op=7∨op=8∨op=9∨op=10∨op=11:=by omega
  rcases hc with rfl | rfl | rfl | rfl | rfl | rfl | rfl | rfl | rfl | rfl | rfl<;>rfl
 have hl':((opLv op:Nat):Int)<(l:Int):=by omega
 have i0:(0:Int)≤(op:Int):=by omega
 have i1:(op:Int)<12:=by omega
 have HD:=deeper95 w0.heap.size wb w.heap.size (w.heap.size+1) y x ⟨#[40]⟩ ⟨#[41]⟩ d m dp _ hW2 hdm (by omega) (by simp at hlen ⊢;have e1:(⟨#[40]⟩:ByteArray).size=1:=rfl;have e2:(⟨#[41]⟩:ByteArray).size=1:=rfl;omega) (by simp;omega) (fun w1 hW1 hk1=>by
  have hp1:=hk1.blk hp2 (by decide) (by omega)
  have hn1:=hk1.blk hn2 (by decide) (by omega)
  exact clos95 wb _ _ _ 8 op s r t _ rfl w1 hp1 hn1 (fun _ w'=>WB w' w0.heap.size wb (y++(⟨#[40]⟩:ByteArray).data.toList++x) (d+1) (max (max m (d+1)) (d+1+dp))∧Kw w0.heap.size wb w1 w')
   (hN w1 wb _ (d+1) (max m (d+1)) ((hb.trans kW2.b).trans hk1.b) hW1 (by omega) (by omega) (by simp at hlen ⊢;omega)))
 have HDD:Hid (Calls Tryz.prog 181 #[ptr wb,.string ⟨#[40]⟩,.func (.func 206) #[] #[ptr w.heap.size,ptr (w.heap.size+1)],.string ⟨#[41]⟩] ((w.alloc (.cells #[ptr wb] 247)).alloc (.cells (N12 8 op s r t (.slice p q c)) 57)) fun e w'=>e=.returned (.tuple #[])∧WB w' w0.heap.size wb (y++(⟨#[40]⟩:ByteArray).data.toList++x++(⟨#[41]⟩:ByteArray).data.toList) d (max m (d+1+dp))∧Kw w0.heap.size wb ((w.alloc (.cells #[ptr wb] 247)).alloc (.cells (N12 8 op s r t (.slice p q c)) 57)) w'):=HD
 have hmf:∀ (fn:Fn) (first cap:Array Value) (w:World),(Instr.makeFunc fn first cap).run Tryz.prog w=.ok (.func fn first cap) w:=fun _ _ _ _=>rfl
 have HK:Hid (Kw w0.heap.size wb w ((w.alloc (.cells #[ptr wb] 247)).alloc (.cells (N12 8 op s r t (.slice p q c)) 57))):=kW2
 clear HD hN hE hEw hE2 kW2 hW hW2 hp2 hn2 hb
 go_enter Tryz.func183,Tryz.ntmps183
 go_wp2_with fail
 refine HDD.out.mono ?_
 rintro e w3 ⟨rfl,h3,k3⟩
 go_wp2_with fail
 refine bodyPost_ret (v:=.tuple #[]) (by simp [results,Tryz.results183]) rfl ⟨rfl,?_,HK.out.trans k3⟩
 rw [show d+(dp+1)=d+1+dp from by omega]
 simpa using h3
theorem opLv_lev {op:Nat} (h1:1≤op) (h11:op≤11):opLv op=lev op:=by
 have hc:op=1∨op=2∨op=3∨op=4∨op=5∨op=6∨op=7∨op=8∨op=9∨op=10∨op=11:=by omega
 rcases hc with rfl | rfl | rfl | rfl | rfl | rfl | rfl | rfl | rfl | rfl | rfl<;>rfl
set_option maxHeartbeats 4000000 in
set_option maxRecDepth 100000 in
theorem opd_tight (w0:World) (hE:EnvW w0) (op l:Nat) (h1:1≤op) (h11:op≤11) (s:ByteArray) (r t:Rf) (p:Option Addr) (q c:Nat) (x:List UInt8) (dp:Nat) (hN:NodeOK w0 (NV 8 op s r t (.slice p q c)) x dp) (hl:¬ lev op<l):OpdOK w0 (NV 8 op s r t (.slice p q c)) l x dp:=by
 intro w wb y d m hb hW hdm hm hlen
 have hEw:=hE.below hb hE.lt
 have hs0:=hb.size
 have hW2:=(hW.alloc (.cells #[ptr wb] 247)).alloc (.cells (N12 8 op s r t (.slice p q c)) 57)
 have kW2:Kw w0.heap.size wb w ((w.alloc (.cells #[ptr wb] 247)).alloc (.cells (N12 8 op s r t (.slice p q c)) 57)):=((Kw.refl _ _ _).alloc hs0 _).alloc (by simp;omega) _
 have hE2:=hEw.below kW2.b hE.lt
 have hcell:=(hE2.f.cell op (by omega)).2
 have hcell0:=(hEw.f.cell op (by omega)).2
 rw [show 2*op+1=op*2+1 from by omega] at hcell hcell0
 have hlv:=opLv_lev h1 h11
 have hl':¬ ((opLv op:Nat):Int)<(l:Int):=by omega
 have i0:(0:Int)≤(op:Int):=by omega
 have i1:(op:Int)<12:=by omega
 have HC:Hid (Calls Tryz.prog 152 #[ptr wb,NV 8 op s r t (.slice p q c)] ((w.alloc (.cells #[ptr wb] 247)).alloc (.cells (N12 8 op s r t (.slice p q c)) 57)) fun e w'=>e=.returned (.tuple #[])∧WB w' w0.heap.size wb (y++x) d (max m (d+dp))∧Kw w0.heap.size wb ((w.alloc (.cells #[ptr wb] 247)).alloc (.cells (N12 8 op s r t (.slice p q c)) 57)) w'):=hN _ wb y d m (hb.trans kW2.b) hW2 hdm hm hlen
 have HK:Hid (Kw w0.heap.size wb w ((w.alloc (.cells #[ptr wb] 247)).alloc (.cells (N12 8 op s r t (.slice p q c)) 57))):=kW2
 clear hN hE hEw hE2 kW2 hW hW2 hb
 go_enter Tryz.func183,Tryz.ntmps183
 go_wp2_with fail
 refine HC.out.mono ?_
 rintro e w3 ⟨rfl,h3,k3⟩
 go_wp2_with fail
 go_end0
 exact⟨rfl,h3,HK.out.trans k3⟩
set_option maxHeartbeats 4000000 in
set_option maxRecDepth 100000 in
theorem opd_plain (w0:World) (k n:Int) (l:Nat) (h8:¬ k=8) (s:ByteArray) (r t:Rf) (p:Option Addr) (q c:Nat) (x:List UInt8) (dp:Nat) (hN:NodeOK w0 (NV k n s r t (.slice p q c)) x dp):OpdOK w0 (NV k n s r t (.slice p q c)) l x dp:=by
 intro w wb y d m hb hW hdm hm hlen
 have hs0:=hb.size
 have hW2:=(hW.alloc (.cells #[ptr wb] 247)).alloc (.cells (N12 k n s r t (.slice p q c)) 57)
 have kW2:Kw w0.heap.size wb w ((w.alloc (.cells #[ptr wb] 247)).alloc (.cells (N12 k n s r t (.slice p q c)) 57)):=((Kw.refl _ _ _).alloc hs0 _).alloc (by simp;omega) _
 have HC:Hid (Calls Tryz.prog 152 #[ptr wb,NV k n s r t (.slice p q c)] ((w.alloc (.cells #[ptr wb] 247)).alloc (.cells (N12 k n s r t (.slice p q c)) 57)) fun e w'=>e=.returned (.tuple #[])∧WB w' w0.heap.size wb (y++x) d (max m (d+dp))∧Kw w0.heap.size wb ((w.alloc (.cells #[ptr wb] 247)).alloc (.cells (N12 k n s r t (.slice p q c)) 57)) w'):=hN _ wb y d m (hb.trans kW2.b) hW2 hdm hm hlen
 have HK:Hid (Kw w0.heap.size wb w ((w.alloc (.cells #[ptr wb] 247)).alloc (.cells (N12 k n s r t (.slice p q c)) 57))):=kW2
 clear hN kW2 hW hW2 hb
 go_enter Tryz.func183,Tryz.ntmps183
 go_wp2_with fail
 refine HC.out.mono ?_
 rintro e w3 ⟨rfl,h3,k3⟩
 go_wp2_with fail
 go_end0
 exact⟨rfl,h3,HK.out.trans k3⟩
theorem brk_yes {l:Nat} {t:T} (h:loose l t=true) (x:List UInt8) (d:Nat):brk l t x=40::(x++[41])∧brd l t d=d+1:=by unfold brk brd;rw [h];exact⟨rfl,rfl⟩
theorem brk_no {l:Nat} {t:T} (h:loose l t=false) (x:List UInt8) (d:Nat):brk l t x=x∧brd l t d=d:=by unfold brk brd;rw [h];exact⟨rfl,rfl⟩
theorem loose_two (l op:Nat) (s:ByteArray) (r t:Rf) (ts:List T):loose l (.nd 8 op s r t ts)=decide (lev op<l):=by
 unfold loose
 show (decide ((8:Int)=8) && decide (lev ((op:Int)).toNat<l))=_
 rw [Int.toNat_natCast];simp
theorem loose_not (l:Nat) {k:Int} (n:Int) (h:¬ k=8) (s:ByteArray) (r t:Rf) (ts:List T):loose l (.nd k n s r t ts)=false:=by
 unfold loose
 show (decide (k=8) && _)=_
 rw [decide_eq_false h];rfl
theorem opd_any (w0:World) (hE:EnvW w0) {P:Nat→Prop} {v:Value} {a:T} {x:List UInt8} {dp:Nat} (hNd:Nd w0 P v a) (hw:W ink a x dp) (hN:NodeOK w0 v x dp) (l:Nat):OpdOK w0 v l (brk l a x) (brd l a dp):=by
 cases hNd with
 | @mk k n s r t p m c us ts hk hl hs =>
 by_cases h8:k=8
 ·subst h8
  obtain⟨op,rfl,h1,h11⟩:∃ op:Nat,n=(op:Int)∧1≤op∧op≤11:=by
   cases hw with
   | two h1 h11 ha hb hx hy=>exact⟨_,rfl,h1,h11⟩
  by_cases hl:lev op<l
  ·have e:=brk_yes (by rw [loose_two,decide_eq_true hl]:loose l (.nd 8 op s r t ts)=true) x dp
   rw [e.1,e.2]
   exact opd_loose w0 hE op l h1 h11 _ _ _ _ _ _ _ _ hN hl
  ·have e:=brk_no (by rw [loose_two,decide_eq_false hl]:loose l (.nd 8 op s r t ts)=false) x dp
   rw [e.1,e.2]
   exact opd_tight w0 hE op l h1 h11 _ _ _ _ _ _ _ _ hN hl
 ·have e:=brk_no (loose_not l n h8 s r t ts) x dp
  rw [e.1,e.2]
  exact opd_plain w0 k n l h8 _ _ _ _ _ _ _ _ hN
end Go.Proofs.YtgifkepklnhddaaGreatDoor.fm
namespace Go.Proofs.YtgifkepklnhddaaGreatDoor.fm
open Go.RowKit
theorem Kw.of {B wb:Nat} {w w':World} (h:Below w.heap.size w w') (hB:B≤w.heap.size):Kw B wb w w' :=
 ⟨h.mono hB,fun b o hb _ _=>by rw [h.block b (Array.getElem?_eq_some_iff.1 hb).1];exact hb⟩
theorem WB.below {w w':World} {B wb:Nat} {x:List UInt8} {d m:Nat} (h:WB w B wb x d m) (hb:Below w.heap.size w w'):WB w' B wb x d m:=by
 have hl:=h.lt
 obtain⟨hB,p,v,hp,h1,h2⟩:=h
 exact⟨hB,p,v,hp,by rw [hb.block wb hl];exact h1,h2.kept (row:=none) ⟨hb.os,hb.tape,hb.output,hb.size,fun k hk _=>hb.block k hk⟩ (by cases hv:v.ownBlock<;>simp)⟩
theorem leaf_any (w:World) (hE:EnvW w) {k n:Int} {s:ByteArray} {r t:Rf} {ts:List T} {x:List UInt8} {dp:Nat} (h:W ink (.nd k n s r t ts) x dp) (h7:¬ k=7) (h8:¬ k=8) (h9:¬ k=9) (p:Option Addr) (m c:Nat) :
  dp=0∧Calls Tryz.prog 186 #[NV k n s r t (.slice p m c)] w fun e w'=>e=.returned (.string ⟨x.toArray⟩)∧Below w.heap.size w w':=by
 cases h with
 | num h0 h1=>exact⟨rfl,leaf_num n _ _ _ p m c w hE h0 h1⟩
 | text h=>exact⟨rfl,leaf_text 0 s _ _ p m c w hE h⟩
 | truth h=>exact⟨rfl,leaf_truth n _ _ _ p m c w h⟩
 | bad h h6=>exact⟨rfl,leaf_bad _ _ _ _ p m c w hE h h6⟩
 | ref h=>exact⟨rfl,leaf_ref 0 _ _ _ p m c w h⟩
 | box h h2=>exact⟨rfl,leaf_box 0 _ _ _ p m c w h h2⟩
 | neg _ _=>exact absurd rfl h7
 | two _ _ _ _ _ _=>exact absurd rfl h8
 | call _ _ _ _=>exact absurd rfl h9
set_option maxHeartbeats 4000000 in
set_option maxRecDepth 100000 in
theorem node_leaf (w0:World) (hE:EnvW w0) {k n:Int} {s:ByteArray} {r t:Rf} {ts:List T} {x:List UInt8} {dp:Nat} (h:W ink (.nd k n s r t ts) x dp) (h7:¬ k=7) (h8:¬ k=8) (h9:¬ k=9) (p:Option Addr) (q c:Nat):NodeOK w0 (NV k n s r t (.slice p q c)) x dp:=by
 intro w wb y d m hb hW hdm hm hlen
 have hs0:=hb.size
 have hEw:=hE.below hb hE.lt
 have hW2:=(hW.alloc (.cells #[ptr wb] 247)).alloc (.cells (N12 k n s r t (.slice p q c)) 57)
 have kW2:Kw w0.heap.size wb w ((w.alloc (.cells #[ptr wb] 247)).alloc (.cells (N12 k n s r t (.slice p q c)) 57)):=((Kw.refl _ _ _).alloc hs0 _).alloc (by simp;omega) _
 have hp2:((w.alloc (.cells #[ptr wb] 247)).alloc (.cells (N12 k n s r t (.slice p q c)) 57)).heap[w.heap.size]?=some (.cells #[ptr wb] 247 (0,0)):=by
  rw [Below.heap_alloc _ _ _ (by simp)];exact blk_new _ _
 have hn2:((w.alloc (.cells #[ptr wb] 247)).alloc (.cells (N12 k n s r t (.slice p q c)) 57)).heap[w.heap.size+1]?=some (.cells (N12 k n s r t (.slice p q c)) 57 (0,0)):=by
  have:=blk_new (w.alloc (.cells #[ptr wb] 247)) (.cells (N12 k n s r t (.slice p q c)) 57)
  simpa using this
 have hE2:=hEw.below kW2.b hE.lt
 obtain⟨rfl,_⟩:=leaf_any _ hE2 h h7 h8 h9 p q c
 have hE2d:EnvW (((w.alloc (.cells #[ptr wb] 247)).alloc (.cells (N12 k n s r t (.slice p q c)) 57)).drew):=hE2.below ((Below.refl _ _).drew) hE2.lt
 obtain⟨_,HL⟩:=leaf_any _ hE2d h h7 h8 h9 p q c
 obtain⟨⟨a0,a1,a2,a3,a4,a5,a6,a7,a8,a9,a10,a11⟩,af⟩:=cells12 hn2
 obtain⟨p0,p1⟩:=cells1 hp2
 clear af p1
 have h7':(k == 7)=false:=by simpa using h7
 have h8':(k == 8)=false:=by simpa using h8
 have h9':(k == 9)=false:=by simpa using h9
 have hlt0:=hW.lt
 clear h hE hEw hE2 hE2d hW h7 h8 h9
 go_enter Tryz.func152,Tryz.ntmps152
 go_wp2_with fail
 generalize (w.alloc (.cells #[ptr wb] 247)).alloc _=w2 at *
 have HLL:Hid (Calls Tryz.prog 186 #[NV k n s r t (.slice p q c)] w2.drew fun e w'=>e=.returned (.string ⟨x.toArray⟩)∧Below w2.drew.heap.size w2.drew w'):=HL
 have hs2:=kW2.b.size
 have HWR:Hid (∀ w3,Below w2.drew.heap.size w2.drew w3→Calls Tryz.prog 151 #[ptr wb,.string ⟨x.toArray⟩] w3 fun e w'=>e=.returned (.tuple #[.int .i64 (⟨x.toArray⟩:ByteArray).size,.nilIface])∧WB w' w0.heap.size wb (y++x) d m∧Kw w0.heap.size wb w2.drew w'):=fun w3 hb3=>by
  have hs3:=hb3.size
  have e2:w2.drew.heap.size=w2.heap.size:=rfl
  refine (write_any w0.heap.size wb y d m ⟨x.toArray⟩ w3 (WB.below hW2.drew hb3) (by show y.length+x.toArray.size≤_;simp;omega) (by omega)).mono ?_
  rintro e w4 ⟨rfl,h4,k4⟩
  exact⟨rfl,by simpa using h4,(Kw.of hb3 (by omega)).trans k4⟩
 have hw1:w.heap.size≠wb:=by have:=hlt0;omega
 have hw2:w.heap.size+1≠wb:=by have:=hlt0;omega
 have KK:Hid (∀ wx,Kw w0.heap.size wb w2.drew wx→wx.cell? ⟨w.heap.size,0,none⟩=some (ptr wb)∧wx.cell? ⟨w.heap.size+1,0,none⟩=some (.int .i64 k)∧wx.cell? ⟨w.heap.size+1,1,none⟩=some (.int .i64 n)∧wx.cell? ⟨w.heap.size+1,2,none⟩=some (.string s)∧wx.cell? ⟨w.heap.size+1,3,none⟩=some (.int .i64 r.c)∧wx.cell? ⟨w.heap.size+1,4,none⟩=some (.int .i64 r.r)∧wx.cell? ⟨w.heap.size+1,5,none⟩=some (.bool r.fc)∧wx.cell? ⟨w.heap.size+1,6,none⟩=some (.bool r.fr)∧wx.cell? ⟨w.heap.size+1,7,none⟩=some (.int .i64 t.c)∧wx.cell? ⟨w.heap.size+1,8,none⟩=some (.int .i64 t.r)∧wx.cell? ⟨w.heap.size+1,9,none⟩=some (.bool t.fc)∧wx.cell? ⟨w.heap.size+1,10,none⟩=some (.bool t.fr)∧wx.cell? ⟨w.heap.size+1,11,none⟩=some (.slice p q c)):=fun wx hk=>by
  obtain⟨⟨a0,a1,a2,a3,a4,a5,a6,a7,a8,a9,a10,a11⟩,af⟩:=cells12 (hk.blk (w:=w2.drew) hn2 (by decide) hw2)
  obtain⟨p0,p1⟩:=cells1 (hk.blk (w:=w2.drew) hp2 (by decide) hw1)
  exact⟨p0,a0,a1,a2,a3,a4,a5,a6,a7,a8,a9,a10,a11⟩
 have KO:Hid (∀ wx,Below w2.drew.heap.size w2.drew wx→Kw w0.heap.size wb w2.drew wx):=fun wx hb=>Kw.of hb (by have e2:w2.drew.heap.size=w2.heap.size:=rfl;omega)
 have HK:Hid (Kw w0.heap.size wb w w2.drew):=kW2.drew
 clear HL hW2 kW2 hn2 hp2 hw1 hw2 hs2 hlt0
 go_region_held3 (fun wx=>wx.cell? ⟨w.heap.size,0,none⟩=some (ptr wb)∧wx.cell? ⟨w.heap.size+1,0,none⟩=some (.int .i64 k)∧wx.cell? ⟨w.heap.size+1,1,none⟩=some (.int .i64 n)∧wx.cell? ⟨w.heap.size+1,2,none⟩=some (.string s)∧wx.cell? ⟨w.heap.size+1,3,none⟩=some (.int .i64 r.c)∧wx.cell? ⟨w.heap.size+1,4,none⟩=some (.int .i64 r.r)∧wx.cell? ⟨w.heap.size+1,5,none⟩=some (.bool r.fc)∧wx.cell? ⟨w.heap.size+1,6,none⟩=some (.bool r.fr)∧wx.cell? ⟨w.heap.size+1,7,none⟩=some (.int .i64 t.c)∧wx.cell? ⟨w.heap.size+1,8,none⟩=some (.int .i64 t.r)∧wx.cell? ⟨w.heap.size+1,9,none⟩=some (.bool t.fc)∧wx.cell? ⟨w.heap.size+1,10,none⟩=some (.bool t.fr)∧wx.cell? ⟨w.heap.size+1,11,none⟩=some (.slice p q c)) (first | exact KK.out _ (Kw.refl _ _ _) | exact KK.out _ (KO.out _ hb3) | exact KK.out _ k4) (first | (go_at_call 186;refine HLL.out.mono ?_;rintro e w3 ⟨rfl,hb3⟩) | (go_at_call 151;refine (HWR.out _ (by assumption)).mono ?_;rintro e w4 ⟨rfl,h4,k4⟩))
 all_goals
  go_wp2_with fail
  go_end0
  exact⟨rfl,by rw [show max m (d+0)=m from by omega];exact h4,HK.out.trans k4⟩
end Go.Proofs.YtgifkepklnhddaaGreatDoor.fm
namespace Go.Proofs.YtgifkepklnhddaaGreatDoor.fm
open Go.RowKit
set_option maxHeartbeats 4000000 in
set_option maxRecDepth 100000 in
theorem clos70 (B wb pb nb g o c:Nat) (k n:Int) (s:ByteArray) (r t:Rf) (k1 n1:Int) (s1:ByteArray) (ra rb:Rf) (v1:Value) (w1:World) (hp:w1.heap[pb]?=some (.cells #[ptr wb] 247 (0,0))) (hn:w1.heap[nb]?=some (.cells (N12 k n s r t (.slice (some ⟨g,o,none⟩) 1 c)) 57 (0,0))) (hg:g<B) (hpw:pb≠wb) (hnw:nb≠wb)
  (hkid:∀ j x,(NV k1 n1 s1 ra rb v1).cells.toList[j]?=some x→w1.cell? ⟨g,o+j,none⟩=some x) (R:World→Prop)
  (h:Calls Tryz.prog 183 #[ptr wb,NV k1 n1 s1 ra rb v1,.int .i64 5] w1.drew fun e w'=>e=.returned (.tuple #[])∧R w'∧Kw B wb w1.drew w') :
  Calls Tryz.prog 182 #[ptr pb,ptr nb] w1 fun e w'=>e=.returned (.tuple #[])∧R w'∧Kw B wb w1 w':=by
 have x0:=hkid 0 _ rfl
 have x1:=hkid 1 _ rfl
 have x2:=hkid 2 _ rfl
 have x3:=hkid 3 _ rfl
 have x4:=hkid 4 _ rfl
 have x5:=hkid 5 _ rfl
 have x6:=hkid 6 _ rfl
 have x7:=hkid 7 _ rfl
 have x8:=hkid 8 _ rfl
 have x9:=hkid 9 _ rfl
 have x10:=hkid 10 _ rfl
 have x11:=hkid 11 _ rfl
 have KK:Hid (∀ wx,Kw B wb w1.drew wx→wx.cell? ⟨pb,0,none⟩=some (ptr wb)∧wx.cell? ⟨nb,11,none⟩=some (.slice (some ⟨g,o,none⟩) 1 c)∧wx.cell? ⟨g,o,none⟩=some (.int .i64 k1)∧wx.cell? ⟨g,o+1,none⟩=some (.int .i64 n1)∧wx.cell? ⟨g,o+2,none⟩=some (.string s1)∧wx.cell? ⟨g,o+3,none⟩=some (.int .i64 ra.c)∧wx.cell? ⟨g,o+4,none⟩=some (.int .i64 ra.r)∧wx.cell? ⟨g,o+5,none⟩=some (.bool ra.fc)∧wx.cell? ⟨g,o+6,none⟩=some (.bool ra.fr)∧wx.cell? ⟨g,o+7,none⟩=some (.int .i64 rb.c)∧wx.cell? ⟨g,o+8,none⟩=some (.int .i64 rb.r)∧wx.cell? ⟨g,o+9,none⟩=some (.bool rb.fc)∧wx.cell? ⟨g,o+10,none⟩=some (.bool rb.fr)∧wx.cell? ⟨g,o+11,none⟩=some (v1)):=fun wx hk=>by
  have b11:=(cells12 (hk.blk (w:=w1.drew) hn (by decide) hnw)).1.2.2.2.2.2.2.2.2.2.2.2
  have p0:=(cells1 (hk.blk (w:=w1.drew) hp (by decide) hpw)).1
  have hc:∀ i u,w1.cell? ⟨g,i,none⟩=some u→wx.cell? ⟨g,i,none⟩=some u:=fun i u hu=>by rw [hk.b.cell (p:=⟨g,i,none⟩) hg];exact hu
  exact⟨p0,b11,hc _ _ x0,hc _ _ x1,hc _ _ x2,hc _ _ x3,hc _ _ x4,hc _ _ x5,hc _ _ x6,hc _ _ x7,hc _ _ x8,hc _ _ x9,hc _ _ x10,hc _ _ x11⟩
 have HH:Hid (Calls Tryz.prog 183 #[ptr wb,NV k1 n1 s1 ra rb v1,.int .i64 5] w1.drew fun e w'=>e=.returned (.tuple #[])∧R w'∧Kw B wb w1.drew w'):=h
 have HK:Hid (Kw B wb w1 w1.drew):=(Kw.refl _ _ _).drew
 have p0:=(cells1 hp).1
 have b11:=(cells12 hn).1.2.2.2.2.2.2.2.2.2.2.2
 simp only [Nat.add_zero] at x0
 clear h hp hn hkid hg hpw hnw
 go_enter Tryz.func182,Tryz.ntmps182
 go_wp2_with fail
 go_region_held3 (fun wx=>wx.cell? ⟨pb,0,none⟩=some (ptr wb)∧wx.cell? ⟨nb,11,none⟩=some (.slice (some ⟨g,o,none⟩) 1 c)∧wx.cell? ⟨g,o,none⟩=some (.int .i64 k1)∧wx.cell? ⟨g,o+1,none⟩=some (.int .i64 n1)∧wx.cell? ⟨g,o+2,none⟩=some (.string s1)∧wx.cell? ⟨g,o+3,none⟩=some (.int .i64 ra.c)∧wx.cell? ⟨g,o+4,none⟩=some (.int .i64 ra.r)∧wx.cell? ⟨g,o+5,none⟩=some (.bool ra.fc)∧wx.cell? ⟨g,o+6,none⟩=some (.bool ra.fr)∧wx.cell? ⟨g,o+7,none⟩=some (.int .i64 rb.c)∧wx.cell? ⟨g,o+8,none⟩=some (.int .i64 rb.r)∧wx.cell? ⟨g,o+9,none⟩=some (.bool rb.fc)∧wx.cell? ⟨g,o+10,none⟩=some (.bool rb.fr)∧wx.cell? ⟨g,o+11,none⟩=some (v1)) (first | exact KK.out _ (Kw.refl _ _ _) | exact KK.out _ k4) (first | (go_at_call 183;refine HH.out.mono ?_;rintro e w4 ⟨rfl,h4,k4⟩))
 all_goals
  go_wp2_with fail
  go_end0
  exact⟨rfl,h4,HK.out.trans k4⟩
set_option maxHeartbeats 4000000 in
set_option maxRecDepth 100000 in
theorem node_neg (w0:World) (g o c:Nat) (k1 n1:Int) (s1:ByteArray) (ra rb:Rf) (v1:Value) (n:Int) (s:ByteArray) (r t:Rf) (x:List UInt8) (dp:Nat) (hg:g<w0.heap.size)
  (hkid:∀ j x,(NV k1 n1 s1 ra rb v1).cells.toList[j]?=some x→w0.cell? ⟨g,o+j,none⟩=some x) (hO:OpdOK w0 (NV k1 n1 s1 ra rb v1) 5 x dp):NodeOK w0 (NV 7 n s r t (.slice (some ⟨g,o,none⟩) 1 c)) (45::x) (dp+1):=by
 intro w wb y d m hb hW hdm hm hlen
 have hs0:=hb.size
 have hlt:=hW.lt
 have hW2:=(hW.alloc (.cells #[ptr wb] 247)).alloc (.cells (N12 7 n s r t (.slice (some ⟨g,o,none⟩) 1 c)) 57)
 have kW2:Kw w0.heap.size wb w ((w.alloc (.cells #[ptr wb] 247)).alloc (.cells (N12 7 n s r t (.slice (some ⟨g,o,none⟩) 1 c)) 57)):=((Kw.refl _ _ _).alloc hs0 _).alloc (by simp;omega) _
 have hp2:((w.alloc (.cells #[ptr wb] 247)).alloc (.cells (N12 7 n s r t (.slice (some ⟨g,o,none⟩) 1 c)) 57)).heap[w.heap.size]?=some (.cells #[ptr wb] 247 (0,0)):=by
  rw [Below.heap_alloc _ _ _ (by simp)];exact blk_new _ _
 have hn2:((w.alloc (.cells #[ptr wb] 247)).alloc (.cells (N12 7 n s r t (.slice (some ⟨g,o,none⟩) 1 c)) 57)).heap[w.heap.size+1]?=some (.cells (N12 7 n s r t (.slice (some ⟨g,o,none⟩) 1 c)) 57 (0,0)):=by
  have:=blk_new (w.alloc (.cells #[ptr wb] 247)) (.cells (N12 7 n s r t (.slice (some ⟨g,o,none⟩) 1 c)) 57)
  simpa using this
 have HD:=deeper70 w0.heap.size wb w.heap.size (w.heap.size+1) y x ⟨#[45]⟩ nul d m dp _ hW2 hdm (by omega) (by simp at hlen ⊢;have e1:(⟨#[45]⟩:ByteArray).size=1:=rfl;have e2:nul.size=0:=rfl;omega) (by simp;omega) (fun w1 hW1 hk1=>by
  have hp1:=hk1.blk hp2 (by decide) (by omega)
  have hn1:=hk1.blk hn2 (by decide) (by omega)
  have hb1:=(hb.trans kW2.b).trans hk1.b
  exact clos70 w0.heap.size wb _ _ g o c 7 n s r t k1 n1 s1 ra rb v1 w1 hp1 hn1 hg (by omega) (by omega) (fun j x hx=>by rw [hb1.cell (p:=⟨g,_,none⟩) hg];exact hkid j x hx)
   (fun w'=>WB w' w0.heap.size wb (y++(⟨#[45]⟩:ByteArray).data.toList++x) (d+1) (max (max m (d+1)) (d+1+dp)))
   (hO w1.drew wb _ (d+1) (max m (d+1)) hb1.drew hW1.drew (by omega) (by omega) (by simp at hlen ⊢;omega)))
 have HDD:Hid (Calls Tryz.prog 181 #[ptr wb,.string ⟨#[45]⟩,.func (.func 182) #[] #[ptr w.heap.size,ptr (w.heap.size+1)],.string nul] ((w.alloc (.cells #[ptr wb] 247)).alloc (.cells (N12 7 n s r t (.slice (some ⟨g,o,none⟩) 1 c)) 57)) fun e w'=>e=.returned (.tuple #[])∧WB w' w0.heap.size wb (y++(⟨#[45]⟩:ByteArray).data.toList++x++nul.data.toList) d (max m (d+1+dp))∧Kw w0.heap.size wb ((w.alloc (.cells #[ptr wb] 247)).alloc (.cells (N12 7 n s r t (.slice (some ⟨g,o,none⟩) 1 c)) 57)) w'):=HD
 have hmf:∀ (fn:Fn) (first cap:Array Value) (w:World),(Instr.makeFunc fn first cap).run Tryz.prog w=.ok (.func fn first cap) w:=fun _ _ _ _=>rfl
 have HK:Hid (Kw w0.heap.size wb w ((w.alloc (.cells #[ptr wb] 247)).alloc (.cells (N12 7 n s r t (.slice (some ⟨g,o,none⟩) 1 c)) 57))):=kW2
 clear HD hO kW2 hW hW2 hp2 hn2 hb hkid
 go_enter Tryz.func152,Tryz.ntmps152
 go_wp2_with fail
 refine HDD.out.mono ?_
 rintro e w3 ⟨rfl,h3,k3⟩
 go_wp2_with fail
 go_end0
 refine⟨rfl,?_,HK.out.trans k3⟩
 rw [show d+(dp+1)=d+1+dp from by omega]
 simpa using h3
end Go.Proofs.YtgifkepklnhddaaGreatDoor.fm
namespace Go.Proofs.YtgifkepklnhddaaGreatDoor.fm
open Go.RowKit
theorem opTxt_T {op:Nat} (h1:1≤op) (h11:op≤11):(opTxt op).data.toList=opT op∧(opTxt op).size≤2:=by
 have hc:op=1∨op=2∨op=3∨op=4∨op=5∨op=6∨op=7∨op=8∨op=9∨op=10∨op=11:=by omega
 rcases hc with rfl | rfl | rfl | rfl | rfl | rfl | rfl | rfl | rfl | rfl | rfl<;>exact⟨rfl,by decide⟩
set_option maxHeartbeats 8000000 in
set_option maxRecDepth 100000 in
theorem node_two (w0:World) (hE:EnvW w0) (op:Nat) (h1:1≤op) (h11:op≤11) (g o c:Nat) (k1 n1:Int) (s1:ByteArray) (r1a r1b:Rf) (v1:Value) (k2 n2:Int) (s2:ByteArray) (r2a r2b:Rf) (v2:Value) (s:ByteArray) (r t:Rf) (xa xb:List UInt8) (da db:Nat) (hg:g<w0.heap.size)
  (hka:∀ j x,(NV k1 n1 s1 r1a r1b v1).cells.toList[j]?=some x→w0.cell? ⟨g,o+j,none⟩=some x) (hkb:∀ j x,(NV k2 n2 s2 r2a r2b v2).cells.toList[j]?=some x→w0.cell? ⟨g,o+12+j,none⟩=some x)
  (hOa:OpdOK w0 (NV k1 n1 s1 r1a r1b v1) (lev op) xa da) (hOb:OpdOK w0 (NV k2 n2 s2 r2a r2b v2) (lev op+1) xb db):NodeOK w0 (NV 8 op s r t (.slice (some ⟨g,o,none⟩) 2 c)) (xa++opT op++xb) (max da db):=by
 intro w wb y d m hb hW hdm hm hlen
 have hs0:=hb.size
 have hlt:=hW.lt
 have hEw:=hE.below hb hE.lt
 have hW2:=(hW.alloc (.cells #[ptr wb] 247)).alloc (.cells (N12 8 op s r t (.slice (some ⟨g,o,none⟩) 2 c)) 57)
 have kW2:Kw w0.heap.size wb w ((w.alloc (.cells #[ptr wb] 247)).alloc (.cells (N12 8 op s r t (.slice (some ⟨g,o,none⟩) 2 c)) 57)):=((Kw.refl _ _ _).alloc hs0 _).alloc (by simp;omega) _
 have hp2:((w.alloc (.cells #[ptr wb] 247)).alloc (.cells (N12 8 op s r t (.slice (some ⟨g,o,none⟩) 2 c)) 57)).heap[w.heap.size]?=some (.cells #[ptr wb] 247 (0,0)):=by
  rw [Below.heap_alloc _ _ _ (by simp)];exact blk_new _ _
 have hn2:((w.alloc (.cells #[ptr wb] 247)).alloc (.cells (N12 8 op s r t (.slice (some ⟨g,o,none⟩) 2 c)) 57)).heap[w.heap.size+1]?=some (.cells (N12 8 op s r t (.slice (some ⟨g,o,none⟩) 2 c)) 57 (0,0)):=by
  have:=blk_new (w.alloc (.cells #[ptr wb] 247)) (.cells (N12 8 op s r t (.slice (some ⟨g,o,none⟩) 2 c)) 57)
  simpa using this
 have hE2:=hEw.below kW2.b hE.lt
 have hb2:=hb.trans kW2.b
 have hlv:=opLv_lev h1 h11
 have hot:=opTxt_T h1 h11
 have hl4:=lev_le op
 have hw1:w.heap.size≠wb:=by omega
 have hw2:w.heap.size+1≠wb:=by omega
 have hcell:=(hE2.f.cell op (by omega)).2
 have hcell0:=(hEw.f.cell op (by omega)).2
 rw [show 2*op+1=op*2+1 from by omega,hlv] at hcell hcell0
 obtain⟨⟨a0,a1,a2,a3,a4,a5,a6,a7,a8,a9,a10,a11⟩,af⟩:=cells12 hn2
 have hmf:∀ (fn:Fn) (first cap:Array Value) (w:World),(Instr.makeFunc fn first cap).run Tryz.prog w=.ok (.func fn first cap) w:=fun _ _ _ _=>rfl
 have i0:(0:Int)≤(op:Int):=by omega
 have i1:(op:Int)<12:=by omega
 have hl4':((lev op:Nat):Int)≤4:=by omega
 have p0:=(cells1 hp2).1
 have KC:Hid (∀ wx,Kw w0.heap.size wb ((w.alloc (.cells #[ptr wb] 247)).alloc (.cells (N12 8 op s r t (.slice (some ⟨g,o,none⟩) 2 c)) 57)) wx→∀ i u,w0.cell? ⟨g,i,none⟩=some u→wx.cell? ⟨g,i,none⟩=some u):=fun wx hk i u hu=>by rw [(hb2.trans hk.b).cell (p:=⟨g,i,none⟩) hg];exact hu
 have KB:Hid (∀ wx,Kw w0.heap.size wb ((w.alloc (.cells #[ptr wb] 247)).alloc (.cells (N12 8 op s r t (.slice (some ⟨g,o,none⟩) 2 c)) 57)) wx→wx.heap[w.heap.size]?=some (.cells #[ptr wb] 247 (0,0))∧wx.heap[w.heap.size+1]?=some (.cells (N12 8 op s r t (.slice (some ⟨g,o,none⟩) 2 c)) 57 (0,0))):=fun wx hk=>⟨hk.blk hp2 (by decide) hw1,hk.blk hn2 (by decide) hw2⟩
 have KE:Hid (∀ wx,Kw w0.heap.size wb ((w.alloc (.cells #[ptr wb] 247)).alloc (.cells (N12 8 op s r t (.slice (some ⟨g,o,none⟩) 2 c)) 57)) wx→wx.cell? ⟨1,op*2,none⟩=some (.string (opTxt op))):=fun wx hk=>by
  have:=((hE2.below hk.b hE.lt).f.cell op (by omega)).1
  rw [show op*2=2*op from by omega];exact this
 have K7:Hid (∀ wx,Kw w0.heap.size wb ((w.alloc (.cells #[ptr wb] 247)).alloc (.cells (N12 8 op s r t (.slice (some ⟨g,o,none⟩) 2 c)) 57)) wx→wx.cell? ⟨w.heap.size,0,none⟩=some (ptr wb)∧wx.cell? ⟨w.heap.size+1,11,none⟩=some (.slice (some ⟨g,o,none⟩) 2 c)∧wx.cell? ⟨g,o,none⟩=some (.int .i64 k1)∧wx.cell? ⟨g,o+1,none⟩=some (.int .i64 n1)∧wx.cell? ⟨g,o+2,none⟩=some (.string s1)∧wx.cell? ⟨g,o+3,none⟩=some (.int .i64 r1a.c)∧wx.cell? ⟨g,o+4,none⟩=some (.int .i64 r1a.r)∧wx.cell? ⟨g,o+5,none⟩=some (.bool r1a.fc)∧wx.cell? ⟨g,o+6,none⟩=some (.bool r1a.fr)∧wx.cell? ⟨g,o+7,none⟩=some (.int .i64 r1b.c)∧wx.cell? ⟨g,o+8,none⟩=some (.int .i64 r1b.r)∧wx.cell? ⟨g,o+9,none⟩=some (.bool r1b.fc)∧wx.cell? ⟨g,o+10,none⟩=some (.bool r1b.fr)∧wx.cell? ⟨g,o+11,none⟩=some (v1)):=fun wx hk =>
  ⟨(cells1 (KB.out wx hk).1).1,(cells12 (KB.out wx hk).2).1.2.2.2.2.2.2.2.2.2.2.2,KC.out wx hk _ _ (hka 0 _ rfl),KC.out wx hk _ _ (hka 1 _ rfl),KC.out wx hk _ _ (hka 2 _ rfl),KC.out wx hk _ _ (hka 3 _ rfl),KC.out wx hk _ _ (hka 4 _ rfl),KC.out wx hk _ _ (hka 5 _ rfl),KC.out wx hk _ _ (hka 6 _ rfl),KC.out wx hk _ _ (hka 7 _ rfl),KC.out wx hk _ _ (hka 8 _ rfl),KC.out wx hk _ _ (hka 9 _ rfl),KC.out wx hk _ _ (hka 10 _ rfl),KC.out wx hk _ _ (hka 11 _ rfl)⟩
 have K8:Hid (∀ wx,Kw w0.heap.size wb ((w.alloc (.cells #[ptr wb] 247)).alloc (.cells (N12 8 op s r t (.slice (some ⟨g,o,none⟩) 2 c)) 57)) wx→wx.cell? ⟨w.heap.size,0,none⟩=some (ptr wb)∧wx.cell? ⟨w.heap.size+1,1,none⟩=some (.int .i64 op)∧wx.cell? ⟨1,op*2,none⟩=some (.string (opTxt op))):=fun wx hk=>⟨(cells1 (KB.out wx hk).1).1,(cells12 (KB.out wx hk).2).1.2.1,KE.out wx hk⟩
 have K9:Hid (∀ wx,Kw w0.heap.size wb ((w.alloc (.cells #[ptr wb] 247)).alloc (.cells (N12 8 op s r t (.slice (some ⟨g,o,none⟩) 2 c)) 57)) wx→wx.cell? ⟨w.heap.size,0,none⟩=some (ptr wb)∧wx.cell? ⟨w.heap.size+1,11,none⟩=some (.slice (some ⟨g,o,none⟩) 2 c)∧wx.cell? ⟨g,o+12,none⟩=some (.int .i64 k2)∧wx.cell? ⟨g,o+12+1,none⟩=some (.int .i64 n2)∧wx.cell? ⟨g,o+12+2,none⟩=some (.string s2)∧wx.cell? ⟨g,o+12+3,none⟩=some (.int .i64 r2a.c)∧wx.cell? ⟨g,o+12+4,none⟩=some (.int .i64 r2a.r)∧wx.cell? ⟨g,o+12+5,none⟩=some (.bool r2a.fc)∧wx.cell? ⟨g,o+12+6,none⟩=some (.bool r2a.fr)∧wx.cell? ⟨g,o+12+7,none⟩=some (.int .i64 r2b.c)∧wx.cell? ⟨g,o+12+8,none⟩=some (.int .i64 r2b.r)∧wx.cell? ⟨g,o+12+9,none⟩=some (.bool r2b.fc)∧wx.cell? ⟨g,o+12+10,none⟩=some (.bool r2b.fr)∧wx.cell? ⟨g,o+12+11,none⟩=some (v2)∧wx.cell? ⟨g,o+13,none⟩=some (.int .i64 n2)∧wx.cell? ⟨g,o+14,none⟩=some (.string s2)∧wx.cell? ⟨g,o+15,none⟩=some (.int .i64 r2a.c)∧wx.cell? ⟨g,o+16,none⟩=some (.int .i64 r2a.r)∧wx.cell? ⟨g,o+17,none⟩=some (.bool r2a.fc)∧wx.cell? ⟨g,o+18,none⟩=some (.bool r2a.fr)∧wx.cell? ⟨g,o+19,none⟩=some (.int .i64 r2b.c)∧wx.cell? ⟨g,o+20,none⟩=some (.int .i64 r2b.r)∧wx.cell? ⟨g,o+21,none⟩=some (.bool r2b.fc)∧wx.cell? ⟨g,o+22,none⟩=some (.bool r2b.fr)∧wx.cell? ⟨g,o+23,none⟩=some (v2)):=fun wx hk =>
  ⟨(cells1 (KB.out wx hk).1).1,(cells12 (KB.out wx hk).2).1.2.2.2.2.2.2.2.2.2.2.2,KC.out wx hk _ _ (hkb 0 _ rfl),KC.out wx hk _ _ (hkb 1 _ rfl),KC.out wx hk _ _ (hkb 2 _ rfl),KC.out wx hk _ _ (hkb 3 _ rfl),KC.out wx hk _ _ (hkb 4 _ rfl),KC.out wx hk _ _ (hkb 5 _ rfl),KC.out wx hk _ _ (hkb 6 _ rfl),KC.out wx hk _ _ (hkb 7 _ rfl),KC.out wx hk _ _ (hkb 8 _ rfl),KC.out wx hk _ _ (hkb 9 _ rfl),KC.out wx hk _ _ (hkb 10 _ rfl),KC.out wx hk _ _ (hkb 11 _ rfl),KC.out wx hk _ _ (hkb 1 _ rfl),KC.out wx hk _ _ (hkb 2 _ rfl),KC.out wx hk _ _ (hkb 3 _ rfl),KC.out wx hk _ _ (hkb 4 _ rfl),KC.out wx hk _ _ (hkb 5 _ rfl),KC.out wx hk _ _ (hkb 6 _ rfl),KC.out wx hk _ _ (hkb 7 _ rfl),KC.out wx hk _ _ (hkb 8 _ rfl),KC.out wx hk _ _ (hkb 9 _ rfl),KC.out wx hk _ _ (hkb 10 _ rfl),KC.out wx hk _ _ (hkb 11 _ rfl)⟩
 have HA:Hid (∀ wx,Kw w0.heap.size wb ((w.alloc (.cells #[ptr wb] 247)).alloc (.cells (N12 8 op s r t (.slice (some ⟨g,o,none⟩) 2 c)) 57)) wx→WB wx w0.heap.size wb y d m→Calls Tryz.prog 183 #[ptr wb,NV k1 n1 s1 r1a r1b v1,.int .i64 ((lev op:Nat):Int)] wx fun e w'=>e=.returned (.tuple #[])∧WB w' w0.heap.size wb (y++xa) d (max m (d+da))∧Kw w0.heap.size wb ((w.alloc (.cells #[ptr wb] 247)).alloc (.cells (N12 8 op s r t (.slice (some ⟨g,o,none⟩) 2 c)) 57)) w'):=fun wx hk hWx=>by
  refine (hOa wx wb y d m (hb2.trans hk.b) hWx hdm (by omega) (by simp at hlen ⊢;omega)).mono ?_
  rintro e w' ⟨rfl,q1,q2⟩
  exact⟨rfl,q1,hk.trans q2⟩
 have HO:Hid (∀ wx,Kw w0.heap.size wb ((w.alloc (.cells #[ptr wb] 247)).alloc (.cells (N12 8 op s r t (.slice (some ⟨g,o,none⟩) 2 c)) 57)) wx→WB wx w0.heap.size wb (y++xa) d (max m (d+da))→Calls Tryz.prog 151 #[ptr wb,.string (opTxt op)] wx fun e w'=>e=.returned (.tuple #[.int .i64 (opTxt op).size,.nilIface])∧WB w' w0.heap.size wb (y++xa++opT op) d (max m (d+da))∧Kw w0.heap.size wb ((w.alloc (.cells #[ptr wb] 247)).alloc (.cells (N12 8 op s r t (.slice (some ⟨g,o,none⟩) 2 c)) 57)) w'):=fun wx hk hWx=>by
  have hsx:=(hb2.trans hk.b).size
  refine (write_any w0.heap.size wb _ d _ (opTxt op) wx hWx (by simp at hlen ⊢;omega) hsx).mono ?_
  rintro e w' ⟨rfl,q1,q2⟩
  rw [hot.1] at q1
  exact⟨rfl,q1,hk.trans q2⟩
 have HBB:Hid (∀ wx,Kw w0.heap.size wb ((w.alloc (.cells #[ptr wb] 247)).alloc (.cells (N12 8 op s r t (.slice (some ⟨g,o,none⟩) 2 c)) 57)) wx→WB wx w0.heap.size wb (y++xa++opT op) d (max m (d+da))→Calls Tryz.prog 183 #[ptr wb,NV k2 n2 s2 r2a r2b v2,.int .i64 (IntKind.i64.wrap (((lev op:Nat):Int)+1))] wx fun e w'=>e=.returned (.tuple #[])∧WB w' w0.heap.size wb (y++xa++opT op++xb) d (max (max m (d+da)) (d+db))∧Kw w0.heap.size wb ((w.alloc (.cells #[ptr wb] 247)).alloc (.cells (N12 8 op s r t (.slice (some ⟨g,o,none⟩) 2 c)) 57)) w'):=fun wx hk hWx=>by
  rw [show IntKind.i64.wrap (((lev op:Nat):Int)+1)=((lev op:Nat):Int)+1 from Go.IntWalk.i64_in _ (by omega)]
  have:=hOb wx wb _ d _ (hb2.trans hk.b) hWx (by omega) (by omega) (by simp at hlen ⊢;omega)
  rw [show ((lev op+1:Nat):Int)=((lev op:Nat):Int)+1 from by omega] at this
  refine this.mono ?_
  rintro e w' ⟨rfl,q1,q2⟩
  exact⟨rfl,q1,hk.trans q2⟩
 have HK:Hid (Kw w0.heap.size wb w ((w.alloc (.cells #[ptr wb] 247)).alloc (.cells (N12 8 op s r t (.slice (some ⟨g,o,none⟩) 2 c)) 57))):=kW2
 have hk0:Kw w0.heap.size wb ((w.alloc (.cells #[ptr wb] 247)).alloc (.cells (N12 8 op s r t (.slice (some ⟨g,o,none⟩) 2 c)) 57)) ((w.alloc (.cells #[ptr wb] 247)).alloc (.cells (N12 8 op s r t (.slice (some ⟨g,o,none⟩) 2 c)) 57)).drew:=(Kw.refl _ _ _).drew
 have HDR:Hid (∀ wx,Kw w0.heap.size wb ((w.alloc (.cells #[ptr wb] 247)).alloc (.cells (N12 8 op s r t (.slice (some ⟨g,o,none⟩) 2 c)) 57)) wx→Kw w0.heap.size wb ((w.alloc (.cells #[ptr wb] 247)).alloc (.cells (N12 8 op s r t (.slice (some ⟨g,o,none⟩) 2 c)) 57)) wx.drew):=fun wx h=>h.drew
 have hWd:=hW2.drew
 clear hE hEw hE2 hW hW2 hp2 hn2 hb hb2 hka hkb hOa hOb hot hlv kW2 hg hw1 hw2 KB KC KE
 go_enter Tryz.func152,Tryz.ntmps152
 go_wp2_with fail
 clear a0 a1 a2 a3 a4 a5 a6 a7 a8 a9 a10 a11 af p0 hcell hcell0
 generalize (w.alloc (.cells #[ptr wb] 247)).alloc _=w2 at *
 go_region_held3 (fun wx=>wx.cell? ⟨w.heap.size,0,none⟩=some (ptr wb)∧wx.cell? ⟨w.heap.size+1,11,none⟩=some (.slice (some ⟨g,o,none⟩) 2 c)∧wx.cell? ⟨g,o,none⟩=some (.int .i64 k1)∧wx.cell? ⟨g,o+1,none⟩=some (.int .i64 n1)∧wx.cell? ⟨g,o+2,none⟩=some (.string s1)∧wx.cell? ⟨g,o+3,none⟩=some (.int .i64 r1a.c)∧wx.cell? ⟨g,o+4,none⟩=some (.int .i64 r1a.r)∧wx.cell? ⟨g,o+5,none⟩=some (.bool r1a.fc)∧wx.cell? ⟨g,o+6,none⟩=some (.bool r1a.fr)∧wx.cell? ⟨g,o+7,none⟩=some (.int .i64 r1b.c)∧wx.cell? ⟨g,o+8,none⟩=some (.int .i64 r1b.r)∧wx.cell? ⟨g,o+9,none⟩=some (.bool r1b.fc)∧wx.cell? ⟨g,o+10,none⟩=some (.bool r1b.fr)∧wx.cell? ⟨g,o+11,none⟩=some (v1)) (first | exact K7.out _ hk0 | exact K7.out _ k4) (first | (go_at_call 183;refine (HA.out _ hk0 hWd).mono ?_;rintro e w4 ⟨rfl,h4,k4⟩))
 have k4d:=HDR.out _ k4
 have h4d:=h4.drew
 clear K7 HA hk0 hWd h4 k4
 go_wp2_with fail
 go_region_held3 (fun wx=>wx.cell? ⟨w.heap.size,0,none⟩=some (ptr wb)∧wx.cell? ⟨w.heap.size+1,1,none⟩=some (.int .i64 op)∧wx.cell? ⟨1,op*2,none⟩=some (.string (opTxt op))) (first | exact K8.out _ k4d | exact K8.out _ k5) (first | (go_at_call 151;with_reducible refine (HO.out _ k4d h4d).mono ?_;rintro e w5 ⟨rfl,h5,k5⟩))
 have k5d:=HDR.out _ k5
 have h5d:=h5.drew
 clear K8 HO k4d h4d h5 k5
 go_wp2_with fail
 go_region_held3 (fun wx=>wx.cell? ⟨w.heap.size,0,none⟩=some (ptr wb)∧wx.cell? ⟨w.heap.size+1,11,none⟩=some (.slice (some ⟨g,o,none⟩) 2 c)∧wx.cell? ⟨g,o+12,none⟩=some (.int .i64 k2)∧wx.cell? ⟨g,o+12+1,none⟩=some (.int .i64 n2)∧wx.cell? ⟨g,o+12+2,none⟩=some (.string s2)∧wx.cell? ⟨g,o+12+3,none⟩=some (.int .i64 r2a.c)∧wx.cell? ⟨g,o+12+4,none⟩=some (.int .i64 r2a.r)∧wx.cell? ⟨g,o+12+5,none⟩=some (.bool r2a.fc)∧wx.cell? ⟨g,o+12+6,none⟩=some (.bool r2a.fr)∧wx.cell? ⟨g,o+12+7,none⟩=some (.int .i64 r2b.c)∧wx.cell? ⟨g,o+12+8,none⟩=some (.int .i64 r2b.r)∧wx.cell? ⟨g,o+12+9,none⟩=some (.bool r2b.fc)∧wx.cell? ⟨g,o+12+10,none⟩=some (.bool r2b.fr)∧wx.cell? ⟨g,o+12+11,none⟩=some (v2)∧wx.cell? ⟨g,o+13,none⟩=some (.int .i64 n2)∧wx.cell? ⟨g,o+14,none⟩=some (.string s2)∧wx.cell? ⟨g,o+15,none⟩=some (.int .i64 r2a.c)∧wx.cell? ⟨g,o+16,none⟩=some (.int .i64 r2a.r)∧wx.cell? ⟨g,o+17,none⟩=some (.bool r2a.fc)∧wx.cell? ⟨g,o+18,none⟩=some (.bool r2a.fr)∧wx.cell? ⟨g,o+19,none⟩=some (.int .i64 r2b.c)∧wx.cell? ⟨g,o+20,none⟩=some (.int .i64 r2b.r)∧wx.cell? ⟨g,o+21,none⟩=some (.bool r2b.fc)∧wx.cell? ⟨g,o+22,none⟩=some (.bool r2b.fr)∧wx.cell? ⟨g,o+23,none⟩=some (v2)) (first | exact K9.out _ k5d | exact K9.out _ k6) (first | (go_at_call 183;with_reducible refine (HBB.out _ k5d h5d).mono ?_;rintro e w6 ⟨rfl,h6,k6⟩))
 go_wp2_with fail
 go_end0
 refine⟨rfl,?_,HK.out.trans k6⟩
 rw [show max m (d+max da db)=max (max m (d+da)) (d+db) from by omega]
 simpa using h6
end Go.Proofs.YtgifkepklnhddaaGreatDoor.fm
namespace Go.Proofs.YtgifkepklnhddaaGreatDoor.fm
open Go.RowKit
theorem commas_app (a:List (List UInt8)) (x:List UInt8):commas (a++[x])=if a.length=0 then x else commas a++44::x:=by
 cases a with
 | nil=>rfl
 | cons y ys=>rw [List.cons_append,commas_cons,commas_cons];simp
theorem commas_le (a b:List (List UInt8)):(commas a).length≤(commas (a++b)).length:=by
 cases a with
 | nil=>simp [commas]
 | cons y ys=>rw [List.cons_append,commas_cons,commas_cons];simp
theorem commas_take {xs:List (List UInt8)} {j:Nat} {x:List UInt8} (h:xs[j]?=some x):commas (xs.take (j+1))=(if j=0 then x else commas (xs.take j)++44::x)∧(commas (xs.take (j+1))).length≤(commas xs).length:=by
 have hj:=(List.getElem?_eq_some_iff.1 h).1
 refine⟨?_,?_⟩
 ·rw [List.take_add_one,h]
  show commas (xs.take j++[x])=_
  rw [commas_app,List.length_take,show min j xs.length=j from by omega]
 ·have:=commas_le (xs.take (j+1)) (xs.drop (j+1))
  rwa [List.take_append_drop] at this
theorem fold_take {ds:List Nat} {j d:Nat} (h:ds[j]?=some d):(ds.take (j+1)).foldr max 0=max ((ds.take j).foldr max 0) d:=by
 rw [List.take_add_one,h]
 exact foldr_snoc _ _
theorem fold_take_le (ds:List Nat) (j:Nat):(ds.take j).foldr max 0≤ds.foldr max 0:=by
 induction ds generalizing j with
 | nil=>simp
 | cons a ds ih=>cases j with
  | zero=>simp
  | succ j=>have:=ih j;simp only [List.take_succ_cons,List.foldr_cons];omega
set_option maxHeartbeats 4000000 in
set_option maxRecDepth 100000 in
theorem args_any (w0:World) {P:Nat→Prop} {p:Option Addr} {q c:Nat} {us:List Value} {ts:List T} {xs:List (List UInt8)} {ds:List Nat} (hk:Kids w0 P p q c us) (hl:us.length=ts.length) (hs:∀ (i:Nat) u t',us[i]?=some u→ts[i]?=some t'→Nd w0 P u t') (hx:xs.length=ts.length) (hd:ds.length=ts.length)
  (hN:∀ (i:Nat) u x e,us[i]?=some u→xs[i]?=some x→ds[i]?=some e→NodeOK w0 u x e) (hq:q≤9223372036854775807) (w:World) (wb:Nat) (y:List UInt8) (d m:Nat) (hb:Below w0.heap.size w0 w) (hW:WB w w0.heap.size wb y d m) (hdm:d≤m) (hm:m≤500000∧d+ds.foldr max 0≤500000) (hlen:y.length+(commas xs).length≤1000000) :
  Calls Tryz.prog 185 #[ptr wb,.slice p q c] w fun e w'=>e=.returned (.tuple #[])∧WB w' w0.heap.size wb (y++commas xs) d (max m (d+ds.foldr max 0))∧Kw w0.heap.size wb w w':=by
 have hqu:q=us.length:=hk.1
 have HK:Hid (Kids w0 P p q c us):=hk
 have HL:Hid (us.length=ts.length):=hl
 have HS:Hid (∀ (i:Nat) u t',us[i]?=some u→ts[i]?=some t'→Nd w0 P u t'):=hs
 have HN:Hid (∀ (i:Nat) u x e,us[i]?=some u→xs[i]?=some x→ds[i]?=some e→NodeOK w0 u x e):=hN
 have HX:Hid (xs.length=q∧ds.length=q):=⟨by omega,by omega⟩
 have HB:Hid (Below w0.heap.size w0 w):=hb
 have HM:Hid ((m≤500000∧d+ds.foldr max 0≤500000)∧y.length+(commas xs).length≤1000000):=⟨hm,hlen⟩
 have hs0:=hb.size
 have h0:WB w w0.heap.size wb (y++commas (xs.take 0)) d (max m (d+(ds.take 0).foldr max 0)):=by
  have:max m d=m:=by omega
  simpa [commas,this] using hW
 clear hk hl hs hN hx hd hm hlen hW hb hqu
 go_enter Tryz.func185,Tryz.ntmps185
 go_wp2_with fail
 go_loopw [4,5,8] (fun _ _ i wr=>∃ j:Nat,i=.int .i64 j∧j≤q∧WB wr w0.heap.size wb (y++commas (xs.take j)) d (max m (d+(ds.take j).foldr max 0))∧Kw w0.heap.size wb w wr) (fun _ _ i _=>q - (intOf i).toNat)
 case atStart=>exact⟨0,rfl,Nat.zero_le _,h0,Kw.refl _ _ _⟩
 case round =>
  clear h0
  obtain⟨j,rfl,hj,hWr,hkr⟩:=hrel
  by_cases hlt:j<q
  ·obtain⟨g,o,u,t1,rfl,hg,hu,ht1,hc⟩:=kid_at HK.out HL.out HS.out j hlt
   have hNd:=HS.out j u t1 hu ht1
   obtain⟨xj,hxj⟩:∃ xj,xs[j]?=some xj:=⟨_,List.getElem?_eq_getElem (by have:=HX.out.1;omega)⟩
   obtain⟨dj,hdj⟩:∃ dj,ds[j]?=some dj:=⟨_,List.getElem?_eq_getElem (by have:=HX.out.2;omega)⟩
   have hbr:=HB.out.trans hkr.b
   have hsr:=hbr.size
   have e1:∀ jj x,u.cells.toList[jj]?=some x→wr.cell? ⟨g,o+j*12+jj,none⟩=some x:=fun jj x hx=>by rw [hbr.cell (p:=⟨g,_,none⟩) hg];exact hc jj x hx
   have hct:=commas_take hxj
   have hft:=fold_take hdj
   have hfl:=fold_take_le ds (j+1)
   have hfl0:=fold_take_le ds j
   obtain⟨X,hX⟩:∃ X,commas (xs.take j)=X:=⟨_,rfl⟩
   obtain⟨Y,hY⟩:∃ Y,commas (xs.take (j+1))=Y:=⟨_,rfl⟩
   obtain⟨F,hF⟩:∃ F,(ds.take j).foldr max 0=F:=⟨_,rfl⟩
   obtain⟨G,hG⟩:∃ G,(ds.take (j+1)).foldr max 0=G:=⟨_,rfl⟩
   have HRW:Hid ((commas (xs.take (j+1))=Y)∧(ds.take (j+1)).foldr max 0=G):=⟨hY,hG⟩
   rw [hX,hY] at hct
   rw [hF,hG] at hft
   rw [hG] at hfl
   rw [hF] at hfl0
   rw [hX,hF] at hWr
   have hMM:=HM.out
   have HNJ:Hid (∀ wx z,Kw w0.heap.size wb w wx→WB wx w0.heap.size wb z d (max m (d+F))→z.length+xj.length≤1000000→Calls Tryz.prog 152 #[ptr wb,u] wx fun e w'=>e=.returned (.tuple #[])∧WB w' w0.heap.size wb (z++xj) d (max m (d+G))∧Kw w0.heap.size wb w w'):=fun wx z hkx hWx hz=>by
    refine (HN.out j u _ _ hu hxj hdj wx wb z d _ (HB.out.trans hkx.b) hWx (by omega) (by omega) hz).mono ?_
    rintro e w' ⟨rfl,q1,q2⟩
    refine⟨rfl,?_,hkx.trans q2⟩
    rw [show max m (d+G)=max (max m (d+F)) (d+dj) from by omega]
    exact q1
   have HLB:Hid (y.length+Y.length≤1000000):=by unfold Hid;omega
   have HCT:Hid (Y=if j=0 then xj else X++44::xj):=hct.1
   have HX0:Hid (j=0→X=[]):=fun e=>by subst e;rw [← hX];simp [commas]
   clear HN hct hft hfl hfl0 hMM hX hY hF hG hc
   cases hNd with
   | @mk k1 n1 s1 ra rb p1 m1 q1 us1 ts1 _ _ _ =>
   have hlt':(j:Int)<(q:Int):=by omega
   have hj':(0:Int)≤(j:Int):=by omega
   have x0:=e1 0 _ rfl
   have x1:=e1 1 _ rfl
   have x2:=e1 2 _ rfl
   have x3:=e1 3 _ rfl
   have x4:=e1 4 _ rfl
   have x5:=e1 5 _ rfl
   have x6:=e1 6 _ rfl
   have x7:=e1 7 _ rfl
   have x8:=e1 8 _ rfl
   have x9:=e1 9 _ rfl
   have x10:=e1 10 _ rfl
   have x11:=e1 11 _ rfl
   simp only [Nat.add_zero] at x0
   have hWa:=hWr.alloc (.cells (N12 k1 n1 s1 ra rb (.slice p1 m1 q1)) 57)
   have hka:=hkr.alloc hsr (.cells (N12 k1 n1 s1 ra rb (.slice p1 m1 q1)) 57)
   have hnb:=blk_new wr (.cells (N12 k1 n1 s1 ra rb (.slice p1 m1 q1)) 57)
   have hwl:=hWr.lt
   obtain⟨⟨a0,a1,a2,a3,a4,a5,a6,a7,a8,a9,a10,a11⟩,af⟩:=cells12 hnb
   by_cases hz:j=0
   ·subst hz
    have HE:Hid (X=[]∧Y=xj):=⟨HX0.out rfl,by have:=HCT.out;rwa [if_pos rfl] at this⟩
    clear HX0 HCT
    simp only [Nat.zero_mul,Nat.add_zero] at x0 x1 x2 x3 x4 x5 x6 x7 x8 x9 x10 x11
    go_wp2_with fail
    refine (HNJ.out _ _ hka hWa (by have:=HLB.out;rw [HE.out.2] at this;rw [HE.out.1];simp;omega)).mono ?_
    rintro e w4 ⟨rfl,h4,k4⟩
    go_wp2_with fail
    refine⟨⟨0+1,by simp,hlt,?_,k4⟩,by simp [intOf];omega⟩
    rw [HRW.out.1,HRW.out.2,HE.out.2]
    rw [HE.out.1] at h4
    simpa using h4
   ·have hp:(j:Int) > 0:=by omega
    have HZ:Hid (Y=X++44::xj):=by have:=HCT.out;rwa [if_neg hz] at this
    clear hz HCT HX0
    go_wp2_with fail
    have hsa:=(HB.out.trans hka.b).size
    refine (write_any w0.heap.size wb _ d _ ⟨#[44]⟩ _ hWa (by have:=HLB.out;rw [HZ.out] at this;simp at this ⊢;have e1:(⟨#[44]⟩:ByteArray).size=1:=rfl;omega) hsa).mono ?_
    rintro e w3 ⟨rfl,h3,k3⟩
    have hn3:=k3.blk hnb (by decide) (by omega)
    clear a0 a1 a2 a3 a4 a5 a6 a7 a8 a9 a10 a11 af
    obtain⟨⟨a0,a1,a2,a3,a4,a5,a6,a7,a8,a9,a10,a11⟩,af⟩:=cells12 hn3
    have hk3:=hka.trans k3
    go_wp2_with fail
    refine (HNJ.out _ _ hk3 h3 (by have:=HLB.out;rw [HZ.out] at this;simp at this ⊢;omega)).mono ?_
    rintro e w4 ⟨rfl,h4,k4⟩
    go_wp2_with fail
    refine⟨⟨j+1,by simp,hlt,?_,k4⟩,by simp [intOf];omega⟩
    rw [HRW.out.1,HRW.out.2,HZ.out]
    simpa using h4
  ·have hkn:j=q:=by omega
   subst hkn
   have hxx:=HX.out
   have t1:xs.take j=xs:=List.take_of_length_le (by omega)
   have t2:ds.take j=ds:=List.take_of_length_le (by omega)
   have HF:Hid (WB wr w0.heap.size wb (y++commas xs) d (max m (d+ds.foldr max 0))):=by rw [t1,t2] at hWr;exact hWr
   clear t1 t2 hWr
   go_wp2_with fail
   go_end0
   exact⟨rfl,HF.out,hkr⟩
end Go.Proofs.YtgifkepklnhddaaGreatDoor.fm

import Derived.Test.YtgifkepklnhddaaGreatDoorQ7Ja
import Derived.Test.YtgifkepklnhddaaGreatDoorQ7Fv
import Derived.Test.YtgifkepklnhddaaGreatDoorQ7Fe4
import Derived.Test.YtgifkepklnhddaaGreatDoorQ7Num
import Derived.Defers
import Derived.Recover
import Derived.Stop.Asserts
namespace Go.Proofs.YtgifkepklnhddaaGreatDoor.fm
open Go.RowKit
theorem clos72 (wb pb nb:Nat) (k n:Int) (s:ByteArray) (r t:Rf) (p:Option Addr) (q c:Nat) (w:World) (hp:w.heap[pb]?=some (.cells #[ptr wb] 247 (0,0))) (hn:w.heap[nb]?=some (.cells (N12 k n s r t (.slice p q c)) 57 (0,0))) (Q:World→Prop)
  (h:Calls Tryz.prog 185 #[ptr wb,.slice p q c] w fun e w'=>e=.returned (.tuple #[])∧Q w'):Calls Tryz.prog 184 #[ptr pb,ptr nb] w fun e w'=>e=.returned (.tuple #[])∧Q w':=by
 obtain⟨p0,p1⟩:=cells1 hp
 obtain⟨⟨a0,a1,a2,a3,a4,a5,a6,a7,a8,a9,a10,a11⟩,af⟩:=cells12 hn
 have HH:Hid (Calls Tryz.prog 185 #[ptr wb,.slice p q c] w fun e w'=>e=.returned (.tuple #[])∧Q w'):=h
 clear h
 go_enter Tryz.func184,Tryz.ntmps184
 go_wp2_with fail
 refine HH.out.mono ?_
 rintro e w1 ⟨rfl,hq⟩
 have HQ:Hid (Q w1):=hq
 clear hq
 go_wp2_with fail
 go_end0
 exact⟨rfl,HQ.out⟩
set_option maxHeartbeats 4000000 in
set_option maxRecDepth 100000 in
theorem node_call (w0:World) (name:ByteArray) (hnm:name.size≤10) (n:Int) (r t:Rf) (p:Option Addr) (q c:Nat) (xs:List (List UInt8)) (D:Nat)
  (hA:∀ (w:World) (wb:Nat) (y:List UInt8) (d m:Nat),Below w0.heap.size w0 w→WB w w0.heap.size wb y d m→d≤m→m≤500000∧d+D≤500000→y.length+(commas xs).length≤1000000→Calls Tryz.prog 185 #[ptr wb,.slice p q c] w fun e w'=>e=.returned (.tuple #[])∧WB w' w0.heap.size wb (y++commas xs) d (max m (d+D))∧Kw w0.heap.size wb w w') :
  NodeOK w0 (NV 9 n name r t (.slice p q c)) (name.data.toList++40::(commas xs++[41])) (D+1):=by
 intro w wb y d m hb hW hdm hm hlen
 have hs0:=hb.size
 have hlt:=hW.lt
 have hW2:=(hW.alloc (.cells #[ptr wb] 247)).alloc (.cells (N12 9 n name r t (.slice p q c)) 57)
 have kW2:Kw w0.heap.size wb w ((w.alloc (.cells #[ptr wb] 247)).alloc (.cells (N12 9 n name r t (.slice p q c)) 57)):=((Kw.refl _ _ _).alloc hs0 _).alloc (by simp;omega) _
 have hp2:((w.alloc (.cells #[ptr wb] 247)).alloc (.cells (N12 9 n name r t (.slice p q c)) 57)).heap[w.heap.size]?=some (.cells #[ptr wb] 247 (0,0)):=by
  rw [Below.heap_alloc _ _ _ (by simp)];exact blk_new _ _
 have hn2:((w.alloc (.cells #[ptr wb] 247)).alloc (.cells (N12 9 n name r t (.slice p q c)) 57)).heap[w.heap.size+1]?=some (.cells (N12 9 n name r t (.slice p q c)) 57 (0,0)):=by
  have:=blk_new (w.alloc (.cells #[ptr wb] 247)) (.cells (N12 9 n name r t (.slice p q c)) 57)
  simpa using this
 have hd:(name++⟨#[40]⟩:ByteArray).data.toList=name.data.toList++[40]:=by simp [ByteArray.data_append]
 have hz:(name++⟨#[40]⟩:ByteArray).size=name.size+1:=by rw [ByteArray.size_append];rfl
 have hne:name.data.toList.length=name.size:=by simp
 simp only [List.length_append,List.length_cons,List.length_nil] at hlen
 have HD:=deeper72 w0.heap.size wb w.heap.size (w.heap.size+1) y (commas xs) (name++⟨#[40]⟩) ⟨#[41]⟩ d m D _ hW2 hdm (by omega) (by have e2:(⟨#[41]⟩:ByteArray).size=1:=rfl;omega) (by simp;omega) (fun w1 hW1 hk1=>by
  have hp1:=hk1.blk hp2 (by decide) (by omega)
  have hn1:=hk1.blk hn2 (by decide) (by omega)
  have hb1:=(hb.trans kW2.b).trans hk1.b
  exact clos72 wb _ _ 9 n name r t p q c w1 hp1 hn1
   (fun w'=>WB w' w0.heap.size wb (y++(name++⟨#[40]⟩:ByteArray).data.toList++commas xs) (d+1) (max (max m (d+1)) (d+1+D))∧Kw w0.heap.size wb w1 w')
   (hA w1 wb _ (d+1) (max m (d+1)) hb1 hW1 (by omega) (by omega) (by rw [hd];simp only [List.length_append,List.length_cons,List.length_nil];omega)))
 rw [hd] at HD
 have q1:¬ 9223372036854775807<name.size+(⟨#[40]⟩:ByteArray).size:=by have e2:(⟨#[40]⟩:ByteArray).size=1:=rfl;omega
 have q2:¬ 9223372036854775807<name.size+1:=by omega
 have HDD:Hid (Calls Tryz.prog 181 #[ptr wb,.string (name++⟨#[40]⟩),.func (.func 184) #[] #[ptr w.heap.size,ptr (w.heap.size+1)],.string ⟨#[41]⟩] ((w.alloc (.cells #[ptr wb] 247)).alloc (.cells (N12 9 n name r t (.slice p q c)) 57)) fun e w'=>e=.returned (.tuple #[])∧WB w' w0.heap.size wb (y++(name.data.toList++[40])++commas xs++(⟨#[41]⟩:ByteArray).data.toList) d (max m (d+1+D))∧Kw w0.heap.size wb ((w.alloc (.cells #[ptr wb] 247)).alloc (.cells (N12 9 n name r t (.slice p q c)) 57)) w'):=HD
 have hmf:∀ (fn:Fn) (first cap:Array Value) (w:World),(Instr.makeFunc fn first cap).run Tryz.prog w=.ok (.func fn first cap) w:=fun _ _ _ _=>rfl
 have HK:Hid (Kw w0.heap.size wb w ((w.alloc (.cells #[ptr wb] 247)).alloc (.cells (N12 9 n name r t (.slice p q c)) 57))):=kW2
 obtain⟨⟨a0,a1,a2,a3,a4,a5,a6,a7,a8,a9,a10,a11⟩,af⟩:=cells12 hn2
 clear HD hA kW2 hW hW2 hp2 hn2 hb hd hz hne
 go_enter Tryz.func152,Tryz.ntmps152
 go_wp2_with fail
 refine HDD.out.mono ?_
 rintro e w3 ⟨rfl,h3,k3⟩
 go_wp2_with fail
 go_end0
 refine⟨rfl,?_,HK.out.trans k3⟩
 rw [show d+(D+1)=d+1+D from by omega]
 simpa using h3
theorem ok_kid {k n:Int} {s:ByteArray} {r t:Rf} {ts:List T} (h:Ok (.nd k n s r t ts)) {i:Nat} {u:T} (hu:ts[i]?=some u):Ok u:=by
 cases h with
 | mk _ _ hs=>exact hs i u hu
theorem node_any (w0:World) (hE:EnvW w0) {t:T} {x:List UInt8} {dp:Nat} (h:W ink t x dp):∀ {P:Nat→Prop} {v:Value},Nd w0 P v t→Ok t→NodeOK w0 v x dp:=by
 induction h with
 | num h0 h1=>intro P v hN _;cases hN;exact node_leaf w0 hE (.num (K:=ink) h0 h1) (by decide) (by decide) (by decide) _ _ _
 | text h=>intro P v hN _;cases hN;exact node_leaf w0 hE (.text (K:=ink) h) (by decide) (by decide) (by decide) _ _ _
 | truth h=>intro P v hN _;cases hN;exact node_leaf w0 hE (.truth (K:=ink) h) (by decide) (by decide) (by decide) _ _ _
 | bad h h6=>intro P v hN _;cases hN;exact node_leaf w0 hE (.bad (K:=ink) h h6) (by decide) (by decide) (by decide) _ _ _
 | ref h=>intro P v hN _;cases hN;exact node_leaf w0 hE (.ref (K:=ink) h) (by decide) (by decide) (by decide) _ _ _
 | box h h2=>intro P v hN _;cases hN;exact node_leaf w0 hE (.box (K:=ink) h h2) (by decide) (by decide) (by decide) _ _ _
 | @neg a x d ha hw ih =>
  intro P v hN hO
  cases hN with
  | @mk _ _ _ _ _ p m c us _ hk hl hs =>
   obtain rfl:m=1:=by rw [hk.1,hl];rfl
   obtain⟨g,o,u,t1,rfl,hg,hu,ht1,hc⟩:=kid_at hk hl hs 0 (by omega)
   obtain rfl:a=t1:=by simpa using ht1
   have hNu:=hs 0 u a hu ht1
   have hnode:=ih hNu (ok_kid hO ht1)
   have hopd:=opd_any w0 hE hNu hw hnode 5
   cases hNu with
   | mk _ _ _=>exact node_neg w0 g o c _ _ _ _ _ _ _ _ _ _ _ _ hg (fun j x hx=>by have:=hc j x hx;simpa using this) hopd
 | @two op a b x y d e h1 h11 ha hb hx hy ihx ihy =>
  intro P v hN hO
  cases hN with
  | @mk _ _ _ _ _ p m c us _ hk hl hs =>
   obtain rfl:m=2:=by rw [hk.1,hl];rfl
   obtain⟨g,o,u,t1,rfl,hg,hu,ht1,hc⟩:=kid_at hk hl hs 0 (by omega)
   obtain⟨g',o',u',t2,hp',hg',hu',ht2,hc'⟩:=kid_at hk hl hs 1 (by omega)
   obtain⟨rfl,rfl⟩:g=g'∧o=o':=by simpa using hp'
   obtain rfl:a=t1:=by simpa using ht1
   obtain rfl:b=t2:=by simpa using ht2
   have hNu:=hs 0 u a hu ht1
   have hNv:=hs 1 u' b hu' ht2
   have o1:=opd_any w0 hE hNu hx (ihx hNu (ok_kid hO ht1)) (lev op)
   have o2:=opd_any w0 hE hNv hy (ihy hNv (ok_kid hO ht2)) (lev op+1)
   cases hNu with
   | mk _ _ _ =>
    cases hNv with
    | mk _ _ _=>exact node_two w0 hE op h1 h11 g o c _ _ _ _ _ _ _ _ _ _ _ _ _ _ _ _ _ _ _ hg (fun j x hx=>by have:=hc j x hx;simpa using this) (fun j x hx=>by have:=hc' j x hx;simpa using this) o1 o2
 | @call name ts xs ds hn hx hd h ih =>
  intro P v hN hO
  cases hN with
  | @mk _ _ _ _ _ p m c us _ hk hl hs =>
   have hm:m=ts.length:=by rw [hk.1,hl]
   have hO2:ts.length≤9223372036854775807:=by cases hO with | mk _ h2 _=>exact h2
   have hnm:name.size≤10:=by
    unfold isNm at hn
    rw [Bool.and_eq_true,Bool.and_eq_true,decide_eq_true_eq,decide_eq_true_eq] at hn
    exact hn.1.2
   exact node_call w0 name hnm 0 _ _ p m c xs _ (fun w wb y d m' q1 q2 q3 q4 q5=>args_any w0 hk hl hs hx hd (fun i u x e g1 g2 g3=>by
    have hi:i<ts.length:=by rw [← hl];exact (List.getElem?_eq_some_iff.1 g1).1
    have g4:ts[i]?=some ts[i]:=List.getElem?_eq_getElem hi
    exact ih i _ x e g4 g2 g3 (hs i u _ g1 g4) (ok_kid hO g4)) (by omega) w wb y d m' q1 q2 q3 q4 q5)
end Go.Proofs.YtgifkepklnhddaaGreatDoor.fm
namespace Go.Proofs.YtgifkepklnhddaaGreatDoor.fm
open Go.RowKit
set_option maxHeartbeats 4000000 in
set_option maxRecDepth 100000 in
theorem write_formula (w0:World) (hE:EnvW w0) {P:Nat→Prop} {k n:Int} {s:ByteArray} {r t:Rf} {p:Option Addr} {q c:Nat} {T0:T} {x:List UInt8} {dp:Nat} (hW:W ink T0 x dp) (hN:Nd w0 P (NV k n s r t (.slice p q c)) T0) (hO:Ok T0) (hd:dp≤500000) (hx:x.length≤900000) :
  Calls Tryz.prog 130 #[NV k n s r t (.slice p q c)] w0 fun e w'=>e=.returned (.tuple #[.string ⟨(61::x).toArray⟩,.int .i64 (dp:Nat)])∧Below w0.heap.size w0 w':=by
 have hnode:=node_any w0 hE hW hN hO
 clear hW hN hO hE
 have hb0:Below w0.heap.size w0 (w0.alloc (.cells (N12 k n s r t (.slice p q c)) 57)):=(Below.refl _ _).alloc (Nat.le_refl _) _
 have hwb:((w0.alloc (.cells (N12 k n s r t (.slice p q c)) 57)).alloc (.cells #[.pointer none,.slice none 0 0,.int .i64 0,.int .i64 0] 207)).heap[w0.heap.size+1]?=some (.cells #[.pointer none,.slice none 0 0,.int .i64 0,.int .i64 0] 207 (0,0)):=by
  have:=blk_new (w0.alloc (.cells (N12 k n s r t (.slice p q c)) 57)) (.cells #[.pointer none,.slice none 0 0,.int .i64 0,.int .i64 0] 207)
  simpa using this
 have hW0:WB ((w0.alloc (.cells (N12 k n s r t (.slice p q c)) 57)).alloc (.cells #[.pointer none,.slice none 0 0,.int .i64 0,.int .i64 0] 207)) w0.heap.size (w0.heap.size+1) [] 0 0 :=
  ⟨by omega,_,_,.inl rfl,hwb,World.ownsRowF_nil _ _ _ _⟩
 have hB0:Below w0.heap.size w0 ((w0.alloc (.cells (N12 k n s r t (.slice p q c)) 57)).alloc (.cells #[.pointer none,.slice none 0 0,.int .i64 0,.int .i64 0] 207)):=hb0.alloc (by simp) _
 have hn0:((w0.alloc (.cells (N12 k n s r t (.slice p q c)) 57)).alloc (.cells #[.pointer none,.slice none 0 0,.int .i64 0,.int .i64 0] 207)).heap[w0.heap.size]?=some (.cells (N12 k n s r t (.slice p q c)) 57 (0,0)):=by
  rw [Below.heap_alloc _ _ _ (by simp)];exact blk_new _ _
 have HW1:=write_any w0.heap.size (w0.heap.size+1) [] 0 0 ⟨#[61]⟩ _ hW0 (by decide) (by simp;omega)
 clear hb0 hwb hW0
 go_enter Tryz.func130,Tryz.ntmps130
 go_wp2_with fail
 refine HW1.mono ?_
 clear HW1
 rintro e w2 ⟨rfl,h2,k2⟩
 have hn2:=k2.blk hn0 (by decide) (by omega)
 have hB2:=hB0.trans k2.b
 obtain⟨⟨a0,a1,a2,a3,a4,a5,a6,a7,a8,a9,a10,a11⟩,af⟩:=cells12 hn2
 have HC:=hnode w2 (w0.heap.size+1) _ 0 0 hB2 h2 (by omega) (by omega) (by simp;omega)
 clear hnode hn0 hB0
 go_wp2_with fail
 refine HC.mono ?_
 clear HC
 rintro e w3 ⟨rfl,h3,k3⟩
 have hB3:=hB2.trans k3.b
 rw [show max 0 (0+dp)=dp from by omega,show ([]++(⟨#[61]⟩:ByteArray).data.toList++x)=61::x from rfl] at h3
 clear a0 a1 a2 a3 a4 a5 a6 a7 a8 a9 a10 a11 af hn2 h2 k2 k3 hB2
 have h3d:=h3.drew
 have c3:=h3d.cells.1.2
 have HS:Hid (Calls Tryz.prog 153 #[ptr (w0.heap.size+1)] w3.drew fun e w'=>e=.returned (.string ⟨(61::x).toArray⟩)∧w'.heap[w0.heap.size+1]?=w3.drew.heap[w0.heap.size+1]?∧Below w0.heap.size w3.drew w'):=string_any _ _ _ _ _ _ h3d (by simp)
 have KC:Hid (∀ wx:World,wx.heap[w0.heap.size+1]?=w3.drew.heap[w0.heap.size+1]?→wx.cell? ⟨w0.heap.size+1,3,none⟩=some (.int .i64 (dp:Nat))):=fun wx hx=>by
  rw [World.cell?_of_block hx];exact c3
 have HB3:Hid (Below w0.heap.size w0 w3.drew):=hB3.drew
 obtain⟨Z,hZ⟩:∃ Z:ByteArray,⟨(61::x).toArray⟩=Z:=⟨_,rfl⟩
 rw [hZ] at HS
 have HZ:Hid (⟨(61::x).toArray⟩=Z):=hZ
 clear hZ h3 h3d hB3
 go_wp2_with fail
 go_region_held3 (fun wx=>wx.cell? ⟨w0.heap.size+1,3,none⟩=some (.int .i64 (dp:Nat))) (first | exact KC.out _ rfl | exact KC.out _ q4) (first | (go_at_call 153;with_reducible refine HS.out.mono ?_;rintro e w4 ⟨rfl,q4,b4⟩))
 all_goals
  go_wp2_with fail
  go_ret2
  exact⟨by rw [HZ.out];rfl,HB3.out.trans b4⟩
end Go.Proofs.YtgifkepklnhddaaGreatDoor.fm
namespace Go.Proofs.YtgifkepklnhddaaGreatDoor.fm
open Go.RowKit
theorem commas_len:∀ (ts:List T) (xs:List (List UInt8)),xs.length=ts.length→(∀ (i:Nat) t x,ts[i]?=some t→xs[i]?=some x→x.length+2≤500*t.cnt)→(xs.flatMap (fun y=>44::y)).length≤500*cntL ts
 | [],[],_,_=>by simp
 | [],_::_,h,_=>by simp at h
 | _::_,[],h,_=>by simp at h
 | t::ts,x::xs,hl,h=>by
  have h0:=h 0 t x (by simp) (by simp)
  have h1:=commas_len ts xs (by simpa using hl) (fun i t x a b=>h (i+1) t x (by simpa using a) (by simpa using b))
  simp only [List.flatMap_cons,List.length_append,List.length_cons,cntL]
  omega
theorem commas_flat (xs:List (List UInt8)):(commas xs).length≤(xs.flatMap (fun y=>44::y)).length:=by
 cases xs with
 | nil=>simp [commas]
 | cons x xs=>rw [commas_cons];simp
theorem piece_le:∀ (xs:List (List UInt8)) (i:Nat) (x:List UInt8),xs[i]?=some x→x.length≤(commas xs).length
 | [],i,x,h=>by simp at h
 | y::ys,i,x,h=>by
  rw [commas_cons]
  cases i with
  | zero=>simp at h;subst h;simp
  | succ i =>
   have h1:=piece_le ys i x (by simpa using h)
   have h2:=commas_flat ys
   simp only [List.length_append];omega
theorem fold_le (ds:List Nat) (N:Nat) (h:∀ (i:Nat) d,ds[i]?=some d→d≤N):ds.foldr max 0≤N:=by
 induction ds with
 | nil=>simp
 | cons a ds ih =>
  have h0:=h 0 a (by simp)
  have h1:=ih (fun i d hd=>h (i+1) d (by simpa using hd))
  simp only [List.foldr_cons];omega
theorem len_le {t:T} {x:List UInt8} {dp:Nat} (h:W ink t x dp):x.length+2≤500*t.cnt∧dp≤x.length:=by
 induction h with
 | @num n h0 h1 =>
  have h2:(Lib.itoa n).length≤20:=by first | exact itoa_len n (by omega) h1 | exact Lib.itoa_len n (by omega) h1
  have h3:(ink.num n).length=(Lib.itoa n).length:=rfl
  simp only [T.cnt,cntL];omega
 | @text s hs =>
  have h1:=dbl_le s.data.toList
  have h2:s.data.toList.length=s.size:=by simp
  simp only [T.cnt,cntL,List.length_cons,List.length_append,List.length_nil];omega
 | @truth n h=>rcases h with rfl | rfl<;>simp [T.cnt,cntL,truT]
 | @bad n h h6 =>
  have hc:n=1∨n=2∨n=3∨n=4∨n=5∨n=6:=by omega
  rcases hc with rfl | rfl | rfl | rfl | rfl | rfl<;>simp [T.cnt,cntL,badT]
 | @ref r h =>
  have h1:=ref_size r h
  have h2:(⟨(ink.ref r).toArray⟩:ByteArray).size=(ink.ref r).length:=by show (ink.ref r).toArray.size=_;simp
  simp only [T.cnt,cntL];omega
 | @box r t h h2 =>
  have h1:=ref_size r h
  have h3:=ref_size t h2
  have h4:(⟨(ink.ref r).toArray⟩:ByteArray).size=(ink.ref r).length:=by show (ink.ref r).toArray.size=_;simp
  have h5:(⟨(ink.ref t).toArray⟩:ByteArray).size=(ink.ref t).length:=by show (ink.ref t).toArray.size=_;simp
  simp only [T.cnt,cntL,List.length_append,List.length_cons];omega
 | @neg a x d ha h ih =>
  have h1:=brk_len 5 a x
  have h2:brd 5 a d≤(brk 5 a x).length:=by unfold brk brd;split<;>(try simp only [List.length_cons,List.length_append,List.length_nil])<;>omega
  simp only [T.cnt,cntL,List.length_cons];omega
 | @two op a b x y d e h1 h11 ha hb hx hy ihx ihy =>
  have q1:=brk_len (lev op) a x
  have q2:=brk_len (lev op+1) b y
  have q3:brd (lev op) a d≤(brk (lev op) a x).length:=by unfold brk brd;split<;>(try simp only [List.length_cons,List.length_append,List.length_nil])<;>omega
  have q4:brd (lev op+1) b e≤(brk (lev op+1) b y).length:=by unfold brk brd;split<;>(try simp only [List.length_cons,List.length_append,List.length_nil])<;>omega
  have q5:=(opTxt_T h1 h11)
  have q6:(opT op).length≤2:=by rw [← q5.1];have:=q5.2;simpa using this
  simp only [T.cnt,cntL,List.length_append];omega
 | @call name ts xs ds hn hx hd h ih =>
  have hnm:name.size≤10:=by
   unfold isNm at hn
   rw [Bool.and_eq_true,Bool.and_eq_true,decide_eq_true_eq,decide_eq_true_eq] at hn
   exact hn.1.2
  have h0:name.data.toList.length=name.size:=by simp
  have hds:∀ (i:Nat) t x,ts[i]?=some t→xs[i]?=some x→∃ e,ds[i]?=some e:=fun i t x a _=>⟨_,List.getElem?_eq_getElem (by rw [hd];exact (List.getElem?_eq_some_iff.1 a).1)⟩
  have h1:=commas_len ts xs hx (fun i t x a b=>by obtain⟨e,he⟩:=hds i t x a b;exact (ih i t x e a b he).1)
  have h2:=commas_flat xs
  have h3:=fold_le ds (commas xs).length (fun i e he=>by
   have hi:=(List.getElem?_eq_some_iff.1 he).1
   have a:ts[i]?=some ts[i]:=List.getElem?_eq_getElem (by omega)
   have b:xs[i]?=some xs[i]:=List.getElem?_eq_getElem (by omega)
   have h4:=(ih i _ _ e a b he).2
   have h5:=piece_le xs i _ b
   omega)
  rw [cnt_eq]
  simp only [List.length_append,List.length_cons,List.length_nil];omega
set_option maxHeartbeats 4000000 in
set_option maxRecDepth 100000 in
theorem isExpr_any {w:World} {P:Nat→Prop} {k n:Int} {s:ByteArray} {r t:Rf} {p:Option Addr} {q c:Nat} {T0:T} (h:Nd w P (NV k n s r t (.slice p q c)) T0) (hO:Ok T0) (w1:World) (hb:Below w.heap.size w w1) :
  Calls Tryz.prog 129 #[NV k n s r t (.slice p q c)] w1 fun e w'=>∃ b,e=.returned (.bool b)∧(b=true↔k≠6∧Wf T0)∧Below w1.heap.size w1 w':=by
 have hS0:=OB.start hb (N12 k n s r t (.slice p q c))
 obtain⟨⟨a0,a1,a2,a3,a4,a5,a6,a7,a8,a9,a10,a11⟩,af⟩:=cells12 hS0.a
 have HC:=isNode_any h hO _ hS0.below
 clear h hO
 by_cases h6:k=6
 ·subst h6
  clear HC
  go_enter Tryz.func129,Tryz.ntmps129
  go_wp2_with fail
  go_ret
  exact⟨_,rfl,by simp,hS0.below1⟩
 ·have H6:Hid (¬ k=6):=h6
  go_enter Tryz.func129,Tryz.ntmps129
  go_wp2_with fail
  refine HC.mono ?_
  rintro e w2 ⟨b,rfl,hbw,hb2⟩
  have HB:Hid (b=true↔Wf T0):=hbw
  clear hbw
  go_wp2_with fail
  go_ret
  refine⟨_,rfl,?_,(hS0.next hb2).below1⟩
  rw [Bool.and_eq_true,HB.out]
  simp
end Go.Proofs.YtgifkepklnhddaaGreatDoor.fm
namespace Go.Proofs.YtgifkepklnhddaaGreatDoor.fm
open Go.RowKit
def prV (x:List UInt8) (dp:Nat):Value:=if x.length+1≤200∧dp≤30 then .tuple #[.string ⟨(61::x).toArray⟩,.nilIface] else .tuple #[.string nul,.iface 100 (.int .i64 4)]
set_option maxHeartbeats 4000000 in
set_option maxRecDepth 100000 in
theorem print_ok (w0:World) (hE:EnvW w0) {P:Nat→Prop} (hP:∀ b,P b→b<w0.heap.size) {k n:Int} {s:ByteArray} {r t:Rf} {p:Option Addr} {q c:Nat} {T0:T} {x:List UInt8} {dp:Nat} (hW:W ink T0 x dp) (hN:Nd w0 P (NV k n s r t (.slice p q c)) T0) (hO:Ok T0) (h6:k≠6) (hc:T0.cnt≤200) :
  Calls Tryz.prog 92 #[NV k n s r t (.slice p q c)] w0 fun e w'=>e=.returned (prV x dp)∧Below w0.heap.size w0 w':=by
 have hS0:=OB.start (Below.refl w0.heap.size w0) (N12 k n s r t (.slice p q c))
 have hlen:=len_le hW
 have H1:=count_any hN hO.bd 200 (by omega) _ hS0.below
 rw [show min T0.cnt (200+1)=T0.cnt from by omega] at H1
 have H2:Hid (∀ w1,Below w0.heap.size w0 w1→Calls Tryz.prog 129 #[NV k n s r t (.slice p q c)] w1 fun e w'=>e=.returned (.bool true)∧Below w1.heap.size w1 w'):=fun w1 hb=>by
  refine (isExpr_any hN hO w1 hb).mono ?_
  rintro e w' ⟨b,rfl,hb1,hb2⟩
  rw [hb1.2 ⟨h6,_,_,hW⟩]
  exact⟨rfl,hb2⟩
 have H3:Hid (∀ w1,Below w0.heap.size w0 w1→Calls Tryz.prog 130 #[NV k n s r t (.slice p q c)] w1 fun e w'=>e=.returned (.tuple #[.string ⟨(61::x).toArray⟩,.int .i64 (dp:Nat)])∧Below w1.heap.size w1 w'):=fun w1 hb =>
  write_formula w1 (hE.next hb) hW (hN.mono (fun b hb'=>hb.block b (hP b hb')) (fun _ h=>h)) hO (by omega) (by omega)
 have hcc:¬ ((T0.cnt:Nat):Int) > 200:=by omega
 have hsz:(⟨(61::x).toArray⟩:ByteArray).size=x.length+1:=by show (61::x).toArray.size=_;simp
 obtain⟨Z,hZ⟩:∃ Z:ByteArray,⟨(61::x).toArray⟩=Z:=⟨_,rfl⟩
 have HV:Hid (prV x dp=if x.length+1≤200∧dp≤30 then .tuple #[.string Z,.nilIface] else .tuple #[.string nul,.iface 100 (.int .i64 4)]):=by unfold Hid prV;rw [hZ]
 rw [hZ] at H3 hsz
 have HSZ:Hid (Z.size=x.length+1):=hsz
 obtain⟨V,hV⟩:∃ V,prV x dp=V:=⟨_,rfl⟩
 rw [hV] at HV ⊢
 clear hZ hV hsz hW hN hO hE hP h6 hc hlen
 obtain⟨⟨a0,a1,a2,a3,a4,a5,a6,a7,a8,a9,a10,a11⟩,af⟩:=cells12 hS0.a
 go_enter Tryz.func92,Tryz.ntmps92
 go_wp2_with fail
 refine H1.mono ?_
 rintro e w1 ⟨rfl,hb1⟩
 have hS1:=hS0.next hb1
 clear a0 a1 a2 a3 a4 a5 a6 a7 a8 a9 a10 a11 af hS0 hb1 H1
 obtain⟨⟨a0,a1,a2,a3,a4,a5,a6,a7,a8,a9,a10,a11⟩,af⟩:=cells12 hS1.a
 go_wp2_with fail
 refine (H2.out _ hS1.below).mono ?_
 rintro e w2 ⟨rfl,hb2⟩
 have hS2:=hS1.next hb2
 clear a0 a1 a2 a3 a4 a5 a6 a7 a8 a9 a10 a11 af hS1 hb2 H2
 obtain⟨⟨a0,a1,a2,a3,a4,a5,a6,a7,a8,a9,a10,a11⟩,af⟩:=cells12 hS2.a
 go_wp2_with fail
 refine (H3.out _ hS2.below).mono ?_
 rintro e w3 ⟨rfl,hb3⟩
 have hS3:=hS2.next hb3
 clear a0 a1 a2 a3 a4 a5 a6 a7 a8 a9 a10 a11 af hS2 hb3 H3
 by_cases g1:(200:Int)<(Z.size:Int)
 ·have HG:Hid (V=.tuple #[.string nul,.iface 100 (.int .i64 4)]):=by unfold Hid;rw [HV.out,if_neg (by have:=HSZ.out;omega)]
  clear HV
  go_wp2_with fail
  go_ret2
  exact⟨by rw [HG.out];rfl,hS3.below⟩
 ·by_cases g2:(30:Int)<(dp:Int)
  ·have HG:Hid (V=.tuple #[.string nul,.iface 100 (.int .i64 4)]):=by unfold Hid;rw [HV.out,if_neg (by omega)]
   clear HV
   go_wp2_with fail
   go_ret2
   exact⟨by rw [HG.out];rfl,hS3.below⟩
  ·have HG:Hid (V=.tuple #[.string Z,.nilIface]):=by unfold Hid;rw [HV.out,if_pos (by have:=HSZ.out;omega)]
   clear HV
   go_wp2_with fail
   go_ret2
   exact⟨by rw [HG.out];rfl,hS3.below⟩
end Go.Proofs.YtgifkepklnhddaaGreatDoor.fm
namespace Go.Proofs.YtgifkepklnhddaaGreatDoor.adr
open Go.RowKit
theorem isD_list (s:ByteArray) (k:Nat):isD s k=decide (s.data.toList[k]?=some 36):=by
 unfold isD
 split
 ·rename_i h
  have hl:k<s.data.toList.length:=by simpa using h
  rw [List.getElem?_eq_getElem hl]
  have e:s.data.toList[k]=s[k]:=rfl
  rw [e]
  rw [Bool.eq_iff_iff,beq_iff_eq,decide_eq_true_iff]
  constructor
  ·intro q
   congr 1
   exact UInt8.toNat_inj.1 q
  ·intro q
   injection q with q
   rw [q]
   rfl
 ·rename_i h
  rw [List.getElem?_eq_none (by simpa using h)]
  rfl
theorem row_dec {u:Nat} (h1:1≤u) (h2:u<100):rowAcc 0 (Lib.decDigits u)=u:=by
 by_cases h:u<10
 ·rw [dec_small h,rowAcc_step (by rw [u8 (by omega)];omega) (by rw [u8 (by omega)];omega),u8 (by omega)]
  show _=_
  simp only [rowAcc]
  omega
 ·rw [dec_two h h2,rowAcc_step (by rw [u8 (by omega)];omega) (by rw [u8 (by omega)];omega),u8 (by omega),
   rowAcc_step (by rw [u8 (by omega)];omega) (by rw [u8 (by omega)];omega),u8 (by omega)]
  simp only [rowAcc]
  omega
theorem dec_head {u:Nat} (h2:u<100):∃ d l,Lib.decDigits u=d::l∧48≤d.toNat∧d.toNat≤57:=by
 by_cases h:u<10
 ·exact⟨_,_,dec_small h,by rw [u8 (by omega)];omega,by rw [u8 (by omega)];omega⟩
 ·exact⟨_,_,dec_two h h2,by rw [u8 (by omega)];omega,by rw [u8 (by omega)];omega⟩
theorem ne36 {d:UInt8} (h:37≤d.toNat):decide (some d=some (36:UInt8))=false:=by
 rw [decide_eq_false_iff_not]
 intro e
 injection e with e
 rw [e] at h
 exact absurd h (by decide)
theorem rd_made (s:ByteArray) (c r:Int) (fc fr:Bool) (h:isC c r=true) (hs:s.data.toList=sgL fc++UInt8.ofNat (64+c.toNat)::(sgL fr++Lib.decDigits r.toNat)):rdR s=⟨c,r,fc,fr,true⟩:=by
 obtain⟨⟨h1,h2⟩,h3,h4⟩:=isC_iff.1 h
 obtain⟨d,l,hd,hd1,hd2⟩:=dec_head (u:=r.toNat) (by omega)
 have hL:(UInt8.ofNat (64+c.toNat)).toNat=64+c.toNat:=u8 (by omega)
 have i0:isD s 0=fc:=by
  rw [isD_list,hs]
  cases fc
  ·exact ne36 (by rw [hL];omega)
  ·rfl
 have hlen:s.size=s.data.toList.length:=by simp
 have hk:b2N fc<s.size:=by
  rw [hlen,hs]
  cases fc<;>simp [sgL,b2N]
 have hat:s[b2N fc]=UInt8.ofNat (64+c.toNat):=by
  have e:s.data.toList[b2N fc]?=some (UInt8.ofNat (64+c.toNat)):=by
   rw [hs]
   cases fc<;>rfl
  rw [List.getElem?_eq_getElem (by rw [← hlen];exact hk)] at e
  exact Option.some.inj e
 have i1:isD s (b2N fc+1)=fr:=by
  rw [isD_list,hs,hd]
  cases fr
  ·cases fc
   ·exact ne36 (by omega)
   ·exact ne36 (by omega)
  ·cases fc<;>rfl
 have hrow:rowAt s (b2N fc+1+b2N fr)=r:=by
  unfold rowAt
  have e:s.data.toList.drop (b2N fc+1+b2N fr)=Lib.decDigits r.toNat:=by
   rw [hs]
   cases fc<;>cases fr<;>rfl
  rw [e,row_dec (by omega) (by omega)]
  omega
 unfold rdR
 simp only [i0,i1,hrow,hat,hL]
 have ec:(((64+c.toNat:Nat)):Int) - 64=c:=by omega
 rw [dif_pos hk,ec,if_pos h]
end Go.Proofs.YtgifkepklnhddaaGreatDoor.adr
namespace Go.Proofs.YtgifkepklnhddaaGreatDoor.fm
open Go.RowKit
theorem ref_read (r:Rf) (h:adr.isC r.c r.r=true):refOf ⟨(ink.ref r).toArray⟩=some r:=by
 have e:=adr.rd_made ⟨(ink.ref r).toArray⟩ r.c r.r r.fc r.fr h rfl
 unfold refOf
 rw [e]
 rfl
theorem dec_digits:∀ (u:Nat),∀ c∈Lib.decDigits u,48≤c.toNat∧c.toNat≤57:=by
 intro u
 induction u using Nat.strongRecOn with
 | ind u ih =>
  intro c hc
  rw [Lib.decDigits] at hc
  split at hc
  ·next h=>rw [List.mem_singleton] at hc;subst hc;rw [adr.u8 (by omega)];omega
  ·next h =>
   rw [List.mem_append] at hc
   rcases hc with hc | hc
   ·exact ih (u / 10) (by omega) c hc
   ·rw [List.mem_singleton] at hc;subst hc;rw [adr.u8 (by omega)];omega
theorem ref_digit {s:ByteArray} {d:UInt8} {l:List UInt8} (h:s.data.toList=d::l) (h1:48≤d.toNat) (h2:d.toNat≤57):refOf s=none:=by
 have hD:adr.isD s 0=false:=by
  rw [adr.isD_list,h]
  simp
  intro e
  subst e
  exact absurd h1 (by decide)
 have hb:adr.b2N (adr.isD s 0)=0:=by rw [hD];rfl
 have hok:(adr.rdR s).ok=false:=by
  unfold adr.rdR
  split
  ·next hlt =>
   split
   ·next hC =>
    exfalso
    have hC1:=(adr.isC_iff.1 hC).1.1
    have e0:s.data.toList[adr.b2N (adr.isD s 0)]?=some (s[adr.b2N (adr.isD s 0)]'hlt):=by
     rw [Array.getElem?_toList]
     exact Array.getElem?_eq_getElem hlt
    have e2:s.data.toList[adr.b2N (adr.isD s 0)]?=some d:=by rw [hb,h];rfl
    have e1:d=s[adr.b2N (adr.isD s 0)]'hlt:=by rw [e0] at e2;exact (Option.some.inj e2).symm
    rw [← e1] at hC1
    omega
   ·rfl
  ·rfl
 unfold refOf
 rw [hok]
 rfl
theorem row_len {l:List UInt8} {u:Nat} (h:adr.rowAcc 0 l=u) (h1:1≤u) (h2:u≤99):(Lib.decDigits u).length≤l.length:=by
 have h3:=adr.it_len (r:=u) (by omega)
 match l,h with
 | [],h=>rw [adr.rowAcc] at h;omega
 | [d],h =>
  have hu:u<10:=by
   by_cases hb:d.toNat<48∨57<d.toNat∨((0:Nat)=0∧d.toNat=48)
   ·rw [adr.rowAcc_bad hb] at h;omega
   ·by_cases h99:99<0*10+(d.toNat - 48)
    ·rw [adr.rowAcc_over h99] at h;omega
    ·rw [adr.rowAcc_step hb h99,adr.rowAcc] at h;omega
  rw [adr.dec_small hu];simp
 | _::_::_,_=>simp only [List.length_cons];omega
theorem ref_back (t:ByteArray) (r:Rf) (h:refOf t=some r):adr.isC r.c r.r=true∧(ink.ref r).length≤t.size:=by
 unfold refOf at h
 split at h
 ·next hok =>
  cases h
  by_cases hlt:adr.b2N (adr.isD t 0)<t.size
  ·by_cases hC:adr.isC ((t[adr.b2N (adr.isD t 0)].toNat:Int) - 64) (adr.rowAt t (adr.b2N (adr.isD t 0)+1+adr.b2N (adr.isD t (adr.b2N (adr.isD t 0)+1))))=true
   ·have er:adr.rdR t=⟨(t[adr.b2N (adr.isD t 0)].toNat:Int) - 64,adr.rowAt t (adr.b2N (adr.isD t 0)+1+adr.b2N (adr.isD t (adr.b2N (adr.isD t 0)+1))),adr.isD t 0,adr.isD t (adr.b2N (adr.isD t 0)+1),true⟩:=by
     unfold adr.rdR;rw [dif_pos hlt,if_pos hC]
    rw [er]
    refine⟨hC,?_⟩
    have hC2:=adr.isC_iff.1 hC
    obtain⟨kk,hkk⟩:∃ kk,adr.b2N (adr.isD t 0)+1+adr.b2N (adr.isD t (adr.b2N (adr.isD t 0)+1))=kk:=⟨_,rfl⟩
    have hr:=hC2.2
    rw [hkk] at hr
    have hrow:adr.rowAcc 0 (t.data.toList.drop kk)=(adr.rowAt t kk).toNat:=by unfold adr.rowAt;simp
    have hl:=row_len hrow (by omega) (by omega)
    have hpos:1≤(Lib.decDigits (adr.rowAt t kk).toNat).length:=by
     rcases Nat.eq_zero_or_pos (Lib.decDigits (adr.rowAt t kk).toNat).length with e | e
     ·have:=List.length_eq_zero_iff.1 e
      rw [Lib.decDigits] at this
      split at this<;>simp at this
     ·exact e
    have hdl:∀ b,(dollar b).length=adr.b2N b:=fun b=>by cases b<;>rfl
    show (dollar _++_::(dollar _++Lib.decDigits _)).length≤_
    simp only [List.length_append,List.length_cons,hdl]
    rw [hkk]
    simp only [List.length_drop,Array.length_toList] at hl
    have e:t.data.size=t.size:=rfl
    omega
   ·unfold adr.rdR at hok;rw [dif_pos hlt,if_neg hC] at hok;cases hok
  ·unfold adr.rdR at hok;rw [dif_neg hlt] at hok;cases hok
 ·cases h
theorem fit:Fit lexP ink:={
 numM:=by
  intro n h0 h1
  have hit:Lib.itoa n=Lib.decDigits n.toNat:=by unfold Lib.itoa;rw [if_neg (by omega)]
  have hne:=itoa_ne n
  have hno:refOf ⟨(Lib.itoa n).toArray⟩=none:=by
   cases hl:Lib.itoa n with
   | nil=>exact absurd hl hne
   | cons d l =>
    have hd:=dec_digits n.toNat d (by rw [← hit,hl];simp)
    exact ref_digit (s:=⟨(d::l).toArray⟩) (d:=d) (l:=l) (by simp) hd.1 hd.2
  have hnum:numOf ⟨(Lib.itoa n).toArray⟩=some n:=by
   unfold numOf
   have e:(⟨(Lib.itoa n).toArray⟩:ByteArray).data.toList=Lib.itoa n:=by simp
   rw [e,atoi_itoa n (by omega) h1]
   simp
  have hlen:=itoa_len n (by omega) h1
  have hsz:(⟨(Lib.itoa n).toArray⟩:ByteArray).size=(Lib.itoa n).length:=by show (Lib.itoa n).toArray.size=_;simp
  have hrd:rd ⟨(Lib.itoa n).toArray⟩=(1,n,nul):=by
   unfold rd
   rw [if_neg (by rw [ByteArray.toList_eq];simpa using hne),if_neg (by omega),hnum]
  show meanOf ⟨(Lib.itoa n).toArray⟩=_
  unfold meanOf
  rw [hno,hrd]
  rfl
 numW:=by
  intro n h0 c hc
  have hit:Lib.itoa n=Lib.decDigits n.toNat:=by unfold Lib.itoa;rw [if_neg (by omega)]
  have hc2:c∈Lib.decDigits n.toNat:=by rw [← hit];exact hc
  have:=dec_digits _ c hc2
  simp [isW];omega
 numE:=fun n _=>itoa_ne n
 refM:=by
  intro r h
  show meanOf ⟨(ink.ref r).toArray⟩=_
  unfold meanOf
  rw [ref_read r h]
 refR:=fun r h=>ref_read r h
 refW:=by
  intro r h c hc
  obtain⟨⟨h1,h2⟩,h3,h4⟩:=adr.isC_iff.1 h
  have hc2:c∈dollar r.fc∨c=UInt8.ofNat (64+r.c.toNat)∨c∈dollar r.fr∨c∈Lib.decDigits r.r.toNat:=by
   have:c∈dollar r.fc++UInt8.ofNat (64+r.c.toNat)::(dollar r.fr++Lib.decDigits r.r.toNat):=hc
   simpa using this
  have hd:∀ b,c∈dollar b→c=36:=fun b hb=>by cases b<;>simp [dollar] at hb;exact hb
  rcases hc2 with e | e | e | e
  ·rw [hd _ e];decide
  ·rw [e,adr.u8 (by omega)];simp [isW];omega
  ·rw [hd _ e];decide
  ·have:=dec_digits _ c e;simp [isW];omega
 refE:=by
  intro r _ e
  have:(dollar r.fc++UInt8.ofNat (64+r.c.toNat)::(dollar r.fr++Lib.decDigits r.r.toNat))=[]:=e
  simp at this
 truM:=by
  intro n hn
  rcases hn with rfl | rfl
  ·have e1:refOf ⟨(truT 0).toArray⟩=none:=by decide +kernel
   have e2:(rd ⟨(truT 0).toArray⟩).1=3∧(rd ⟨(truT 0).toArray⟩).2.1=0:=by decide +kernel
   show meanOf ⟨(truT 0).toArray⟩=_
   unfold meanOf
   rw [e1]
   simp only [e2.1,e2.2]
   rfl
  ·have e1:refOf ⟨(truT 1).toArray⟩=none:=by decide +kernel
   have e2:(rd ⟨(truT 1).toArray⟩).1=3∧(rd ⟨(truT 1).toArray⟩).2.1=1:=by decide +kernel
   show meanOf ⟨(truT 1).toArray⟩=_
   unfold meanOf
   rw [e1]
   simp only [e2.1,e2.2]
   rfl
 back:=by
  intro t u hw hs hm
  have hm2:meanOf t=some u:=hm
  unfold meanOf at hm2
  split at hm2
  ·next r hr =>
   cases hm2
   have hb:=ref_back t r hr
   exact⟨fun e=>absurd (show (5:Int)=6 from e) (by decide),fun e=>absurd (show (5:Int)=8 from e) (by decide),_,.ref hb.1,hb.2⟩
  ·next hr =>
   unfold rd at hm2
   split at hm2
   ·simp at hm2
   ·split at hm2
    ·simp at hm2
    ·split at hm2
     ·next v hv =>
      simp at hm2
      subst hm2
      obtain⟨ha,hi⟩:=numOf_some hv
      have hb:=atoi_bd ha
      have hv0:0≤v:=by
       rcases Int.lt_or_le v 0 with h | h
       ·have e:Lib.itoa v=45::Lib.decDigits v.natAbs:=by unfold Lib.itoa;rw [if_pos h]
        have:=hw 45 (by rw [← hi,e];simp)
        exact absurd this (by decide)
       ·exact h
      refine⟨fun e=>absurd (show (1:Int)=6 from e) (by decide),fun e=>absurd (show (1:Int)=8 from e) (by decide),_,.num hv0 hb.2,?_⟩
      have e1:(ink.num v).length=t.data.toList.length:=by rw [← hi];rfl
      rw [e1];simp
     ·split at hm2
      ·next ht =>
       simp at hm2
       subst hm2
       have hl:t.data.toList.length=4:=by rw [← ByteArray.toList_eq,beq_iff_eq.1 ht];rfl
       refine⟨fun e=>absurd (show (3:Int)=6 from e) (by decide),fun e=>absurd (show (3:Int)=8 from e) (by decide),_,.truth (.inr rfl),?_⟩
       have e2:t.data.toList.length=t.size:=by simp
       show (4:Nat)≤t.size
       omega
      ·split at hm2
       ·next ht =>
        simp at hm2
        subst hm2
        have hl:t.data.toList.length=5:=by rw [← ByteArray.toList_eq,beq_iff_eq.1 ht];rfl
        refine⟨fun e=>absurd (show (3:Int)=6 from e) (by decide),fun e=>absurd (show (3:Int)=8 from e) (by decide),_,.truth (.inl rfl),?_⟩
        have e2:t.data.toList.length=t.size:=by simp
        show (5:Nat)≤t.size
        omega
       ·split at hm2<;>simp at hm2
 rback:=fun t r h=>ref_back t r h }
end Go.Proofs.YtgifkepklnhddaaGreatDoor.fm
namespace Go.Proofs.YtgifkepklnhddaaGreatDoor.fm
open Go.RowKit
theorem cntL_len (ts:List T):ts.length≤cntL ts:=by
 induction ts with
 | nil=>simp
 | cons t ts ih=>have:=cnt_pos t;simp only [cntL,List.length_cons];omega
theorem cntL_kid:∀ (ts:List T) (i:Nat) u,ts[i]?=some u→u.cnt≤cntL ts
 | [],i,u,h=>by simp at h
 | t::ts,i,u,h=>by
  cases i with
  | zero=>simp at h;subst h;simp only [cntL];omega
  | succ i=>have:=cntL_kid ts i u (by simpa using h);simp only [cntL];omega
theorem ok_of {t:T} {x:List UInt8} {dp:Nat} (h:W ink t x dp):t.cnt≤140737488355328→Ok t:=by
 induction h with
 | num h0 h1=>intro _;exact .mk h1 (by simp) (fun i u hu=>by simp at hu)
 | text h=>intro _;exact .mk (by decide) (by simp) (fun i u hu=>by simp at hu)
 | truth h=>intro _;exact .mk (by rcases h with rfl | rfl<;>decide) (by simp) (fun i u hu=>by simp at hu)
 | bad h h6=>intro _;exact .mk (by omega) (by simp) (fun i u hu=>by simp at hu)
 | ref h=>intro _;exact .mk (by decide) (by simp) (fun i u hu=>by simp at hu)
 | box h h2=>intro _;exact .mk (by decide) (by simp) (fun i u hu=>by simp at hu)
 | @neg a x d ha h ih =>
  intro hc
  rw [cnt_eq] at hc
  exact .mk (by decide) (by simp) (fun i u hu=>by
   have hk:=cntL_kid [a] i u hu
   cases i with
   | zero=>simp at hu;subst hu;exact ih (by omega)
   | succ i=>simp at hu)
 | @two op a b x y d e h1 h11 ha hb hx hy ihx ihy =>
  intro hc
  rw [cnt_eq] at hc
  exact .mk (by omega) (by simp) (fun i u hu=>by
   have hk:=cntL_kid [a,b] i u hu
   match i with
   | 0=>simp at hu;subst hu;exact ihx (by omega)
   | 1=>simp at hu;subst hu;exact ihy (by omega)
   | i+2=>simp at hu)
 | @call name ts xs ds hn hx hd h ih =>
  intro hc
  rw [cnt_eq] at hc
  have hl:=cntL_len ts
  exact .mk (by decide) (by omega) (fun i u hu=>by
   have hk:=cntL_kid ts i u hu
   have hi:=(List.getElem?_eq_some_iff.1 hu).1
   exact ih i u _ _ hu (List.getElem?_eq_getElem (by omega)) (List.getElem?_eq_getElem (by omega)) (by omega))
theorem back_one {t:T} {x:List UInt8} {dp:Nat} (h:W ink t x dp) (h6:t.kd≠6) (h1:x.length+1≤200) (h2:dp≤30):parse lexP ⟨(61::x).toArray⟩=.ok t 0:=parse_back lexP fit h h6 h2 h1
theorem back_two {s:ByteArray} {t:T} {k:Nat} (h:parse lexP s=.ok t k):∃ x dp,W ink t x dp∧t.kd≠6∧t.cnt≤200∧Ok t∧x.length+1≤200∧x.length+1≤s.size∧dp≤30:=by
 have hs:s.size≤200:=by
  unfold parse at h
  split at h
  ·cases h
  ·omega
 obtain⟨x,dp,hw,h6,hl,hd⟩:=parse_short lexP ink s hs fit h
 have hc:=cnt_le fit hw
 exact⟨x,dp,hw,h6,by omega,ok_of hw (by omega),by omega,hl,hd⟩
end Go.Proofs.YtgifkepklnhddaaGreatDoor.fm
namespace Go.Proofs.YtgifkepklnhddaaGreatDoor.fm
open Go.RowKit
theorem slCut_no (t:ByteArray) (w:World) (h:Lib.indexByte t.data.toList 34=-1) :
  Calls Tryz.prog 248 #[.string t,.string ⟨#[34]⟩] w fun e w'=>e=.returned (.tuple #[.string t,.string nul,.bool false])∧Below w.heap.size w w':=by
 have HI:Hid (Lib.indexByte t.data.toList 34=-1):=h
 clear h
 go_enter Tryz.func248,Tryz.ntmps248
 go_wp2_with fail
 refine (Tryz.stringslite_Index_one t 34 _).mono ?_
 rintro e w1 ⟨rfl,rfl⟩
 rw [HI.out]
 go_wp2_with fail
 go_ret3
 exact⟨rfl,Below.refl _ _⟩
theorem slCut_yes (t:ByteArray) (w:World) (i:Nat) (ht:t.size≤200) (h:Lib.indexByte t.data.toList 34=(i:Int)) (hi:i<t.size) :
  Calls Tryz.prog 248 #[.string t,.string ⟨#[34]⟩] w fun e w'=>e=.returned (.tuple #[.string (t.extract 0 i),.string (t.extract (i+1) t.size),.bool true])∧Below w.heap.size w w':=by
 have HI:Hid (Lib.indexByte t.data.toList 34=(i:Int)):=h
 have h0:(0:Int)≤(i:Int):=by omega
 clear h
 go_enter Tryz.func248,Tryz.ntmps248
 go_wp2_with fail
 refine (Tryz.stringslite_Index_one t 34 _).mono ?_
 rintro e w1 ⟨rfl,rfl⟩
 rw [HI.out]
 go_wp2_with fail
 go_region
 all_goals
  go_wp2_with fail
  go_ret3
  exact⟨rfl,(Below.refl _ _).drew⟩
theorem cut_no (t:ByteArray) (w:World) (h:Lib.indexByte t.data.toList 34=-1) :
  Calls Tryz.prog 235 #[.string t,.string ⟨#[34]⟩] w fun e w'=>e=.returned (.tuple #[.string t,.string nul,.bool false])∧Below w.heap.size w w':=by
 have HI:Hid (Lib.indexByte t.data.toList 34=-1):=h
 clear h
 go_enter Tryz.func235,Tryz.ntmps235
 go_wp2_with fail
 refine (slCut_no t _ HI.out).mono ?_
 rintro e w1 ⟨rfl,hb⟩
 go_wp2_with fail
 go_ret3
 exact⟨rfl,hb⟩
theorem cut_yes (t:ByteArray) (w:World) (i:Nat) (ht:t.size≤200) (h:Lib.indexByte t.data.toList 34=(i:Int)) (hi:i<t.size) :
  Calls Tryz.prog 235 #[.string t,.string ⟨#[34]⟩] w fun e w'=>e=.returned (.tuple #[.string (t.extract 0 i),.string (t.extract (i+1) t.size),.bool true])∧Below w.heap.size w w':=by
 have HI:Hid (Lib.indexByte t.data.toList 34=(i:Int)):=h
 clear h
 go_enter Tryz.func235,Tryz.ntmps235
 go_wp2_with fail
 refine (slCut_yes t _ i ht HI.out hi).mono ?_
 rintro e w1 ⟨rfl,hb⟩
 go_wp2_with fail
 go_ret3
 exact⟨rfl,hb⟩
theorem idx_cases (l:List UInt8) (c:UInt8):Lib.indexByte l c=-1∨∃ i:Nat,Lib.indexByte l c=(i:Int)∧i<l.length:=by
 induction l with
 | nil=>left;rfl
 | cons b l ih =>
  unfold Lib.indexByte
  split
  ·right;exact⟨0,rfl,by simp⟩
  ·rcases ih with h | ⟨i,h,hi⟩
   ·left;rw [h];rfl
   ·right
    rw [h,if_neg (by rw [beq_iff_eq];omega)]
    exact⟨i+1,rfl,by simp;omega⟩
theorem drop_cons (s:ByteArray) (p:Nat) (h:p<s.size):s.data.toList.drop p=s[p]::s.data.toList.drop (p+1):=by
 rw [List.drop_eq_getElem_cons (by simpa using h)];rfl
theorem quote_no (s:ByteArray) (p:Nat) (acc:List UInt8):Lib.indexByte (s.data.toList.drop p) 34=-1→quote s p acc=none:=by
 fun_induction quote s p acc with
 | case1 p acc h h1 h2 ih=>intro e;rw [drop_cons s p h] at e;unfold Lib.indexByte at e;simp [h1] at e
 | case2 p acc h h1 h2=>intro e;rw [drop_cons s p h] at e;unfold Lib.indexByte at e;simp [h1] at e
 | case3 p acc h h1 ih =>
  intro e
  apply ih
  rw [drop_cons s p h] at e
  unfold Lib.indexByte at e
  rw [if_neg (by simpa using h1)] at e
  rcases idx_cases (s.data.toList.drop (p+1)) 34 with h3 | ⟨i,h3,_⟩
  ·exact h3
  ·rw [h3,if_neg (by rw [beq_iff_eq];omega)] at e;omega
 | case4 p acc h=>intro e;rfl
theorem quote_hit (s:ByteArray) (p:Nat) (acc:List UInt8):∀ i:Nat,Lib.indexByte (s.data.toList.drop p) 34=(i:Int)→p+i<s.size∧quote s p acc=if nx s (p+i+1)=34 then quote s (p+i+2) (acc++(s.data.toList.drop p).take i++[34]) else some (acc++(s.data.toList.drop p).take i,p+i+1):=by
 fun_induction quote s p acc with
 | case1 p acc h h1 h2 ih =>
  intro i e
  rw [drop_cons s p h] at e
  unfold Lib.indexByte at e
  rw [if_pos (by simpa using h1)] at e
  obtain rfl:i=0:=by omega
  refine⟨h,?_⟩
  rw [if_pos (by simpa using h2)]
  simp
 | case2 p acc h h1 h2 =>
  intro i e
  rw [drop_cons s p h] at e
  unfold Lib.indexByte at e
  rw [if_pos (by simpa using h1)] at e
  obtain rfl:i=0:=by omega
  refine⟨h,?_⟩
  rw [if_neg (by simpa using h2)]
  simp
 | case3 p acc h h1 ih =>
  intro i e
  rw [drop_cons s p h] at e
  unfold Lib.indexByte at e
  rw [if_neg (by simpa using h1)] at e
  rcases idx_cases (s.data.toList.drop (p+1)) 34 with h3 | ⟨j,h3,_⟩
  ·rw [h3] at e;simp at e
  ·rw [h3,if_neg (by rw [beq_iff_eq];omega)] at e
   obtain rfl:i=j+1:=by omega
   obtain⟨q1,q2⟩:=ih j h3
   refine⟨by omega,?_⟩
   rw [q2,drop_cons s p h,show p+1+j+1=p+(j+1)+1 from by omega,show p+1+j+2=p+(j+1)+2 from by omega]
   simp
 | case4 p acc h =>
  intro i e
  rw [List.drop_eq_nil_of_le (by simp;omega)] at e
  simp [Lib.indexByte] at e
theorem ext_drop (s:ByteArray) (p i:Nat):((s.extract p s.size).extract i (s.extract p s.size).size)=s.extract (p+i) s.size:=by
 apply ByteArray.ext
 apply Array.ext'
 have h1:=ext_list (s.extract p s.size) i
 rw [h1,ext_list,ext_list,List.drop_drop]
theorem ext_take (s:ByteArray) (p i:Nat):((s.extract p s.size).extract 0 i).data.toList=(s.data.toList.drop p).take i:=by
 simp
 omega
theorem ba_of {b:ByteArray} {l:List UInt8} (h:b.data.toList=l):b=⟨l.toArray⟩:=by
 subst h
 rfl
set_option maxHeartbeats 4000000 in
theorem quoted_any (s:ByteArray) (hs:s.size≤200) (rb k d:Nat) (w:World) (h:RD w rb s k d) (hk:k<s.size) (RR:Rs T) (hRR:RR=match quote s (k+1) [] with | none=>.err k 2 | some (l,k')=>.ok (tText ⟨l.toArray⟩) k') :
  Calls Tryz.prog 220 #[ptr rb] w (Out w rb s d RR):=by
 have HRR:Hid (RR=match quote s (k+1) [] with | none=>.err k 2 | some (l,k')=>.ok (tText ⟨l.toArray⟩) k'):=hRR
 have hrl:=h.lt
 have hR0:=h.alloc (.cells NZ 57)
 have hK0:=(Kp.refl (·=rb) w).alloc (.cells NZ 57)
 have hq0:=blk_new w (.cells NZ 57)
 have hsx:1≤(s.extract k s.size).size:=by rw [ByteArray.size_extract];omega
 have he:=ext_drop s k 1
 have HE:Hid ((s.extract k s.size).extract 1 (s.extract k s.size).size=s.extract (k+1) s.size):=he
 clear hRR he
 go_enter Tryz.func220,Tryz.ntmps220
 go_wp2_with fail
 refine (rest_any rb _ d s _ hR0 (by omega)).mono ?_
 rintro e w1 ⟨rfl,hb1⟩
 have hR1:=hR0.below hb1
 have hK1:=hK0.below hb1
 have hq1:=((Kp.refl (fun _=>False) _).below hb1).blk hq0 id
 generalize hx:s.extract k s.size=sx at *
 clear hx
 go_wp2_with fail
 rw [HE.out]
 clear HE
 go_loopw [3,4] (fun a b wr=>∃ (B:ByteArray) (p:Nat),a=.string B∧b=.string (s.extract p s.size)∧p≤s.size∧B.size≤p∧quote s (k+1) []=quote s p B.data.toList∧RD wr rb s k d∧wr.heap[w.heap.size]?=some (.cells NZ 57 (0,0))∧Kp (·=rb) w wr) (fun _ b _=>match b with | .string t=>t.size | _=>0)
 case atStart=>exact⟨nul,k+1,rfl,rfl,hk,Nat.zero_le _,rfl,hR1,hq1,hK1⟩
 case round =>
  clear hR1 hq1 hK1
  obtain⟨B,p,rfl,rfl,hp,hBp,hqq,hR,hq,hK⟩:=hrel
  have HQQ:Hid (quote s (k+1) []=quote s p B.data.toList):=hqq
  clear hqq
  have hxl:=ext_list s p
  have hxs:(s.extract p s.size).size=s.size - p:=by rw [ByteArray.size_extract];omega
  rcases idx_cases (s.extract p s.size).data.toList 34 with hi | ⟨i,hi,hil⟩
  ·have HRT:Hid (RR=.err k 2):=by
    have h1:=HRR.out
    rw [HQQ.out,quote_no s p _ (by rw [← hxl];exact hi)] at h1
    exact h1
   have HII:Hid (Lib.indexByte (s.extract p s.size).data.toList 34=-1):=hi
   clear hi HRR HQQ hxl
   generalize s.extract p s.size=sp at *
   go_wp2_with fail
   refine (cut_no sp _ HII.out).mono ?_
   rintro e w2 ⟨rfl,hb2⟩
   have hR2:=hR.below hb2
   have hK2:=hK.below hb2
   go_wp2_with fail
   refine (fault_any rb _ d 2 s _ hR2).mono ?_
   rintro e w3 ⟨rfl,hb3⟩
   go_wp2_with fail
   refine⟨rfl,?_⟩
   rw [HRT.out]
   exact⟨rfl,hK2.below hb3⟩
  ·obtain⟨hlt,hqi⟩:=quote_hit s p B.data.toList i (by rw [← hxl];exact hi)
   have HII:Hid (Lib.indexByte (s.extract p s.size).data.toList 34=(i:Int)):=hi
   have HT:=ext_take s p i
   have HD:=ext_drop s p (i+1)
   have hA:(B++(s.extract p s.size).extract 0 i).data.toList=B.data.toList++(s.data.toList.drop p).take i:=by rw [← HT];simp
   have hAs:(B++(s.extract p s.size).extract 0 i).size=B.size+i:=by simp;omega
   have HAA:Hid ((B++(s.extract p s.size).extract 0 i).data.toList=B.data.toList++(s.data.toList.drop p).take i):=hA
   have hpr:Lib.hasPrefix (s.extract (p+(i+1)) s.size).data.toList (⟨#[34]⟩:ByteArray).data.toList=decide (nx s (p+i+1)=34):=by
    rw [pre_extract];exact pre_one s _ 34 (by omega) (by omega)
   have HPR:Hid (Lib.hasPrefix (s.extract (p+(i+1)) s.size).data.toList (⟨#[34]⟩:ByteArray).data.toList=decide (nx s (p+i+1)=34)):=hpr
   have hbs:(s.extract (p+(i+1)) s.size).size=s.size - (p+i+1):=by rw [ByteArray.size_extract];omega
   have hpts:((s.extract p s.size).extract 0 i).size≤200:=by rw [ByteArray.size_extract];omega
   have hB200:B.size≤200:=by omega
   have HAS:Hid ((B++(s.extract p s.size).extract 0 i).size=B.size+i):=hAs
   clear hAs
   have HDD:Hid ((s.extract p s.size).extract (i+1) (s.extract p s.size).size=s.extract (p+(i+1)) s.size):=HD
   have HD2:Hid ((s.extract (p+(i+1)) s.size).extract 1 (s.extract (p+(i+1)) s.size).size=s.extract (p+i+2) s.size):=by
    have:=ext_drop s (p+(i+1)) 1
    rw [show p+(i+1)+1=p+i+2 from by omega] at this
    exact this
   have hil':i<(s.extract p s.size).size:=by omega
   clear hi hil hpr HT HD hA hxl
   by_cases c:nx s (p+i+1)=34
   ·have hlt2:=nx_lt (s:=s) (k:=p+i+1) (by omega)
    have HC:Hid (nx s (p+i+1)=34):=c
    have HQ2:Hid (quote s (k+1) []=quote s (p+i+2) (B.data.toList++(s.data.toList.drop p).take i++[34])):=by
     unfold Hid
     rw [HQQ.out,hqi,if_pos c]
    clear c hqi HQQ
    have h1:(1:Int)≤((s.extract (p+(i+1)) s.size).size:Int):=by omega
    have h1n:1≤(s.extract (p+(i+1)) s.size).size:=by omega
    have hms:(s.extract (p+i+2) s.size).size=s.size - (p+i+2):=by rw [ByteArray.size_extract];omega
    have HMS:Hid ((s.extract (p+i+2) s.size).size<(s.extract p s.size).size):=by unfold Hid;omega
    clear hms hxs hbs
    go_wp2_with fail
    refine (cut_yes _ _ i (by rw [ByteArray.size_extract];omega) HII.out hil').mono ?_
    rintro e w2 ⟨rfl,hb2⟩
    rw [HDD.out]
    have hR2:=hR.below hb2
    have hK2:=hK.below hb2
    have hq2:=((Kp.refl (fun _=>False) _).below hb2).blk hq id
    generalize (s.extract p s.size).extract 0 i=pt at *
    generalize s.extract (p+(i+1)) s.size=bh at *
    go_wp2_with fail
    refine (prefix_any _ _ _).mono ?_
    rintro e w3 ⟨rfl,rfl⟩
    rw [HPR.out,decide_eq_true HC.out]
    go_wp2_with fail
    rw [HD2.out]
    have hsz:(B++pt++(⟨#[34]⟩:ByteArray)).size=B.size+i+1:=by
     have:=HAS.out
     rw [ByteArray.size_append,this];rfl
    refine⟨⟨B++pt++⟨#[34]⟩,p+i+2,rfl,rfl,by omega,by omega,?_,hR2,hq2,hK2⟩,HMS.out⟩
    rw [HQ2.out]
    have:=HAA.out
    rw [ByteArray.data_append,Array.toList_append,this]
   ·have HC:Hid (¬ nx s (p+i+1)=34):=c
    have HRT:Hid (RR=.ok (tText ⟨(B.data.toList++(s.data.toList.drop p).take i).toArray⟩) (p+i+1)):=by
     have h1:=HRR.out
     rw [HQQ.out,hqi,if_neg c] at h1
     exact h1
    clear c hqi HQQ HRR
    go_wp2_with fail
    refine (cut_yes _ _ i (by rw [ByteArray.size_extract];omega) HII.out hil').mono ?_
    rintro e w2 ⟨rfl,hb2⟩
    rw [HDD.out]
    have hR2:=hR.below hb2
    have hK2:=hK.below hb2
    have hq2:=((Kp.refl (fun _=>False) _).below hb2).blk hq id
    have hbs':(s.extract (p+(i+1)) s.size).size≤s.size:=by omega
    have HBS:Hid ((s.extract (p+(i+1)) s.size).size=s.size - (p+i+1)):=hbs
    clear hbs hxs
    generalize (s.extract p s.size).extract 0 i=pt at *
    generalize s.extract (p+(i+1)) s.size=bh at *
    go_wp2_with fail
    refine (prefix_any _ _ _).mono ?_
    rintro e w3 ⟨rfl,rfl⟩
    rw [HPR.out,decide_eq_false HC.out]
    obtain⟨⟨c0,c1,c2⟩,f0,f1,f2⟩:=hR2.cells
    obtain⟨⟨b0,b1,b2,b3,b4,b5,b6,b7,b8,b9,b10,b11⟩,bf⟩:=cells12 hq2
    have hne:w.heap.size≠rb:=by omega
    go_wp2_with fail
    clear c0 c1 c2 f0 f1 f2 b0 b1 b2 b3 b4 b5 b6 b7 b8 b9 b10 b11 bf
    rw [show ((s.size:Nat):Int) - (bh.size:Int)=((p+i+1:Nat):Int) from by have:=HBS.out;omega]
    have hR8:=hR2.setAt (p+i+1)
    have hK8:=hK2.setCell (p:=⟨rb,1,none⟩) (Or.inl rfl) (.int .i64 ((p+i+1:Nat):Int))
    have hq8:=(kpset w3 rb 1 (.int .i64 ((p+i+1:Nat):Int))).blk hq2 hne
    generalize w3.setCell ⟨rb,1,none⟩ (.int .i64 ((p+i+1:Nat):Int))=w8 at *
    refine fin12 hq8 (Q:=bodyPost _ _ _ _ _) ?_
    intro w9 hq9 hk9
    obtain⟨⟨b0,b1,b2,b3,b4,b5,b6,b7,b8,b9,b10,b11⟩,bf⟩:=cells12 hq9
    refine bodyPost_ret (v:=NV 2 0 (B++pt) .z .z (.slice none 0 0)) (by simp [results,Tryz.results220,go_sem,b0,b1,b2,b3,b4,b5,b6,b7,b8,b9,b10,b11]) rfl ?_
    rw [HRT.out,← ba_of HAA.out]
    exact⟨_,rfl,Nd.leaf,hR8.keep hk9 (by omega),hK8.trans hk9 (fun n e=>by right;omega)⟩
end Go.Proofs.YtgifkepklnhddaaGreatDoor.fm
namespace Go.Proofs.YtgifkepklnhddaaGreatDoor.fm
open Go.RowKit
theorem leafs (s:ByteArray) (hs:s.size≤200):Leafs lexP s EnvF :=
 {
  keep:=fun h hk hx=>h.keep hk hx
  size:=fun h=>h.env.size
  opYes:=fun rb k d l w hE hR hk hrb _ _ hc=>operator_yes s hs rb k d l w hE hR hk hrb hc
  opNo:=fun rb k d l w hE hR hk hrb _ _ hc=>operator_no s hs rb k d l w hE hR hk hrb hc
  quoted:=fun rb k d w _ hR hk _=>quoted_any s hs rb k d w hR hk _ rfl
  bad:=fun rb k d w hE hR hk hrb=>bad_any s hs rb k d w hE hR hk hrb _ rfl
  name:=fun t w ht=>isName_any t w ht
  meanYes:=fun t w u hE ht hm=>by
   have hm:meanOf t=some u:=hm
   unfold meanOf at hm
   cases hr:refOf t with
   | some r =>
    rw [hr] at hm
    cases hm
    refine (mean_ref t w hE ht r hr).mono ?_
    rintro e w1 ⟨rfl,hb⟩
    exact⟨⟨5,0,nul,r,.z,rfl,rfl⟩,hb⟩
   | none =>
    rw [hr] at hm
    simp only at hm
    split at hm
    ·next h1 =>
     cases hm
     refine (mean_num t w hE ht (rd t).2.1 (rd t).2.2 hr (by rw [← h1])).mono ?_
     rintro e w1 ⟨rfl,hb⟩
     exact⟨⟨1,_,nul,.z,.z,rfl,rfl⟩,hb⟩
    ·split at hm
     ·next h3 =>
      cases hm
      refine (mean_tru t w hE ht (rd t).2.1 (rd t).2.2 hr (by rw [← h3])).mono ?_
      rintro e w1 ⟨rfl,hb⟩
      exact⟨⟨3,_,nul,.z,.z,rfl,rfl⟩,hb⟩
     ·cases hm
  meanNo:=fun t w hE ht hm=>by
   have hm:meanOf t=none:=hm
   unfold meanOf at hm
   cases hr:refOf t with
   | some r=>rw [hr] at hm;cases hm
   | none =>
    rw [hr] at hm
    simp only at hm
    split at hm
    ·cases hm
    ·next h1 =>
     split at hm
     ·cases hm
     ·next h3=>exact mean_none t w hE ht (rd t).1 (rd t).2.1 (rd t).2.2 hr rfl h1 h3
  refYes:=fun t w r ht h=>ref_yes t w r ht h
  refNo:=fun t w ht h=>ref_no t w ht h }
def OutF (w:World) (r:Rs T) (e:Ending) (w':World):Prop :=
 match r with
 | .ok t _=>∃ v,e=.returned v∧Nd w' (Own w w') v t∧Below w.heap.size w w'
 | .err k c=>e=.panicked [{ v:=flt k c,recovered:=false }]∧Below w.heap.size w w'
theorem rd_new (w:World) (s:ByteArray) (k:Nat):RD ((w.alloc (.cells NZ 57)).alloc (.cells #[.string s,.int .i64 k,.int .i64 0] 245)) (w.heap.size+1) s k 0:=by
 have:=blk_new (w.alloc (.cells NZ 57)) (.cells #[.string s,.int .i64 k,.int .i64 0] 245)
 simpa [RD] using this
theorem kp_below {w w':World} {rb:Nat} (h:Kp (·=rb) w w') (hb:w.heap.size≤rb):Below w.heap.size w w':=h.toBelow (Nat.le_refl _) (fun n hn e=>by omega)
set_option maxHeartbeats 4000000 in
theorem readFormula_any (s:ByteArray) (w:World) (hE:EnvF w) (hs:s.size≤140737488355328) (RR:Rs T) (hRR:parse lexP s=RR) :
  Calls Tryz.prog 148 #[.string s] w (OutF w RR):=by
 have hR0:RD ((w.alloc (.cells NZ 57)).alloc (.cells #[.string s,.int .i64 0,.int .i64 0] 245)) (w.heap.size+1) s 0 0:=rd_new w s 0
 have hK0:Kp (·=w.heap.size+1) w ((w.alloc (.cells NZ 57)).alloc (.cells #[.string s,.int .i64 0,.int .i64 0] 245)):=((Kp.refl _ w).alloc _).alloc _
 have HRR:Hid (parse lexP s=RR):=hRR
 clear hRR
 by_cases h200:200<s.size
 ·have h200':(200:Int)<(s.size:Int):=by omega
  have HRT:Hid (RR=.err 0 4):=by
   have h1:=HRR.out
   unfold parse at h1
   rw [if_pos h200] at h1
   exact h1.symm
  clear h200 HRR
  go_enter Tryz.func148,Tryz.ntmps148
  go_wp2_with fail
  refine (fault_any _ 0 0 4 s _ hR0).mono ?_
  rintro e w1 ⟨rfl,hb⟩
  go_wp2_with fail
  refine⟨rfl,?_⟩
  rw [HRT.out]
  exact⟨rfl,kp_below (hK0.below hb) (by omega)⟩
 have hle:¬ (200:Int)<(s.size:Int):=by omega
 by_cases h61:nx s 0=61
 ·have hpos:=nx_lt (s:=s) (k:=0) (by omega)
  have HF:=leafs s (by omega)
  have HRD:=reads_to HF (by omega) s.size
  have HX:Hid (nx s 0=61):=h61
  have HQ:Hid ((Expr lexP s 1 0 1).bind (fun t k=>if skip s k<s.size then .err (skip s k) 2 else .ok t 0)=RR):=by
   have h1:=HRR.out
   unfold parse at h1
   rw [if_neg h200,if_neg (by simpa using h61)] at h1
   exact h1
  clear h61 HRR
  have hR1:RD ((w.alloc (.cells NZ 57)).alloc (.cells #[.string s,.int .i64 1,.int .i64 0] 245)) (w.heap.size+1) s 1 0:=rd_new w s 1
  have hK1:Kp (·=w.heap.size+1) w ((w.alloc (.cells NZ 57)).alloc (.cells #[.string s,.int .i64 1,.int .i64 0] 245)):=((Kp.refl _ w).alloc _).alloc _
  have hq1:((w.alloc (.cells NZ 57)).alloc (.cells #[.string s,.int .i64 1,.int .i64 0] 245)).heap[w.heap.size]?=some (.cells NZ 57 (0,0)):=by rw [Below.heap_alloc _ _ _ (by simp)];exact blk_new _ _
  have hsz:=hE.env.size
  have HE1:Hid (EnvF ((w.alloc (.cells NZ 57)).alloc (.cells #[.string s,.int .i64 1,.int .i64 0] 245))):=hE.keep hK1 (fun n e=>by omega)
  have HC:=constant_any s
  have HCC:Hid (∀ w,Calls Tryz.prog 91 #[.string s] w fun e w'=>e=.returned (.bool (!decide (nx s 0=61)))∧w'=w):=HC
  have HRDD:Hid (ReadsTo lexP s EnvF s.size):=HRD
  clear HC HRD HF hR0 hK0
  go_enter Tryz.func148,Tryz.ntmps148
  go_wp2_with fail
  refine (HCC.out _).mono ?_
  rintro e w1 ⟨rfl,rfl⟩
  rw [decide_eq_true HX.out]
  go_wp2_with fail
  refine ((HRDD.out _ _ 0 _ HE1.out hR1 (by omega) (by omega) (by omega) (by omega)).2.1 1 (Nat.le_refl _) (by omega)).mono ?_
  clear HE1 HRDD
  generalize hwx:(w.alloc (.cells NZ 57)).alloc (.cells #[.string s,.int .i64 1,.int .i64 0] 245)=wx at *
  clear hwx
  intro e w2 ho
  cases hx:Expr lexP s 1 0 1 with
  | err k' c =>
   rw [hx] at ho
   obtain⟨rfl,hK2⟩:=ho
   have HRT:Hid (RR=.err k' c):=by
    have h1:=HQ.out
    rw [hx] at h1
    exact h1.symm
   clear hx HQ
   go_wp2_with fail
   refine⟨rfl,?_⟩
   rw [HRT.out]
   exact⟨rfl,kp_below (hK1.trans hK2 (fun n e=>.inl e)) (by omega)⟩
  | ok t k' =>
   have hpg:=Expr_prog lexP s (Nat.le_refl _) (by omega) hx
   rw [hx] at ho
   have HQ2:Hid ((if skip s k'<s.size then .err (skip s k') 2 else .ok t 0)=RR):=by
    have h1:=HQ.out
    rw [hx] at h1
    exact h1
   clear hx HQ
   obtain⟨v,rfl,hN,hR2,hK2⟩:=ho
   have hK2w:=hK1.trans hK2 (fun n e=>.inl e)
   have hq2:=hK2.blk hq1 (by omega)
   cases hN with
   | @mk a1 n1 s1 r1 t1 p1 m1 e1 us ts hk hl hs' =>
   have hN:=Nd.mk (k:=a1) (n:=n1) (s:=s1) (r:=r1) (t:=t1) hk hl hs'
   clear hk hl hs'
   have hKa:=(Kp.refl (fun _=>False) w2).alloc (.cells (N12 a1 n1 s1 r1 t1 (.slice p1 m1 e1)) 57)
   have hn3:=blk_new w2 (.cells (N12 a1 n1 s1 r1 t1 (.slice p1 m1 e1)) 57)
   have hR3:=hR2.alloc (.cells (N12 a1 n1 s1 r1 t1 (.slice p1 m1 e1)) 57)
   have hq3:=hKa.blk hq2 id
   have hN3:=hN.next hKa (fun n e=>e.elim)
   have hK3:=hK2w.alloc (.cells (N12 a1 n1 s1 r1 t1 (.slice p1 m1 e1)) 57)
   have hlx:=lt_blk hq1
   have hl2:w.heap.size+1≠w2.heap.size:=by have:=hR2.lt;omega
   have hl3:w.heap.size<w2.heap.size:=lt_blk hq2
   have hsx:=hK1.size
   have hs2:=hK2.size
   have HLL:Hid (w.heap.size<w2.heap.size∧w.heap.size<wx.heap.size∧w.heap.size+1<w2.heap.size):=⟨hl3,hlx,hR2.lt⟩
   clear hl3 hlx hsx hs2
   go_wp2_with fail
   generalize w2.heap.size=nb at *
   generalize w2.alloc (.cells (N12 a1 n1 s1 r1 t1 (.slice p1 m1 e1)) 57)=w3 at *
   refine (blanks_any _ _ _ s _ hR3 hpg.2.1 (by omega)).mono ?_
   rintro e w4 ⟨rfl,hR4,hK4⟩
   have hn4:=hK4.blk hn3 (fun e=>hl2 e.symm)
   have hq4:=hK4.blk hq3 (by omega)
   have hK4w:=hK3.trans hK4 (fun n e=>.inl e)
   obtain⟨⟨c0,c1,c2⟩,f0,f1,f2⟩:=hR4.cells
   by_cases hlt:skip s k'<s.size
   ·have HRT:Hid (RR=.err (skip s k') 2):=by
     have h1:=HQ2.out
     rw [if_pos hlt] at h1
     exact h1.symm
    have hlt':((skip s k':Nat):Int)<(s.size:Int):=by omega
    clear HQ2
    go_wp2_with fail
    refine (fault_any _ _ _ 2 s _ hR4).mono ?_
    rintro e w5 ⟨rfl,hb5⟩
    go_wp2_with fail
    refine⟨rfl,?_⟩
    rw [HRT.out]
    exact⟨rfl,kp_below (hK4w.below hb5) (by omega)⟩
   ·have HRT:Hid (RR=.ok (.nd a1 n1 s1 r1 t1 ts) 0):=by
     have h1:=HQ2.out
     rw [if_neg hlt] at h1
     exact h1.symm
    have hlt':¬ ((skip s k':Nat):Int)<(s.size:Int):=by omega
    clear HQ2
    obtain⟨⟨a0,a1',a2,a3,a4,a5,a6,a7,a8,a9,a10,a11⟩,af⟩:=cells12 hn4
    obtain⟨⟨b0,b1,b2,b3,b4,b5,b6,b7,b8,b9,b10,b11⟩,bf⟩:=cells12 hq4
    go_wp2_with fail
    refine fin12 hq4 (Q:=bodyPost _ _ _ _ _) ?_
    intro w9 hq9 hk9
    clear a0 a1' a2 a3 a4 a5 a6 a7 a8 a9 a10 a11 af b0 b1 b2 b3 b4 b5 b6 b7 b8 b9 b10 b11 bf
    obtain⟨⟨b0,b1,b2,b3,b4,b5,b6,b7,b8,b9,b10,b11⟩,bf⟩:=cells12 hq9
    refine bodyPost_ret (v:=NV a1 n1 s1 r1 t1 (.slice p1 m1 e1)) (by simp [results,Tryz.results148,go_sem,b0,b1,b2,b3,b4,b5,b6,b7,b8,b9,b10,b11]) rfl ?_
    rw [HRT.out]
    have hll:=HLL.out
    have hN4:=hN3.next hK4 (fun n e=>by left;have:=hR1.lt;omega)
    refine⟨_,rfl,?_,kp_below (hK4w.trans hk9 (fun n e=>by right;omega)) (by omega)⟩
    exact hN4.mono (fun n hn=>hk9.block n hn.2 (by have:=hn.1;omega)) (fun n hn=>⟨by have:=hn.1;omega,Nat.lt_of_lt_of_le hn.2 hk9.size⟩)
 ·have HX:Hid (¬ nx s 0=61):=h61
  have HRT:Hid (RR=.err 0 2):=by
   have h1:=HRR.out
   unfold parse at h1
   rw [if_neg h200,if_pos h61] at h1
   exact h1.symm
  clear h61 HRR
  have HCC:Hid (∀ w,Calls Tryz.prog 91 #[.string s] w fun e w'=>e=.returned (.bool (!decide (nx s 0=61)))∧w'=w):=constant_any s
  go_enter Tryz.func148,Tryz.ntmps148
  go_wp2_with fail
  refine (HCC.out _).mono ?_
  rintro e w1 ⟨rfl,rfl⟩
  rw [decide_eq_false HX.out]
  go_wp2_with fail
  refine (fault_any _ 0 0 2 s _ hR0).mono ?_
  rintro e w1 ⟨rfl,hb⟩
  go_wp2_with fail
  refine⟨rfl,?_⟩
  rw [HRT.out]
  exact⟨rfl,kp_below (hK0.below hb) (by omega)⟩
end Go.Proofs.YtgifkepklnhddaaGreatDoor.fm
namespace Go.Proofs.YtgifkepklnhddaaGreatDoor.fm
open Go.RowKit
theorem catch_idle (pa pe:Nat) (w:World) :
  CallsD Tryz.prog 147 #[ptr pa,ptr pe] .returning w fun e u' w'=>e=.returned (.tuple #[])∧u'=.returning∧w'=w:=by
 refine callsD_of_wpS Tryz.func147 rfl fun c₀ cs hu=>?_
 apply wpS_seq
 apply wpS_region
 simp [wpOpsS,go_sem,recoverD,hu,Tryz.ntmps147,Exit.thenS]
 refine wpS_of_wp ?_
 change Code.wp Tryz.prog _ _ { tmps:=#[ptr pa,ptr pe,.nilIface,undef,.nilIface,undef,undef,undef,undef,undef,undef,undef,undef,undef],defers:=[] } _
 go_wp2
 cases c₀
 simp_all [bodyPostS,results,Tryz.results147]
theorem catch_panicking (pa pe:Nat) (k:Nat) (c:Int) (w:World) (h0:w.heap[pa]?=some (.cells #[.int .i64 0] 3 (0,0))) (h1:w.heap[pe]?=some (.cells #[.nilIface] 26 (0,0))) (hne:pa≠pe) :
  CallsD Tryz.prog 147 #[ptr pa,ptr pe] (.panicking [{ v:=flt k c,recovered:=false }]) w fun e u' w' =>
   e=.returned (.tuple #[])∧u'=.panicking [{ v:=flt k c,recovered:=true }]∧w'.heap[pa]?=some (.cells #[.int .i64 k] 3 (0,0))∧w'.heap[pe]?=some (.cells #[.iface 100 (.int .i64 c)] 26 (0,0))∧Kp (fun b=>b=pa∨b=pe) w w':=by
 refine callsD_of_wpS Tryz.func147 rfl fun c₀ cs hu=>?_
 apply wpS_seq
 apply wpS_region
 simp [wpOpsS,go_sem,recoverD,hu,Tryz.ntmps147,Exit.thenS]
 obtain⟨x0,x1⟩:=cells1 h0
 obtain⟨y0,y1⟩:=cells1 h1
 have hta:∀ w,(Instr.typeAssert (.iface 202 (.agg #[.int .i64 k,.int .i64 c])) 20 202 false).run Tryz.prog w=.ok (.agg #[.int .i64 k,.int .i64 c]) w:=fun _=>by kernel_rfl
 refine wpS_of_wp ?_
 change Code.wp Tryz.prog _ _ { tmps:=#[ptr pa,ptr pe,flt k c,undef,flt k c,undef,undef,undef,undef,undef,undef,undef,undef,undef],defers:=[] } _
 have hKa:=(Kp.refl (fun _=>False) w).alloc (.cells #[.int .i64 k,.int .i64 c] 202)
 have hf:=blk2 (blk_new w (.cells #[.int .i64 k,.int .i64 c] 202))
 have ha0:=hKa.blk h0 id
 have ha1:=hKa.blk h1 id
 have hn0:w.heap.size≠pa:=by have:=lt_blk h0;omega
 have hn1:w.heap.size≠pe:=by have:=lt_blk h1;omega
 clear x0 x1 y0 y1
 go_upto_region 3 with fail
 generalize w.alloc (.cells #[.int .i64 k,.int .i64 c] 202)=wa at *
 generalize w.heap.size=fb at *
 obtain⟨g0,g1⟩:=hf
 obtain⟨x0,x1⟩:=cells1 ha0
 obtain⟨y0,y1⟩:=cells1 ha1
 have hne2:pe≠pa:=fun e=>hne e.symm
 go_region
 all_goals
  go_wp2
  refine⟨rfl,_,rfl,_,by simp [results,Tryz.results147,go_sem],rfl,rfl,?_,?_,?_⟩
  ·show ((wa.setCell ⟨pa,0,none⟩ (.int .i64 k)).setCell ⟨pe,0,none⟩ (.iface 100 (.int .i64 c))).heap[pa]?=_
   rw [Below.heap_setCell _ _ _ _ hne,blk_set ha0];rfl
  ·show ((wa.setCell ⟨pa,0,none⟩ (.int .i64 k)).setCell ⟨pe,0,none⟩ (.iface 100 (.int .i64 c))).heap[pe]?=_
   rw [blk_set (by rw [Below.heap_setCell _ _ _ _ hne2];exact ha1)];rfl
  ·exact (((hKa.mono (fun _ _ e=>e.elim)).setCell (Or.inl (Or.inl rfl)) _).setCell (Or.inl (Or.inr rfl)) _).drew
def OutP (w:World) (r:Rs T) (e:Ending) (w':World):Prop :=
 match r with
 | .ok t _=>∃ v,e=.returned (.tuple #[v,.int .i64 0,.nilIface])∧Nd w' (Own w w') v t∧Below w.heap.size w w'
 | .err k c=>e=.returned (.tuple #[NV 0 0 nul .z .z (.slice none 0 0),.int .i64 k,.iface 100 (.int .i64 c)])∧Below w.heap.size w w'
set_option maxHeartbeats 4000000 in
theorem parse_any (s:ByteArray) (w:World) (hE:EnvF w) (hs:s.size≤140737488355328) (RR:Rs T) (hRR:parse lexP s=RR) :
  Calls Tryz.prog 126 #[.string s] w (OutP w RR):=by
 have hmf:∀ (fn:Fn) (first cap:Array Value) (w:World),(Instr.makeFunc fn first cap).run Tryz.prog w=.ok (.func fn first cap) w:=fun _ _ _ _=>rfl
 have HRF:Hid (∀ w,EnvF w→Calls Tryz.prog 148 #[.string s] w (OutF w RR)):=fun w hE=>readFormula_any s w hE hs RR hRR
 have hK0:=(((Kp.refl (fun _=>False) w).alloc (.cells NZ 57)).alloc (.cells #[.int .i64 0] 3)).alloc (.cells #[.nilIface] 26)
 have hE0:=hE.keep hK0 (fun n e=>e.elim)
 have hb0:(((w.alloc (.cells NZ 57)).alloc (.cells #[.int .i64 0] 3)).alloc (.cells #[.nilIface] 26)).heap[w.heap.size]?=some (.cells NZ 57 (0,0)):=by
  rw [Below.heap_alloc _ _ _ (by simp;omega),Below.heap_alloc _ _ _ (by simp)];exact blk_new _ _
 have hb1:(((w.alloc (.cells NZ 57)).alloc (.cells #[.int .i64 0] 3)).alloc (.cells #[.nilIface] 26)).heap[w.heap.size+1]?=some (.cells #[.int .i64 0] 3 (0,0)):=by
  rw [Below.heap_alloc _ _ _ (by simp)]
  simpa using blk_new (w.alloc (.cells NZ 57)) (.cells #[.int .i64 0] 3)
 have hb2:(((w.alloc (.cells NZ 57)).alloc (.cells #[.int .i64 0] 3)).alloc (.cells #[.nilIface] 26)).heap[w.heap.size+1+1]?=some (.cells #[.nilIface] 26 (0,0)):=by
  simpa using blk_new ((w.alloc (.cells NZ 57)).alloc (.cells #[.int .i64 0] 3)) (.cells #[.nilIface] 26)
 clear hRR
 go_enter_defers Tryz.func126,Tryz.ntmps126
 go_wp2_with fail
 refine (HRF.out _ hE0).mono ?_
 generalize ((w.alloc (.cells NZ 57)).alloc (.cells #[.int .i64 0] 3)).alloc (.cells #[.nilIface] 26)=w0 at *
 clear HRF
 intro e w1 ho
 cases RR with
 | err k c =>
  obtain⟨rfl,hb⟩:=ho
  have hq0:=((Kp.refl (fun _=>False) _).below hb).blk hb0 id
  have hq1:=((Kp.refl (fun _=>False) _).below hb).blk hb1 id
  have hq2:=((Kp.refl (fun _=>False) _).below hb).blk hb2 id
  have hKw:=hK0.below hb
  go_wp2_with fail
  refine leaves_cons (f:=147) (args:=#[ptr (w.heap.size+1),ptr (w.heap.size+1+1)]) (by simp) (by simp [go_sem]) ?_
  refine (catch_panicking (w.heap.size+1) (w.heap.size+1+1) k c _ hq1 hq2 (by omega)).mono ?_
  rintro e u' w2 ⟨rfl,rfl,ha,he,hk2⟩
  have hq3:=hk2.blk hq0 (by rintro (e | e)<;>omega)
  obtain⟨x0,x1⟩:=cells1 ha
  obtain⟨y0,y1⟩:=cells1 he
  obtain⟨⟨b0,b1,b2,b3,b4,b5,b6,b7,b8,b9,b10,b11⟩,bf⟩:=cells12 hq3
  have hfin:Below w.heap.size w w2:=(hKw.mono (fun _ _ e=>e.elim)).trans (X:=fun _=>False) hk2 (fun n e=>by right;rcases e with e | e<;>omega) |>.toBelow (Nat.le_refl _) (fun _ _ e=>e)
  have hres:(results Tryz.f126 #[.string s,undef,ptr w.heap.size,ptr (w.heap.size+1),ptr (w.heap.size+1+1),.func (.func 147) #[] #[ptr (w.heap.size+1),ptr (w.heap.size+1+1)],.string s,undef]).run Tryz.prog w2=.ok (.tuple #[NV 0 0 nul .z .z (.slice none 0 0),.int .i64 k,.iface 100 (.int .i64 c)]) w2:=by
   simp [results,Tryz.results126,go_sem,b0,b1,b2,b3,b4,b5,b6,b7,b8,b9,b10,b11,x0,y0]
  exact⟨_,hres,rfl,hfin⟩
 | ok t k =>
  obtain⟨v,rfl,hN,hb⟩:=ho
  have hq0:=((Kp.refl (fun _=>False) _).below hb).blk hb0 id
  have hq1:=((Kp.refl (fun _=>False) _).below hb).blk hb1 id
  have hq2:=((Kp.refl (fun _=>False) _).below hb).blk hb2 id
  have hKw:=hK0.below hb
  have hl0:=lt_blk hb2
  cases hN with
  | @mk a1 n1 s1 r1 t1 p1 m1 e1 us ts hk hl hs' =>
  have hN:=Nd.mk (k:=a1) (n:=n1) (s:=s1) (r:=r1) (t:=t1) hk hl hs'
  clear hk hl hs'
  obtain⟨x0,x1⟩:=cells1 hq1
  obtain⟨y0,y1⟩:=cells1 hq2
  obtain⟨⟨b0,b1,b2,b3,b4,b5,b6,b7,b8,b9,b10,b11⟩,bf⟩:=cells12 hq0
  go_wp2_with fail
  clear x0 x1 y0 y1 b0 b1 b2 b3 b4 b5 b6 b7 b8 b9 b10 b11 bf
  refine fin12 hq0 (Q:=fun W=>bodyPostD _ _ _ _ _ ((W.setCell ⟨w.heap.size+1,0,none⟩ _).setCell ⟨w.heap.size+1+1,0,none⟩ _)) ?_
  intro w2 hr2 hk2
  have hq1':=hk2.blk hq1 (by omega)
  have hq2':=hk2.blk hq2 (by omega)
  have ha:((w2.setCell ⟨w.heap.size+1,0,none⟩ (.int .i64 0)).setCell ⟨w.heap.size+1+1,0,none⟩ .nilIface).heap[w.heap.size+1]?=some (.cells #[.int .i64 0] 3 (0,0)):=by
   rw [Below.heap_setCell _ _ _ _ (by simp),blk_set hq1'];rfl
  have he:((w2.setCell ⟨w.heap.size+1,0,none⟩ (.int .i64 0)).setCell ⟨w.heap.size+1+1,0,none⟩ .nilIface).heap[w.heap.size+1+1]?=some (.cells #[.nilIface] 26 (0,0)):=by
   rw [blk_set (by rw [Below.heap_setCell _ _ _ _ (by simp)];exact hq2')];rfl
  have hr:((w2.setCell ⟨w.heap.size+1,0,none⟩ (.int .i64 0)).setCell ⟨w.heap.size+1+1,0,none⟩ .nilIface).heap[w.heap.size]?=some (.cells (N12 a1 n1 s1 r1 t1 (.slice p1 m1 e1)) 57 (0,0)):=by
   rw [Below.heap_setCell _ _ _ _ (by simp;omega),Below.heap_setCell _ _ _ _ (by simp)];exact hr2
  have hk3:Kp (fun b=>b=w.heap.size∨b=w.heap.size+1∨b=w.heap.size+1+1) w1 ((w2.setCell ⟨w.heap.size+1,0,none⟩ (.int .i64 0)).setCell ⟨w.heap.size+1+1,0,none⟩ .nilIface):=by
   have q:Kp (fun b=>b=w.heap.size∨b=w.heap.size+1∨b=w.heap.size+1+1) w1 w2:=hk2.mono (fun _ _ e=>Or.inl e)
   exact (q.setCell (p:=⟨w.heap.size+1,0,none⟩) (Or.inl (Or.inr (Or.inl rfl))) _).setCell (p:=⟨w.heap.size+1+1,0,none⟩) (Or.inl (Or.inr (Or.inr rfl))) _
  generalize (w2.setCell ⟨w.heap.size+1,0,none⟩ (.int .i64 0)).setCell ⟨w.heap.size+1+1,0,none⟩ .nilIface=w3 at *
  refine leaves_cons (f:=147) (args:=#[ptr (w.heap.size+1),ptr (w.heap.size+1+1)]) (by simp) (by simp [go_sem]) ?_
  refine (catch_idle (w.heap.size+1) (w.heap.size+1+1) _).mono ?_
  rintro e u' w4 ⟨rfl,rfl,rfl⟩
  obtain⟨x0,x1⟩:=cells1 ha
  obtain⟨y0,y1⟩:=cells1 he
  obtain⟨⟨b0,b1,b2,b3,b4,b5,b6,b7,b8,b9,b10,b11⟩,bf⟩:=cells12 hr
  have hsz0:=hb.size
  refine⟨.tuple #[NV a1 n1 s1 r1 t1 (.slice p1 m1 e1),.int .i64 0,.nilIface],by simp [results,Tryz.results126,go_sem,b0,b1,b2,b3,b4,b5,b6,b7,b8,b9,b10,b11,x0,y0],_,rfl,?_,?_⟩
  ·exact (hN.mono (fun n hn=>hk3.block n hn.2 (by have:=hn.1;rintro (e | e | e)<;>omega)) (fun n hn=>⟨by have:=hn.1;omega,Nat.lt_of_lt_of_le hn.2 hk3.size⟩))
  ·exact ((hKw.mono (fun _ _ e=>e.elim)).trans (X:=fun _=>False) hk3 (fun n e=>by right;rcases e with e | e | e<;>omega)).toBelow (Nat.le_refl _) (fun _ _ e=>e)
end Go.Proofs.YtgifkepklnhddaaGreatDoor.fm

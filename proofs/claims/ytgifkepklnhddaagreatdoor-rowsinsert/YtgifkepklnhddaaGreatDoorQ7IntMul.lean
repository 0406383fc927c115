import Derived.Test.YtgifkepklnhddaaGreatDoorQ7Int
namespace Go.Proofs.YtgifkepklnhddaaGreatDoor
open Go.RowKit
set_option maxRecDepth 100000 in
set_option maxHeartbeats 40000000 in
theorem mulM (bz b2 x y:Nat) (zn yn:Bool) (w:World) (hz:BigInt w bz zn x) (hy:BigInt w b2 yn y) (hs:Small x) (hy64:y<18446744073709551616) :
  Calls Tryz.prog 168 #[ptr bz,ptr bz,ptr b2] w fun e w'=>e=.returned (ptr bz)∧BigInt w' bz ((zn != yn) && decide (x*y≠0)) (x*y)∧∀ B,B≤bz→Below B w w':=by
 obtain⟨vx,hx1,n,f,hx2,hx3,hx4⟩:=hz.c1
 obtain⟨vy,hy1,m,g,hy2,hy3,hy4⟩:=hy.c1
 have hn:=hs n f hx3 hx4
 have hm:=two_words hy3 hy4 hy64
 have hx0:=hz.c0
 have hy0:=hy.c0
 have hlt:=hz.lt
 have hlt2:=hy.lt
 subst hx4
 subst hy4
 go_enter Tryz.func168,Tryz.ntmps168
 go_wp2_with fail
 go_region_with (first | (go_at_call 193;refine (mul_any vx vy n m f g _ (hx2.below (drew_below w)) (hy2.below (drew_below w)) (by omega)).mono ?_;rintro e w1 ⟨⟨v,rfl,hv⟩,b1⟩;have q1:=keepc hx0 hlt b1;have q2:=keepc hx1 hlt b1;have q3:=keepc hy0 hlt2 b1;have q4:=keepc hy1 hlt2 b1) | (go_at_call 192;refine (give_any bz _ v _ _ zn _ ((hz.below (drew_below w)).below b1) hv).mono ?_;rintro e w2 ⟨rfl,hz2,b2⟩))
 all_goals
  go_wp2_with fail
  go_ret
  exact⟨rfl,hz2,fun B hB=>(((drew_below w).trans b1).mono (by omega)).trans (b2 B hB)⟩
end Go.Proofs.YtgifkepklnhddaaGreatDoor

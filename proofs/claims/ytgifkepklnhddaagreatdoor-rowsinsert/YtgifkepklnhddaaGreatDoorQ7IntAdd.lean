import Derived.Test.YtgifkepklnhddaaGreatDoorQ7Int
namespace Go.Proofs.YtgifkepklnhddaaGreatDoor
open Go.RowKit
set_option maxHeartbeats 1000000 in
theorem sum_same (s:Bool) (v1 v2:Value) (n m:Nat) (f g:Nat→Nat) (w:World) (h1:Rd w v1 n f) (h2:Rd w v2 m g) (hn:n≤17592186044416) (hm:m≤17592186044416) :
  Calls Tryz.prog 194 #[.bool s,v1,.bool s,v2] w fun e w'=>(∃ v,e=.returned (.tuple #[.bool s,v])∧Num w' v (valN n f+valN m g))∧Below w.heap.size w w':=by
 go_enter Tryz.func194,Tryz.ntmps194
 go_wp2_with fail
 refine (add_any v1 v2 n m f g _ h1 h2 hn hm).mono ?_
 rintro e w1 ⟨⟨v,rfl,hv⟩,b1⟩
 go_wp2_with fail
 go_ret2
 exact⟨⟨v,rfl,hv⟩,b1⟩
set_option maxRecDepth 100000 in
set_option maxHeartbeats 40000000 in
theorem addM (bz b2 x y:Nat) (w:World) (hz:BigInt w bz false x) (hy:BigInt w b2 false y) (hs:Small x) (hy64:y<18446744073709551616) :
  Calls Tryz.prog 169 #[ptr bz,ptr bz,ptr b2] w fun e w'=>e=.returned (ptr bz)∧BigInt w' bz false (x+y)∧∀ B,B≤bz→Below B w w':=by
 obtain⟨vx,hx1,n,f,hx2,hx3,hx4⟩:=hz.c1
 obtain⟨vy,hy1,m,g,hy2,hy3,hy4⟩:=hy.c1
 have hn:=hs n f hx3 hx4
 have hm:=two_words hy3 hy4 hy64
 have hx0:=hz.c0
 have hy0:=hy.c0
 have hlt:=hz.lt
 have hlt2:=hy.lt
 subst hx4
 subst hy4
 go_enter Tryz.func169,Tryz.ntmps169
 go_wp2_with fail
 go_region_with (first | (go_at_call 194;refine (sum_same false vx vy n m f g _ (hx2.below (drew_below w)) (hy2.below (drew_below w)) hn (by omega)).mono ?_;rintro e w1 ⟨⟨v,rfl,hv⟩,b1⟩) | (go_at_call 192;refine (give_any bz false v _ _ false _ ((hz.below (drew_below w)).below b1) hv).mono ?_;rintro e w2 ⟨rfl,hz2,b2⟩))
 all_goals
  go_wp2_with fail
  go_ret
  exact⟨rfl,hz2,fun B hB=>(((drew_below w).trans b1).mono (by omega)).trans (b2 B hB)⟩
end Go.Proofs.YtgifkepklnhddaaGreatDoor

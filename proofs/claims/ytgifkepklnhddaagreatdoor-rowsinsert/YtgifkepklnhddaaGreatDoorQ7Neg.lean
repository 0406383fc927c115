import Derived.Test.YtgifkepklnhddaaGreatDoorQ7Int
namespace Go.Proofs.YtgifkepklnhddaaGreatDoor
open Go.RowKit
def cellsW (n:Nat) (f:Nat→Nat):List Value:=(List.range n).map fun i=>Value.int .u32 (f i:Int)
theorem cellsW_len (n:Nat) (f:Nat→Nat):(cellsW n f).length=n*1:=by simp [cellsW]
theorem cellsW_at {n:Nat} {f:Nat→Nat} {j:Nat} {u:Value} (h:(cellsW n f)[j]?=some u):j<n∧u=.int .u32 (f j:Int):=by
 have hj:j<n:=by
  have:=(List.getElem?_eq_some_iff.1 h).1
  rw [cellsW_len] at this;omega
 refine⟨hj,?_⟩
 unfold cellsW at h
 rw [List.getElem?_map,List.getElem?_range hj] at h
 simpa using h.symm
theorem cellsW_one {n:Nat} {f:Nat→Nat}:∀ u∈cellsW n f,u.oneCell'=true:=by
 intro u hu
 obtain⟨_,_,rfl⟩:=List.mem_map.1 hu
 rfl
theorem own_words {w:World} {base:Nat} {v:Value} {n:Nat} {f:Nat→Nat} (h:w.ownsRow base 233 1 v n (cellsW n f)) (hn:n≤17592186044420) (hf:∀ i,i<n→f i<4294967296):Rd w v n f:=by
 obtain⟨_,h | ⟨g,cap,cur,rfl,hb,hg,hc,hm,hs,ht⟩⟩:=h
 ·exact Or.inl h
 ·refine Or.inr ⟨g,cap,rfl,hc,hn,by unfold maxLen at hm;omega,?_,?_,hf⟩
  ·by_cases q:g<w.heap.size
   ·exact q
   ·rw [Array.getElem?_eq_none (by omega)] at hg;cases hg
  ·intro i hi
   have h1:(cellsW n f)[i]?=some (.int .u32 (f i:Int)):=by
    unfold cellsW
    rw [List.getElem?_map,List.getElem?_range hi]
    rfl
   rw [← ht,Nat.mul_one,List.getElem?_take,if_pos hi] at h1
   simp [World.cell?,hg]
   simpa using h1
set_option maxRecDepth 100000 in
set_option maxHeartbeats 1000000 in
theorem twin_some (b n cap:Nat) (f:Nat→Nat) (w:World) (h:RdS w b n cap f) :
  Calls Tryz.prog 195 #[.slice (some ⟨b,0,none⟩) n cap] w fun e w'=>(∃ v,e=.returned v∧Rd w' v n f)∧Below w.heap.size w w':=by
 obtain⟨i0,hi,hz0,hz1,hz2⟩:=info_parts info85
 have hlim:=h.lim
 have hone:∀ j u,(cellsW n f)[j]?=some u→w.cell? ((⟨b,0,none⟩:Addr).add j)=some u:=by
  intro j u hu
  obtain⟨hj,rfl⟩:=cellsW_at hu
  have:=h.cell j hj
  by_cases hz:j=0
  ·subst hz;simpa [Addr.add] using this
  ·simpa [Addr.add,hz] using this
 go_enter Tryz.func195,Tryz.ntmps195
 go_wp2_with (first | (at_builtin;refine wpList_append_own _ rfl _ _ 237 rfl w.heap.size 233 i0 (.int .u32 0) 1 4 Tryz.underlying237 hi hz0 hz1 hz2 rfl (by decide) _ _ _ rfl (World.ownsRow_nil _ _ _ _) ⟨b,0,none⟩ n cap (cellsW n f) rfl (cellsW_len n f) hone cellsW_one (by unfold maxLen;omega) (by omega) (Nat.le_refl _) ?_;intro v' w1 hown hgrow _))
 go_ret
 exact⟨⟨v',rfl,own_words (by simpa using hown) hlim h.word⟩,(Below.refl _ _).grown hgrow (Nat.le_refl _) (fun k hk=>by cases hk)⟩
theorem twin_nil (w:World) :
  Calls Tryz.prog 195 #[.slice none 0 0] w fun e w'=>e=.returned (.slice none 0 0)∧w'=w:=by
 go_enter Tryz.func195,Tryz.ntmps195
 go_wp2
 go_ret
 exact⟨rfl,rfl⟩
theorem twin_num (v:Value) (x:Nat) (w:World) (h:Num w v x) :
  Calls Tryz.prog 195 #[v] w fun e w'=>(∃ v',e=.returned v'∧Num w' v' x)∧Below w.heap.size w w':=by
 obtain⟨n,f,h1,h2,h3⟩:=h
 rcases h1 with ⟨rfl,rfl⟩ | ⟨b,cap,rfl,h1⟩
 ·refine (twin_nil w).mono ?_
  rintro e w' ⟨rfl,rfl⟩
  exact⟨⟨_,rfl,0,f,Or.inl ⟨rfl,rfl⟩,h2,h3⟩,Below.refl _ _⟩
 ·refine (twin_some b n cap f w h1).mono ?_
  rintro e w' ⟨⟨v',rfl,hv⟩,hb⟩
  exact⟨⟨v',rfl,n,f,hv,h2,h3⟩,hb⟩
end Go.Proofs.YtgifkepklnhddaaGreatDoor


/- Three in one form; sccsame.Sheets at no cells and a list. Conditions: as each theorem says. -/
import Derived.Test.YtomgjjngkffbbaaGreatDoorMgt
namespace Go.Proofs.YtomgjjngkffbbaaGreatDoor.fw
open Go Go.RowKit Go.Sort Go.Maps
/-- What Three answers, in one form. -/
def ThG (w : World) (s a b : List ps.Fl) (pv : Option Addr) (nv cv : Nat) (pu : Option Addr) (nu cu : Nat) (ev : Value) (w' : World) : Prop :=
  Bw w w' ∧ ((∃ z, ev = .iface 67 (.int .i64 z) ∧ pv = none ∧ nv = 0 ∧ cv = 0 ∧ pu = none ∧ nu = 0 ∧ cu = 0 ∧ ¬ (ps.Told s 0 ∧ ps.Told a 0 ∧ ps.Told b 0 ∧ (ps.th s a b).length ≤ 200)) ∨
    (ev = .nilIface ∧ ps.Told s 0 ∧ ps.Told a 0 ∧ ps.Told b 0 ∧ nv = (ps.th s a b).length ∧ nu = (boT s a b).length ∧ nv ≤ 200 ∧ FC w' pv cv (ps.th s a b) ∧ RV cL w (.slice pu nu cu) (boT s a b) w'))
theorem shT_not {p q r : Option Addr} {cp cq cr : Nat} {s a b : List ps.Fl} {t : Int} (h : ShT [⟨p, cp, s⟩, ⟨q, cq, a⟩, ⟨r, cr, b⟩] t) (h0 : t ≠ 0) : ¬ (ps.Told s 0 ∧ ps.Told a 0 ∧ ps.Told b 0) := by
  rintro ⟨h1, h2, h3⟩
  rcases h with ⟨g, hn⟩ | ⟨-, ⟨g, hn⟩ | ⟨-, ⟨g, hn⟩ | ⟨-, g⟩⟩⟩
  · exact hn (g.one h1)
  · exact hn (g.one h2)
  · exact hn (g.one h3)
  · exact h0 g
theorem three_gen (p q r : Option Addr) (cp cq cr : Nat) (s a b : List ps.Fl) (w : World) (hs : ps.FM w p s) (ha : ps.FM w q a) (hb : ps.FM w r b) (hE : ps.EnvP w) :
    Calls Tryz.prog 16 #[.slice p s.length cp, .slice q a.length cq, .slice r b.length cr] w fun e w' => ∃ pv nv cv pu nu cu ev, e = .returned (.tuple #[.slice pv nv cv, .slice pu nu cu, ev]) ∧ ThG w s a b pv nv cv pu nu cu ev w' := by
  refine (three_any p q r cp cq cr s a b w hs ha hb hE).mono fun e w' ⟨t, h1, h2⟩ => ?_
  rcases h2 with ⟨h0, rfl, hbw⟩ | ⟨rfl, v, u, rfl, hv, hu⟩
  · rw [ps.errV_some h0]
    refine ⟨none, 0, 0, none, 0, 0, _, rfl, hbw, .inl ⟨t, rfl, rfl, rfl, rfl, rfl, rfl, rfl, ?_⟩⟩
    rintro ⟨t1, t2, t3, hl⟩
    rcases h1 with ⟨h3, -⟩ | ⟨-, h3, -⟩ | ⟨-, -, h3⟩
    · exact shT_not h3 h0 ⟨t1, t2, t3⟩
    · omega
    · exact h0 h3
  · obtain ⟨pv, cv, rfl, hf⟩ := hv.fc
    obtain ⟨pu, cu, rfl, -⟩ := hu.form
    rcases h1 with ⟨-, h3⟩ | ⟨-, -, h3⟩ | ⟨h3, h4, -⟩
    · exact absurd rfl h3
    · cases h3
    · obtain ⟨t1, t2, t3⟩ := shT_all h3
      exact ⟨pv, _, cv, pu, _, cu, _, rfl, hv.below, .inr ⟨rfl, t1, t2, t3, rfl, rfl, h4, hf, hu⟩⟩
set_option maxHeartbeats 4000000 in
/-- sccsame.Sheets at no cells and a list. -/
theorem rsheets_nil (n : Nat) (r : Option Addr) (cr : Nat) (w : World) :
    Calls Tryz.prog 21 #[.slice none 0 0, .slice r n cr] w fun e w' => (∃ x, e = .returned (.bool x)) ∧ Bw w w' := by
  have hb0 : Bw w w := Below.refl _ _
  by_cases h : n = 0
  · subst h
    go_enter Tryz.func21, Tryz.ntmps21
    go_upto_block 0 with fail
    go_cut [] (fun wx => Hid (wx = w))
    case first =>
      go_wp2_with fail
      go_loopw [5] (fun s5 wr => s5 = .int .i64 0 ∧ Hid (wr = w)) (fun _ _ => 0)
      case atStart => exact ⟨rfl, rfl⟩
      case round =>
        obtain ⟨rfl, HR⟩ := hrel
        go_wp2_with fail
        go_meet
        case rel => exact HR
    case rest =>
    obtain rfl := hcut.out
    clear hcut
    apply_assumption
    go_wp2_with fail
    go_ret
    exact ⟨⟨_, rfl⟩, hb0⟩
  · have h1 : ¬ (0 : Int) = (n : Int) := by omega
    have h2 : ¬ (n : Int) = 0 := by omega
    go_enter Tryz.func21, Tryz.ntmps21
    go_wp2_with fail
    go_ret
    exact ⟨⟨_, rfl⟩, hb0⟩
/-- The fact of the law: nothing, the small sheet, nothing. -/
theorem th_small : ps.th [] smL [] = smL := by
  unfold ps.th
  rw [df_nil told_sm.fine]
  rfl
theorem boT_second (s a : List ps.Fl) : boT s a s = [] := by rw [boT_turned, boT_first]
end Go.Proofs.YtomgjjngkffbbaaGreatDoor.fw


/- The law CsvWrites, walked. Conditions: as the theorem says. -/
import Derived.Test.YtldmjipkmplhbaaDoorCwj
namespace Go.Proofs.YtldmjipkmplhbaaDoor.fw
open Go.RowKit Go.Sort
set_option maxRecDepth 1000000 in
set_option maxHeartbeats 4000000 in
theorem csvWrites_any (t : List (List ByteArray)) (p : Option Addr) (c : Nat) (w : World) (h : RM w p t) (hl : t.length ≤ 70368744177664) (hl2 : ∀ r ∈ t, r.length ≤ 70368744177664 ∧ ∀ f ∈ r, f.size ≤ 140737488355328) (hm : ∃ m, w.cell? ⟨1, 0, none⟩ = some (.int .i64 m))
    (hS : ∀ wx e, Bw w wx → Calls Tryd.prog 8 #[errW e, .int .i64 e] wx fun r w' => r = .returned (.bool true) ∧ Bw wx w') :
    Calls Tryd.prog 3 #[.slice p t.length c] w fun e w' => e = .returned (.bool true) ∧ Bw w w' := by
  have HC : Hid (Calls Tryd.prog 6 #[.slice p t.length c] w fun e w' => CsO w t e w') := rcsv_any t p c w h hl hl2
  have HW : Hid (∀ wx, Bw w wx → Calls Tryd.prog 7 #[.slice p t.length c] wx fun e w' => WrO wx t e w') := fun wx hb => by
    obtain ⟨m, hm⟩ := hm
    exact write_any t p c wx (h.next hb) hl hl2 ⟨m, by rw [hb.cell (p := ⟨1, 0, none⟩) (World.block_lt_of_cell? w _ hm)]; exact hm⟩
  have HS : Hid (∀ wx, Bw w wx → Calls Tryd.prog 8 #[errW (csvE (btt t)), .int .i64 (csvE (btt t))] wx fun r w' => r = .returned (.bool true) ∧ Bw wx w') := fun wx hb => hS wx _ hb
  have hl9 : (t.length : Int) ≤ 70368744177664 := by omega
  clear h hl hl2 hm hS
  unfold CsO at HC
  unfold WrO at HW
  generalize csvS (btt t) = S at *
  generalize errW (csvE (btt t)) = E at *
  generalize csvE (btt t) = n at *
  go_enter Tryd.func3, Tryd.ntmps3
  go_wp2_with (first | (go_at_call 6; with_reducible refine HC.out.mono ?_; rintro e w1 ⟨rfl, hb1⟩) | (go_at_call 7; with_reducible refine (HW.out _ (by assumption)).mono ?_; rintro e w2 ⟨rfl, hb2⟩) | (go_at_call 8; with_reducible refine (HS.out _ (Bw.tr (by assumption) (by assumption))).mono ?_; rintro e w3 ⟨rfl, hb3⟩))
  go_ret
  exact ⟨by simp, Bw.tr (Bw.tr (by assumption) (by assumption)) (by assumption)⟩
end Go.Proofs.YtldmjipkmplhbaaDoor.fw


/- The program's Show at a number, walked. Conditions: as each theorem says. -/
import Derived.Test.YtnelglmbckgbgaaGreatDoorFxd
namespace Go.Proofs.YtnelglmbckgbgaaGreatDoor.fw
open Go.RowKit Go.Sort
/-- What Show answers of a number. -/
def snV (o : Option LK) (n : Int) : Value := match o with
  | some k => .tuple #[.string (txt (showL k n)), .nilIface]
  | none => .tuple #[.string ⟨#[]⟩, .iface 50 (.int .i64 2)]
set_option maxRecDepth 100000 in
set_option maxHeartbeats 4000000 in
theorem showNum_any (n : Int) (u s : ByteArray) (w : World) (h0 : -9223372036854775808 ≤ n) (h1 : n ≤ 9223372036854775807)
    (HI : Hid (∀ wx, Bw w wx → Calls Tryz.prog 31 #[.int .i64 n] wx fun e w' => e = .returned (.string (txt (Lib.itoa n))) ∧ Bw wx w')) :
    Calls Tryz.prog 10 #[.agg #[.int .i64 1, .int .i64 n, .string u], .string s] w fun e w' => e = .returned (snV (rcL s.toList) n) ∧ Bw w w' := by
  have hr := readCode_any s
  cases ho : rcL s.toList with
  | none =>
    rw [ho] at hr
    have hr' : ∀ wx, Calls Tryz.prog 17 #[.string s] wx fun e w' => e = .returned (.tuple #[.agg #[.string ⟨#[]⟩, .bool false, .int .i64 0, .int .i64 0, .string ⟨#[]⟩], .iface 50 (.int .i64 2)]) ∧ Bw wx w' := hr
    clear hr ho HI
    show Calls _ _ _ _ fun e w' => e = .returned (.tuple #[.string ⟨#[]⟩, .iface 50 (.int .i64 2)]) ∧ Bw w w'
    go_enter Tryz.func10, Tryz.ntmps10
    go_wp2_with fail
    refine (hr' _).mono ?_
    rintro e w1 ⟨rfl, hb1⟩
    have HB1 : Hid (Bw w w1) := (Bw.al _ _).tr hb1
    clear hb1 hr'
    go_wp2_with fail
    exact bodyPost_ret (v := .tuple #[_, _]) (by simp [results, Tryz.results10, go_sem]) rfl ⟨rfl, HB1.out.alc _⟩
  | some k =>
    rw [ho] at hr
    obtain ⟨ha, hd, hp, hbh, -⟩ := rcL_le ho
    have hr' : ∀ wx, Calls Tryz.prog 17 #[.string s] wx fun e w' => e = .returned (.tuple #[.agg #[.string (txt k.ahead), .bool k.three, .int .i64 (k.digits : Int), .int .i64 (k.places : Int), .string (txt k.behind)], .nilIface]) ∧ Bw wx w' := hr
    have HS : Hid (∀ wx, Bw w wx → Calls Tryz.prog 20 #[.agg #[.string (txt k.ahead), .bool k.three, .int .i64 (k.digits : Int), .int .i64 (k.places : Int), .string (txt k.behind)], .int .i64 n] wx fun e w' => e = .returned (.string (txt (showL k n))) ∧ Bw wx w') := fun wx hb => show_any k n wx h0 h1 (by omega) hbh (by omega) (by omega) (fun wy hb2 => HI.out wy (hb.tr hb2))
    clear hr ho HI
    show Calls _ _ _ _ fun e w' => e = .returned (.tuple #[.string (txt (showL k n)), .nilIface]) ∧ Bw w w'
    generalize txt (showL k n) = R at *
    generalize txt k.ahead = A at *
    generalize txt k.behind = BH at *
    generalize k.three = t at *
    generalize (k.digits : Int) = d at *
    generalize (k.places : Int) = p at *
    go_enter Tryz.func10, Tryz.ntmps10
    go_upto_region 1 with fail
    have HV : Hid ((w.alloc (.cells #[.int .i64 1, .int .i64 n, .string u] 23)).heap[w.heap.size]? = some (.cells #[.int .i64 1, .int .i64 n, .string u] 23 (0, 0))) := heap_alloc_new w _
    have HA0 : Hid (Bw w (w.alloc (.cells #[.int .i64 1, .int .i64 n, .string u] 23))) := Bw.al _ _
    have hlt : w.heap.size < (w.alloc (.cells #[.int .i64 1, .int .i64 n, .string u] 23)).heap.size := by simp
    generalize (w.alloc (.cells #[.int .i64 1, .int .i64 n, .string u] 23)) = wa at *
    go_wp2_with fail
    refine (hr' _).mono ?_
    rintro e w1 ⟨rfl, hb1⟩
    have HB1 : Hid (Bw w w1) := HA0.out.tr hb1
    have hv1 : w1.heap[w.heap.size]? = some (.cells #[.int .i64 1, .int .i64 n, .string u] 23 (0, 0)) := by rw [hb1.block _ hlt]; exact HV.out
    have hv2 := (Bw.al w1 (.cells #[.string A, .bool t, .int .i64 d, .int .i64 p, .string BH] 47)).block w.heap.size (Array.getElem?_eq_some_iff.1 hv1).1
    rw [hv1] at hv2
    have c0 : (w1.alloc (.cells #[.string A, .bool t, .int .i64 d, .int .i64 p, .string BH] 47)).cell? ⟨w.heap.size, 0, none⟩ = some (.int .i64 1) := by simp only [World.cell?, hv2]; rfl
    have c1 : (w1.alloc (.cells #[.string A, .bool t, .int .i64 d, .int .i64 p, .string BH] 47)).cell? ⟨w.heap.size, 1, none⟩ = some (.int .i64 n) := by simp only [World.cell?, hv2]; rfl
    have HB2 : Hid (Bw w (w1.alloc (.cells #[.string A, .bool t, .int .i64 d, .int .i64 p, .string BH] 47))) := HB1.out.alc _
    clear hb1 hr' hv1 hv2 HV HA0 hlt
    go_wp2_with fail
    refine (HS.out _ HB2.out).mono ?_
    rintro e w3 ⟨rfl, hb3⟩
    have HB3 : Hid (Bw w w3) := HB2.out.tr hb3
    clear hb3 c0 c1
    go_wp2_with fail
    exact bodyPost_ret (v := .tuple #[.string R, .nilIface]) (by simp [results, Tryz.results10, go_sem]) rfl ⟨rfl, HB3.out⟩
end Go.Proofs.YtnelglmbckgbgaaGreatDoor.fw

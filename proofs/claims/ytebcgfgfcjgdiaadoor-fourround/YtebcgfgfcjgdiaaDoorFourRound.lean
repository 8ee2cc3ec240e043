/- For every address the statement FourRound answers true, where the library's three tables hold what the program's text lays in them (the card ties them): its text and its bytes are the reference's, and are read as they were, strict and loose, with a dot behind too. -/
import Derived.Test.YtebcgfgfcjgdiaaDoorPrints
import Derived.Test.YtebcgfgfcjgdiaaDoorDoorKit
import Derived.ProofKit
import Derived.OpenShut
import Derived.ShutString
import Derived.ChangeOld
import Derived.Below
namespace Go.Proofs.YtebcgfgfcjgdiaaDoor.fourRound
open Go.ChangeShapes Go.WideShapes Go.ChangeAt Go.RowKit
open Go.ChangeMaps (open_string shut_string)
set_option linter.unusedVariables false

theorem own : ownKnob Tryd.prog.godebug = none := by kernel_rfl

set_option maxRecDepth 100000 in
set_option maxHeartbeats 4000000 in
theorem walk (a0 : Int) (w0 : (Lit.int .u32 a0).wf = true) (w : World)
    (htab : ∀ w', Below w.heap.size w w' → Lib.TabIs Tryd.prog w' "internal/strconv.uint64pow10" .u64 Lib.pow10Tab) :
    Calls Tryd.prog 3 #[.int .u32 a0] w fun e w' => e = .returned (.bool true) ∧ Below w.heap.size w w' := by
  obtain ⟨n, hn, rfl⟩ : ∃ n : Nat, n ≤ 4294967295 ∧ a0 = (n : Int) := by
    have := bounds_u32 w0
    exact ⟨a0.toNat, by omega, by omega⟩
  obtain ⟨a, b, c, d, ha, hb, hc, hd, hN⟩ := num4_ex n hn
  have HT := Lib.hid htab
  have HN := Lib.hid hN
  have e1 : (n : Int) / 16777216 = (a : Int) := by unfold num4 at hN; omega
  have e4 : (n : Int) % 256 = (d : Int) := by unfold num4 at hN; omega
  have HZ := Lib.hid (text4_size a b c d ha hb hc hd)
  have H1 := Lib.hid (text4_strict a b c d n ha hb hc hd hN)
  have H2 := Lib.hid (text4_loose a b c d n ha hb hc hd hN)
  have H3 := Lib.hid (fun X hX => text4_dot a b c d n X hX ha hb hc hd hN)
  clear htab w0 hN
  go_enter Tryd.func3, Tryd.ntmps3
  go_wp2_with fail
  refine (print_any a b c d n _ ha hb hc hd HN.out HT.out).mono ?_
  rintro e w1 ⟨rfl, hb1⟩
  have HP : Hid (∀ w, Calls Tryd.prog 9 #[.int .u32 (n : Int)] w fun e w' => e = .returned (.string (text4 a b c d)) ∧ Below w.heap.size w w') := Lib.hid (fun w => refPrint_any a b c d n w ha hb hc hd HN.out)
  generalize text4 a b c d = T at *
  have hz := HZ.out
  have hself : (T.toList == T.toList) = true := by simp
  go_wp2_with fail
  refine (strict_at T (some n) _ (by omega) H1.out).mono ?_
  rintro e w2 ⟨rfl, hb2⟩
  unfold strictRet
  go_wp2_with fail
  refine (loose_at T (n, 2) _ (by omega) H2.out).mono ?_
  rintro e w3 ⟨rfl, hb3⟩
  unfold looseRet
  go_wp2_with fail
  refine (loose_at _ (n, 2) _ ?_ (H3.out _ rfl)).mono ?_
  · rw [ByteArray.size_append]; show T.size + 1 ≤ 1000000; omega
  rintro e w4 ⟨rfl, hb4⟩
  unfold looseRet
  go_wp2_with fail
  refine (bytes_any a b c d n _ ha hb hc hd HN.out).mono ?_
  rintro e w5 ⟨rfl, hb5⟩
  unfold arr4
  go_wp2_with fail
  refine (HP.out _).mono ?_
  rintro e w6 ⟨rfl, hb6⟩
  have k0 : w6.cell? ⟨w5.heap.size, 0, none⟩ = some (.int .u8 (a : Int)) := by rw [hb6.cell (p := ⟨w5.heap.size, 0, none⟩) (by simp)]; simp [World.cell?_alloc_new]
  have k1 : w6.cell? ⟨w5.heap.size, 1, none⟩ = some (.int .u8 (b : Int)) := by rw [hb6.cell (p := ⟨w5.heap.size, 1, none⟩) (by simp)]; simp [World.cell?_alloc_new]
  have k2 : w6.cell? ⟨w5.heap.size, 2, none⟩ = some (.int .u8 (c : Int)) := by rw [hb6.cell (p := ⟨w5.heap.size, 2, none⟩) (by simp)]; simp [World.cell?_alloc_new]
  have k3 : w6.cell? ⟨w5.heap.size, 3, none⟩ = some (.int .u8 (d : Int)) := by rw [hb6.cell (p := ⟨w5.heap.size, 3, none⟩) (by simp)]; simp [World.cell?_alloc_new]
  have hlt6 : w5.heap.size < w6.heap.size := Nat.lt_of_lt_of_le (by simp) hb6.size
  have b5 := chain (chain (chain (chain hb1 hb2) hb3) hb4) hb5
  have b6 : Below w.heap.size w w6 := (b5.alloc b5.size _).trans (hb6.mono (b5.alloc b5.size _).size)
  go_wp2_with fail
  refine (of_num a b c d n _ ha hb hc hd HN.out).mono ?_
  rintro e w7 ⟨rfl, hb7⟩
  have j0 : w7.cell? ⟨w5.heap.size, 0, none⟩ = some (.int .u8 (a : Int)) := by rw [hb7.cell (p := ⟨w5.heap.size, 0, none⟩) hlt6]; exact k0
  have j3 : w7.cell? ⟨w5.heap.size, 3, none⟩ = some (.int .u8 (d : Int)) := by rw [hb7.cell (p := ⟨w5.heap.size, 3, none⟩) hlt6]; exact k3
  clear k0 k1 k2 k3
  go_wp2_with fail
  refine (lives_any _).mono ?_
  rintro e w8 ⟨rfl, hb8⟩
  go_wp2
  go_ret
  exact ⟨rfl, chain (chain b6 hb7) hb8⟩

theorem door_met (os : Os) (args : Array Value) : laidMetH Tryd.prog Rows.fourRoundRow.laid ((World.doorLaid Tryd.prog 400 os).forCall (fun _ _ => 0) ⟨#[], args, []⟩).memory :=
  laidMetH_of_parts3 (fuel := 8) (laidMet_of_run' 8 (by kernel_rfl) (by kernel_rfl)) (by kernel_rfl) (by kernel_rfl)

set_option maxRecDepth 100000 in
theorem lifted (os : Os) (started : os.Started) (H : Type) (enc : TypeId × Value → H) :
    ReturnsInHanded {} Tryd.checked os 3 .any (fun w args => (Rows.fourRoundSpec.pre enc Tryd.prog Tryd.f3 [] false w args ∧ laidMetH Tryd.prog Rows.fourRoundRow.laid w) ∧ sizedMet enc Tryd.prog Tryd.f3 (OpenSpec.ofChange Rows.fourRoundSpec) false w args)
      (Rows.fourRoundSpec.post enc Tryd.prog Tryd.f3 false true false false) := by
  refine returnsInHanded_of_change_and (C := Tryd.checked) (X := fun w _ => laidMetH Tryd.prog Rows.fourRoundRow.laid w) (fun _ _ _ hh h => h.of_heap hh) own started (by kernel_rfl) Tryd.func3
    (ChangeSpec.witness_shaped (enc := enc) (C := Tryd.checked) (os := os) (X := fun w _ => laidMetH Tryd.prog Rows.fourRoundRow.laid w) false (World.doorLaid Tryd.prog 400 os) #[.int .u32 0] 8 rfl (World.shaped_of_RefB (by kernel_rfl) (by kernel_rfl)) (by kernel_rfl) (by kernel_rfl) (by kernel_rfl) (door_met os _)) ?_
  intro W base args ds gs before hval0 hW _ _ hL _
  have hval : ∀ (j : Nat) t v, Tryd.f3.params[j]? = some t → args[j]? = some v → Value.okWide Tryd.prog W .any base t v := hval0
  have hW' := hW
  obtain ⟨p, q, hA0, hV, rfl, hfz, hnd⟩ := hW
  have hA : DataW.TrodAll enc Tryd.prog W 0 (fun _ => true) true Tryd.f3.params.toList args.toList ds p := hA0
  rw [Tryd.params3] at hA hval
  obtain ⟨v0, vs0, d0, ds0, p0, q0, hargs, rfl, rfl, h0, r0⟩ := trodAll_cons hA
  obtain ⟨rfl, rfl, rfl⟩ := trodAll_nil r0
  obtain rfl : args = #[v0] := by cases args; simp_all
  obtain ⟨rfl, rfl⟩ := trodVars_none hV
  obtain ⟨a0, rfl, rfl, rfl, w0⟩ := open_int Tryd.underlying22 (hval 0 22 v0 rfl rfl) h0
  clear hA0 hval0
  refine (walk a0 w0 W (of_laid Rows.fourRoundRow.laid rfl hL)).mono fun e W' ⟨he, bel⟩ => ?_
  subst he
  exact ⟨_, rfl, _, _, _, [], _, [], hW', trodAll_mk1 (shut_bool Tryd.underlying4 _), (trodAll_cons_mk (shut_int Tryd.underlying22 w0) trodAll_mk0), rfl, bel.frame _, fun h => by cases h⟩

theorem over : Rows.FourRoundSaid :=
  OpenClaim.holds_of_wide 3 Tryd.f3 rfl rfl rfl rfl rfl rfl rfl ⟨rfl, rfl, rfl, rfl, rfl⟩ rfl rfl rfl rfl rfl (by kernel_rfl) Tryd.func3 (by kernel_rfl)
    (of_decide_eq_true (by kernel_rfl)) (by unfold Func.isWrapper; first | (rw [if_pos (by decide +kernel)]; kernel_rfl) | (rw [if_neg (by decide +kernel)]; exact ⟨rfl, rfl⟩))
    (fun os started H enc _ => lifted os started H enc)


theorem proved : Rows.FourRoundCardSaid :=
  Claim7.holds_tied_plain_at .later [] [.data, .data, .data] true _ false
    over (fun _ h => by cases h) (by kernel_rfl) (fun _ h => by cases h) fourRound_row_tie rfl ⟨rfl, rfl⟩ (by kernel_rfl) rfl
    (fun f fn hf hfn => by
      obtain rfl : f = 3 := Option.some.inj ((show Tryd.prog.funcNamed "abatis/abatislaw02.FourRound" = some 3 by kernel_rfl).symm.trans hf) |>.symm
      obtain rfl : fn = Tryd.f3 := (Option.some.inj (Tryd.func3.symm.trans hfn)).symm
      exact ⟨by kernel_rfl, fun j t ht => by
        rw [Tryd.params3] at ht
        have hm : t ∈ [22] := by simpa using Array.mem_of_getElem? ht
        have hall : ([22].all fun u => !Tryd.prog.wantsStandIn u) = true := by kernel_rfl
        exact (show Tryd.prog.wantsStandIn t = false by simpa using List.all_eq_true.1 hall t hm)⟩)
    (by kernel_rfl)
#print axioms proved
end Go.Proofs.YtebcgfgfcjgdiaaDoor.fourRound

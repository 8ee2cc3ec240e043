/- The row of zeros that the landed six.Run tells has two groups or more, all 0, no longer one is there, nor one as long ahead; for every address. A tied card: three tables of the library hold what the program lays in them. -/
import Derived.Test.YtkdinhgflkfbkaaDoorSixLives
import Derived.Test.YtkdinhgflkfbkaaDoorDoorTabs
import Derived.Test.YtkdinhgflkfbkaaDoorOpenArr
import Derived.ProofKit
import Derived.OpenShut
import Derived.ShutString
import Derived.ChangeOld
import Derived.Below
namespace Go.Proofs.YtkdinhgflkfbkaaDoor.sixRuns
open Go.ChangeShapes Go.WideShapes Go.ChangeAt Go.RowKit
open Go.ChangeMaps (open_string shut_string)
set_option linter.unusedVariables false

theorem own : ownKnob Tryd.prog.godebug = none := by kernel_rfl

/-- What the law asks of the row of zeros, of a pattern of zeros. -/
def runsOk (gs : List Nat) : Bool :=
  (runB gs).2 != 1 && ((runB gs).2 != 0 || (runB gs).1 == 0) && decide ((runB gs).1 + (runB gs).2 ≤ 8) &&
  (List.range 8).all fun k => decide ((ownTo gs (k + 1)).2.2 ≤ max (runB gs).2 1) && !((ownTo gs (k + 1)).2.2 == (runB gs).2 && decide (0 < (runB gs).2) && decide (k + 1 - (ownTo gs (k + 1)).2.2 < (runB gs).1)) && !(decide ((runB gs).1 ≤ k) && decide (k < (runB gs).1 + (runB gs).2) && decide (¬ gs.getD k 0 = 0))
set_option maxRecDepth 100000 in
theorem runs_bits : ∀ b0 b1 b2 b3 b4 b5 b6 b7 : Bool, runsOk [bit b0, bit b1, bit b2, bit b3, bit b4, bit b5, bit b6, bit b7] = true := by decide +kernel
theorem runs_congr {gs hs : List Nat} (h : ∀ i, gs.getD i 0 = 0 ↔ hs.getD i 0 = 0) : runsOk gs = runsOk hs := by
  have e1 : runB gs = runB hs := runTo_congr h 8
  have e2 : ∀ k, ownTo gs k = ownTo hs k := ownTo_congr h
  unfold runsOk
  rw [e1]
  congr 1
  apply List.all_congr rfl
  intro k
  rw [e2]
  have e3 : decide (¬ gs.getD k 0 = 0) = decide (¬ hs.getD k 0 = 0) := decide_eq_decide.2 (not_congr (h k))
  rw [e3]
theorem runs_ok (gs : List Nat) (h8 : gs.length = 8) : runsOk gs = true := by
  obtain ⟨x0, x1, x2, x3, x4, x5, x6, x7, rfl⟩ := list8 gs h8
  have hb : ∀ x : Nat, x = 0 ↔ bit (decide (x = 0)) = 0 := by
    intro x
    unfold bit
    by_cases h : x = 0
    · simp [h]
    · simp [h]
  rw [runs_congr (hs := [bit (decide (x0 = 0)), bit (decide (x1 = 0)), bit (decide (x2 = 0)), bit (decide (x3 = 0)), bit (decide (x4 = 0)), bit (decide (x5 = 0)), bit (decide (x6 = 0)), bit (decide (x7 = 0))]) (by
    intro i
    match i with
    | 0 => exact hb x0
    | 1 => exact hb x1
    | 2 => exact hb x2
    | 3 => exact hb x3
    | 4 => exact hb x4
    | 5 => exact hb x5
    | 6 => exact hb x6
    | 7 => exact hb x7
    | i + 8 => exact Iff.rfl)]
  exact runs_bits _ _ _ _ _ _ _ _
theorem runs_facts (gs : List Nat) (A M : Nat) (h8 : gs.length = 8) (h : runB gs = (A, M)) :
    M ≠ 1 ∧ (M = 0 → A = 0) ∧ A + M ≤ 8 ∧ ∀ k, k < 8 → (ownTo gs (k + 1)).2.2 ≤ max M 1 ∧ (0 < M → (ownTo gs (k + 1)).2.2 = M → A ≤ k + 1 - (ownTo gs (k + 1)).2.2) ∧ (A ≤ k → k < A + M → gs.getD k 0 = 0) := by
  have hr := runs_ok gs h8
  unfold runsOk at hr
  rw [h] at hr
  simp only [Bool.and_eq_true, bne_iff_ne, ne_eq, Bool.or_eq_true, beq_iff_eq, decide_eq_true_eq, List.all_eq_true, List.mem_range, Bool.not_eq_true', Bool.and_eq_false_iff, decide_eq_false_iff_not] at hr
  obtain ⟨⟨⟨h1, h2⟩, h3⟩, h4⟩ := hr
  refine ⟨h1, fun h0 => by rcases h2 with h2 | h2; · exact absurd h0 h2
                           · exact h2, h3, fun k hk => ?_⟩
  obtain ⟨⟨h5, h6⟩, h7⟩ := h4 k hk
  refine ⟨h5, fun hM he => ?_, fun ha hb => ?_⟩
  · rcases h6 with h6 | h6
    · rcases h6 with h6 | h6
      · rw [beq_eq_false_iff_ne] at h6; exact absurd he h6
      · exact absurd hM h6
    · omega
  · rcases h7 with h7 | h7
    · rcases h7 with h7 | h7
      · exact absurd ha h7
      · exact absurd hb h7
    · exact Classical.not_not.1 h7

set_option maxRecDepth 100000 in
set_option maxHeartbeats 2000000 in
theorem walk8 (gs : List Nat) (h8 : gs.length = 8) (hlt : ∀ x ∈ gs, x < 65536) (w : World) (htab : Tabs w) :
    Calls Tryd.prog 9 #[arr8 gs] w fun e w' => e = .returned (.bool true) ∧ Below w.heap.size w w' := by
  obtain ⟨⟨A, M⟩, hAM⟩ : ∃ p, runB gs = p := ⟨_, rfl⟩
  obtain ⟨hM1, hM0, hAM8, hall⟩ := runs_facts gs A M h8 hAM
  have HRn := Lib.hid (fun w => sixRun_any gs w h8 hlt)
  rw [hAM] at HRn
  obtain ⟨x0, x1, x2, x3, x4, x5, x6, x7, hgs⟩ := list8 gs h8
  have hA := Arr8.new w 24 x0 x1 x2 x3 x4 x5 x6 x7
  have b0 : Below w.heap.size w (w.alloc (.cells #[.int .u16 (x0 : Int), .int .u16 (x1 : Int), .int .u16 (x2 : Int), .int .u16 (x3 : Int), .int .u16 (x4 : Int), .int .u16 (x5 : Int), .int .u16 (x6 : Int), .int .u16 (x7 : Int)] 24)) := (Below.refl _ _).alloc (Nat.le_refl _) _
  have ha : arr8 gs = .agg #[.int .u16 (x0 : Int), .int .u16 (x1 : Int), .int .u16 (x2 : Int), .int .u16 (x3 : Int), .int .u16 (x4 : Int), .int .u16 (x5 : Int), .int .u16 (x6 : Int), .int .u16 (x7 : Int)] := by rw [hgs]; rfl
  rw [ha] at HRn
  rw [ha]
  rw [← hgs] at hA
  have HAll := Lib.hid hall
  have HT := Lib.hid htab
  clear hgs ha hall hAM hlt h8 htab
  have d1 : ((M : Int) == 1) = false := by simp; omega
  obtain ⟨K, hK, eK⟩ : ∃ K : Nat, A + M = K ∧ (A : Int) + (M : Int) = (K : Int) := ⟨_, rfl, by omega⟩
  have wK : IntKind.i64.wrap (K : Int) = (K : Int) := by rw [IntKind.wrap_i64]; omega
  have hK8 : K ≤ 8 := by omega
  have dM : ((M : Int) == 0) = true ∧ A = 0 ∨ ((M : Int) == 0) = false ∧ 0 < M := by
    by_cases h : M = 0
    · exact .inl ⟨by simp; omega, hM0 h⟩
    · exact .inr ⟨by simp; omega, by omega⟩
  go_enter Tryd.func9, Tryd.ntmps9
  go_wp2_with fail
  generalize w.alloc (.cells #[.int .u16 (x0 : Int), .int .u16 (x1 : Int), .int .u16 (x2 : Int), .int .u16 (x3 : Int), .int .u16 (x4 : Int), .int .u16 (x5 : Int), .int .u16 (x6 : Int), .int .u16 (x7 : Int)] 24) = W at *
  refine (HRn.out _).mono ?_
  rintro e w1 ⟨rfl, hb1⟩
  unfold runRet
  have HA := Lib.hid (hA.below hb1)
  have b1 := chain b0 hb1
  clear hA
  rcases dM with ⟨dz, rfl⟩ | ⟨dz, hMp⟩
  · obtain rfl : M = 0 := by simpa using dz
    obtain rfl : K = 0 := by omega
    clear eK wK d1 dz hK8
    go_wp2_with fail
    go_loop [5, 6] (fun r i => ∃ k N : Nat, k ≤ 8 ∧ i = .int .i64 k ∧ r = .int .i64 (N : Int) ∧ N ≤ k ∧ Hid ((ownTo gs k).2.2 = N)) (fun _ i => 8 - (intOf i).toNat)
    case atStart => exact ⟨0, 0, by decide, rfl, rfl, by decide, Lib.hid rfl⟩
    case round =>
      obtain ⟨k, N, hk, rfl, rfl, hN, HN⟩ := hrel
      by_cases hk8 : k < 8
      · have hcell := HA.out.cells k hk8
        obtain ⟨g1, g2, g3⟩ := HAll.out k hk8
        obtain ⟨x, ex⟩ : ∃ x, gs.getD k 0 = x := ⟨_, rfl⟩
        rw [ex] at hcell g3
        by_cases h0 : x = 0
        · have HT2 : Hid ((ownTo gs (k + 1)).2.2 = N + 1) := Lib.hid (by rw [ownTo, ex, if_pos h0]; split <;> rw [HN.out])
          have hx0 : ((x : Int) != 0) = false := by simp; omega
          rw [HT2.out] at g1 g2
          clear h0 ex g3
          go_wp2_with fail
          all_goals first
            | (exfalso; omega)
            | (go_round
               case rel => exact ⟨k + 1, N + 1, by omega, by go_num, by go_num, by omega, HT2⟩
               case measure => simp [intOf]; omega)
        · have HT2 : Hid ((ownTo gs (k + 1)).2.2 = 0) := Lib.hid (by rw [ownTo, ex, if_neg h0])
          have hx0 : ((x : Int) != 0) = true := by simp; omega
          rw [HT2.out] at g1 g2
          have g4 : ¬ (0 ≤ k ∧ k < 0) := fun h => h0 (g3 h.1 (by omega))
          clear h0 ex g3
          go_wp2_with fail
          all_goals first
            | (exfalso; omega)
            | (go_round
               case rel => exact ⟨k + 1, 0, by omega, by go_num, by go_num, by omega, HT2⟩
               case measure => simp [intOf]; omega)
      · obtain rfl : k = 8 := by omega
        go_wp2_with fail
        refine (lives3_any _ (HT.out.below b1)).mono ?_
        rintro e w2 ⟨rfl, hb2⟩
        go_wp2_with fail
        go_ret
        exact ⟨rfl, chain b1 hb2⟩
  · have hmx : max (M : Int) 1 = (M : Int) := by omega
    have hmn : max M 1 = M := by omega
    go_wp2_with fail
    go_loop [5, 6] (fun r i => ∃ k N : Nat, k ≤ 8 ∧ i = .int .i64 k ∧ r = .int .i64 (N : Int) ∧ N ≤ k ∧ Hid ((ownTo gs k).2.2 = N)) (fun _ i => 8 - (intOf i).toNat)
    case atStart => exact ⟨0, 0, by decide, rfl, rfl, by decide, Lib.hid rfl⟩
    case round =>
      obtain ⟨k, N, hk, rfl, rfl, hN, HN⟩ := hrel
      by_cases hk8 : k < 8
      · have hcell := HA.out.cells k hk8
        obtain ⟨g1, g2, g3⟩ := HAll.out k hk8
        obtain ⟨x, ex⟩ : ∃ x, gs.getD k 0 = x := ⟨_, rfl⟩
        rw [ex] at hcell g3
        by_cases h0 : x = 0
        · have HT2 : Hid ((ownTo gs (k + 1)).2.2 = N + 1) := Lib.hid (by rw [ownTo, ex, if_pos h0]; split <;> rw [HN.out])
          have hx0 : ((x : Int) != 0) = false := by simp; omega
          rw [HT2.out] at g1 g2
          clear h0 ex g3
          go_wp2_with fail
          all_goals first
            | (exfalso; omega)
            | (go_round
               case rel => exact ⟨k + 1, N + 1, by omega, by go_num, by go_num, by omega, HT2⟩
               case measure => simp [intOf]; omega)
        · have HT2 : Hid ((ownTo gs (k + 1)).2.2 = 0) := Lib.hid (by rw [ownTo, ex, if_neg h0])
          have hx0 : ((x : Int) != 0) = true := by simp; omega
          rw [HT2.out] at g1 g2
          have g4 : ¬ (A ≤ k ∧ k < K) := fun h => h0 (g3 h.1 (by omega))
          clear h0 ex g3
          go_wp2_with fail
          all_goals first
            | (exfalso; omega)
            | (go_round
               case rel => exact ⟨k + 1, 0, by omega, by go_num, by go_num, by omega, HT2⟩
               case measure => simp [intOf]; omega)
      · obtain rfl : k = 8 := by omega
        go_wp2_with fail
        refine (lives3_any _ (HT.out.below b1)).mono ?_
        rintro e w2 ⟨rfl, hb2⟩
        go_wp2_with fail
        go_ret
        exact ⟨rfl, chain b1 hb2⟩

theorem walk (z0 : List Int) (l0 : z0.length = 8) (w0 : ∀ z ∈ z0, (Lit.int .u16 z).wf = true) (w : World) (htab : Tabs w) :
    Calls Tryd.prog 9 #[.agg (z0.map (Value.int .u16)).toArray] w fun e w' => e = .returned (.bool true) ∧ Below w.heap.size w w' := by
  obtain ⟨gs, h1, h2, h3⟩ := groups_of z0 l0 w0
  rw [h3]
  exact walk8 gs h1 h2 w htab

theorem door_met (os : Os) (args : Array Value) : laidMetH Tryd.prog Rows.sixRunsRow.laid ((World.doorLaid Tryd.prog 400 os).forCall (fun _ _ => 0) ⟨#[], args, []⟩).memory :=
  laidMetH_of_parts3 (fuel := 8) (laidMet_of_run' 8 (by kernel_rfl) (by kernel_rfl)) (by kernel_rfl) (by kernel_rfl)

set_option maxRecDepth 100000 in
theorem lifted (os : Os) (started : os.Started) (H : Type) (enc : TypeId × Value → H) :
    ReturnsInHanded {} Tryd.checked os 9 .any (fun w args => (Rows.sixRunsSpec.pre enc Tryd.prog Tryd.f9 [] false w args ∧ laidMetH Tryd.prog Rows.sixRunsRow.laid w) ∧ sizedMet enc Tryd.prog Tryd.f9 (OpenSpec.ofChange Rows.sixRunsSpec) false w args)
      (Rows.sixRunsSpec.post enc Tryd.prog Tryd.f9 false true false false) := by
  refine handed_shaped (C := Tryd.checked) (X := fun w _ => laidMetH Tryd.prog Rows.sixRunsRow.laid w) (fun _ _ _ hh h => h.of_heap hh) own started (by kernel_rfl) Tryd.func9
    (ChangeSpec.witness_shaped (enc := enc) (C := Tryd.checked) (os := os) (X := fun w _ => laidMetH Tryd.prog Rows.sixRunsRow.laid w) false (World.doorLaid Tryd.prog 400 os) #[.agg #[.int .u16 0, .int .u16 0, .int .u16 0, .int .u16 0, .int .u16 0, .int .u16 0, .int .u16 0, .int .u16 0]] 8 rfl (World.shaped_of_RefB (by kernel_rfl) (by kernel_rfl)) (by kernel_rfl) (by kernel_rfl) (by kernel_rfl) (door_met os _)) ?_
  intro W base args ds gs before hval0 hW hL hsh
  have hval : ∀ (j : Nat) t v, Tryd.f9.params[j]? = some t → args[j]? = some v → Value.okWide Tryd.prog W .any base t v := hval0
  have hW' := hW
  obtain ⟨p, q, hA0, hV, rfl, hfz, hnd⟩ := hW
  have hA : DataW.TrodAll enc Tryd.prog W 0 (fun _ => true) true Tryd.f9.params.toList args.toList ds p := hA0
  rw [Tryd.params9] at hA hval
  obtain ⟨v0, vs0, d0, ds0, p0, q0, hargs, rfl, rfl, h0, r0⟩ := trodAll_cons hA
  obtain ⟨rfl, rfl, rfl⟩ := trodAll_nil r0
  obtain rfl : args = #[v0] := by cases args; simp_all
  obtain ⟨rfl, rfl⟩ := trodVars_none hV
  have k0 := h0
  have lt0 : ∀ x ∈ p0, x.block < W.heap.size := by obtain ⟨m, hm⟩ := k0; exact DataW.trod_lt m _ _ _ hm
  obtain ⟨z0, rfl, l0, w0⟩ := open_int_array Tryd.underlying24 Tryd.underlying23 (by kernel_rfl) (by kernel_rfl) (hval 0 24 v0 rfl rfl) h0
  clear hA0 hval0
  refine (walk z0 l0 w0 W (tabs_of Rows.sixRunsRow.laid rfl hL hsh)).mono fun e W' ⟨he, bel⟩ => ?_
  subst he
  exact ⟨_, rfl, _, _, _, [], _, [], hW', trodAll_mk1 (shut_bool Tryd.underlying4 _), (trodAll_cons_mk (Below.trod laidOut (by kernel_rfl) (of_decide_eq_true (by kernel_rfl)) k0 bel lt0) trodAll_mk0), rfl, bel.frame _, fun h => by cases h⟩

theorem over : Rows.SixRunsSaid :=
  OpenClaim.holds_of_wide 9 Tryd.f9 rfl rfl rfl rfl rfl rfl rfl ⟨rfl, rfl, rfl, rfl, rfl⟩ rfl rfl rfl rfl rfl (by kernel_rfl) Tryd.func9 (by kernel_rfl)
    (of_decide_eq_true (by kernel_rfl)) (by unfold Func.isWrapper; first | (rw [if_pos (by decide +kernel)]; kernel_rfl) | (rw [if_neg (by decide +kernel)]; exact ⟨rfl, rfl⟩))
    (fun os started H enc _ => lifted os started H enc)


theorem proved : Rows.SixRunsCardSaid :=
  Claim7.holds_tied_plain_at .later [] [.data, .data, .data] true _ false
    over (fun _ h => by cases h) (by kernel_rfl) (fun _ h => by cases h) sixRuns_row_tie rfl ⟨rfl, rfl⟩ (by kernel_rfl) rfl
    (fun f fn hf hfn => by
      obtain rfl : f = 9 := Option.some.inj ((show Tryd.prog.funcNamed "abatis/abatislaw03.SixRuns" = some 9 by kernel_rfl).symm.trans hf) |>.symm
      obtain rfl : fn = Tryd.f9 := (Option.some.inj (Tryd.func9.symm.trans hfn)).symm
      exact ⟨by kernel_rfl, fun j t ht => by
        rw [Tryd.params9] at ht
        have hm : t ∈ [24] := by simpa using Array.mem_of_getElem? ht
        have hall : ([24].all fun u => !Tryd.prog.wantsStandIn u) = true := by kernel_rfl
        exact (show Tryd.prog.wantsStandIn t = false by simpa using List.all_eq_true.1 hall t hm)⟩)
    (by kernel_rfl)
#print axioms proved
end Go.Proofs.YtkdinhgflkfbkaaDoor.sixRuns

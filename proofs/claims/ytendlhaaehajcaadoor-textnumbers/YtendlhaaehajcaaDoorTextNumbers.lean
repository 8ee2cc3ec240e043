/- For every text and every number the statement TextNumbers answers true, where the library's three tables hold what the program's text lays in them (the card ties them): text.Number and text.Decimal answer as the reference does, and a number's digits are read as the number. -/
import Derived.Test.YtendlhaaehajcaaDoorDecimals
import Derived.Test.YtendlhaaehajcaaDoorRows
import Derived.Test.YtendlhaaehajcaaDoorTie
import Derived.Test.YtendlhaaehajcaaDoorCards
import Derived.ProofKit
import Derived.LaidMore
import Derived.OpenShut
import Derived.ShutString
import Derived.ChangeOld
import Derived.Below
import Derived.Stop.Joined
import Derived.SevenTiedAt
import Derived.Lib.LaidTab
import Derived.WalkSmall
namespace Go.Proofs.YtendlhaaehajcaaDoor.textNumbers
open Go.ChangeShapes Go.WideShapes Go.ChangeAt Go.RowKit
open Go.ChangeMaps (open_string shut_string)
set_option linter.unusedVariables false

theorem own : ownKnob Tryd.prog.godebug = none := by kernel_rfl

set_option maxRecDepth 100000 in
set_option maxHeartbeats 2000000 in
theorem walk (a0 : ByteArray) (a1 : Int) (w0 : a0.size ≤ maxLen) (w1 : (Lit.int .i64 a1).wf = true) (w : World)
    (htab : ∀ w', Below w.heap.size w w' → Lib.TabIs Tryd.prog w' "internal/strconv.uint64pow10" .u64 Lib.pow10Tab) :
    Calls Tryd.prog 3 #[.string a0, .int .i64 a1] w fun e w' => e = .returned (.bool true) ∧ Below w.heap.size w w' := by
  have hbd := bounds_i64 w1
  have HT := Lib.hid htab
  clear htab
  go_enter Tryd.func3, Tryd.ntmps3
  go_wp2_with fail
  refine (few_any a0 40 _ w0 (by decide)).mono ?_
  rintro e w' ⟨rfl, rfl⟩
  have ha := few_size a0 40
  generalize few a0 40 = s at *
  go_wp2_with fail
  have hz : w.heap.size < (w.alloc (.cells #[.int .i64 8, .int .i64 10, .int .i64 16] 3)).heap.size := by simp
  have hb0 : Below w.heap.size w (w.alloc (.cells #[.int .i64 8, .int .i64 10, .int .i64 16] 3)) := (Below.refl _ _).alloc (Nat.le_refl _) _
  have hcells : ∀ k, k < 3 → ∃ b : Nat, (b = 8 ∨ b = 10 ∨ b = 16) ∧ (w.alloc (.cells #[.int .i64 8, .int .i64 10, .int .i64 16] 3)).cell? ⟨w.heap.size, k, none⟩ = some (.int .i64 (b : Int)) := by
    intro k hk
    match k, hk with
    | 0, _ => exact ⟨8, .inl rfl, by simp [World.cell?_alloc_new]⟩
    | 1, _ => exact ⟨10, .inr (.inl rfl), by simp [World.cell?_alloc_new]⟩
    | 2, _ => exact ⟨16, .inr (.inr rfl), by simp [World.cell?_alloc_new]⟩
  generalize w.alloc (.cells #[.int .i64 8, .int .i64 10, .int .i64 16] 3) = W at *
  have HC := Lib.hid hcells
  clear hcells
  go_loop [6] (fun i => ∃ k : Nat, k ≤ 3 ∧ i = .int .i64 k) (fun i => 3 - (intOf i).toNat)
  case atStart => exact ⟨0, by omega, rfl⟩
  case round =>
    obtain ⟨k, hk, rfl⟩ := hrel
    by_cases hlt : k < 3
    · obtain ⟨b, hb8, hcell⟩ := HC.out k hlt
      have HB := Lib.hid hb8
      have k0 : (0 : Int) ≤ (k : Int) := by omega
      have k3 : (k : Int) < 3 := by omega
      obtain ⟨v, t, ho⟩ : ∃ (v : Nat) (t : Bool), numRet (numB s b) = .tuple #[.int .i64 (v : Int), .bool t] := ⟨_, _, rfl⟩
      have HO := Lib.hid ho
      clear ho hb8
      have hvv : ((v : Int) != (v : Int)) = false := by simp
      have htt : (t != t) = false := by simp
      go_wp2_with fail
      refine (number_any s b _ (by omega) HB.out).mono ?_
      rintro e w1 ⟨rfl, rfl⟩
      rw [HO.out]
      go_wp2_with fail
      refine (refNumber_any s b _ (by omega) HB.out).mono ?_
      rintro e w1 ⟨rfl, rfl⟩
      rw [HO.out]
      go_wp2
      go_round
      case rel => exact ⟨k + 1, by omega, by go_num⟩
      case measure => simp [intOf]; omega
    · have HN := Lib.hid (itoa_num a1)
      have hlen : (⟨(Lib.itoa a1).toArray⟩ : ByteArray).size ≤ 21 := Lib.itoa_length_le a1 hbd.1 hbd.2
      obtain ⟨D, hD⟩ : ∃ D : ByteArray, (⟨(Lib.itoa a1).toArray⟩ : ByteArray) = D := ⟨_, rfl⟩
      rw [hD] at HN hlen
      have HD := Lib.hid hD
      clear hD
      have hself : (D.toList == D.toList) = true := by simp
      by_cases hf : 0 ≤ a1 ∧ a1 ≤ 1099511627776
      · have hn : numRet (numB D 10) = .tuple #[.int .i64 a1, .bool true] := by
          rw [HN.out, if_pos hf]
          show Value.tuple #[.int .i64 ((a1.toNat : Nat) : Int), .bool true] = _
          rw [Int.toNat_of_nonneg hf.1]
        have HR := Lib.hid hn
        clear hn
        obtain ⟨hf1, hf2⟩ := hf
        have haa : (a1 == a1) = true := by simp
        go_wp2_with fail
        refine (decimal_any a1 _ hbd.1 hbd.2 (HT.out _ hb0)).mono ?_
        rintro e w1 ⟨rfl, hb1⟩
        rw [HD.out]
        go_wp2_with fail
        refine (number_10 D _ (by omega)).mono ?_
        rintro e w2 ⟨rfl, rfl⟩
        rw [HR.out]
        go_wp2_with fail
        refine (refDecimal_any a1 _ hbd.1 hbd.2).mono ?_
        rintro e w3 ⟨rfl, hb3⟩
        rw [HD.out]
        go_wp2_with fail
        refine (lives_any _).mono ?_
        rintro e w4 ⟨rfl, hb4⟩
        go_wp2
        go_ret
        have b1 := hb0.trans (hb1.mono hb0.size)
        have b3 := b1.trans (hb3.mono b1.size)
        exact ⟨rfl, b3.trans (hb4.mono b3.size)⟩
      · have hn : numRet (numB D 10) = .tuple #[.int .i64 0, .bool false] := by
          rw [HN.out, if_neg hf]
          rfl
        have HR := Lib.hid hn
        clear hn
        have hways : a1 < 0 ∨ (0 ≤ a1 ∧ 1099511627776 < a1) := by omega
        clear hf
        rcases hways with hf1 | ⟨hf1, hf2⟩
        all_goals
          go_wp2_with fail
          refine (decimal_any a1 _ hbd.1 hbd.2 (HT.out _ hb0)).mono ?_
          rintro e w1 ⟨rfl, hb1⟩
          rw [HD.out]
          go_wp2_with fail
          refine (number_10 D _ (by omega)).mono ?_
          rintro e w2 ⟨rfl, rfl⟩
          rw [HR.out]
          go_wp2_with fail
          refine (refDecimal_any a1 _ hbd.1 hbd.2).mono ?_
          rintro e w3 ⟨rfl, hb3⟩
          rw [HD.out]
          go_wp2_with fail
          refine (lives_any _).mono ?_
          rintro e w4 ⟨rfl, hb4⟩
          go_wp2
          go_ret
          have b1 := hb0.trans (hb1.mono hb0.size)
          have b3 := b1.trans (hb3.mono b1.size)
          exact ⟨rfl, b3.trans (hb4.mono b3.size)⟩

theorem gPow : Tryd.prog.globalNamed "internal/strconv.uint64pow10" = some 0 := by kernel_rfl
theorem tPow : (Tryd.prog.globals[0]?).map (·.type) = some 43 := by kernel_rfl
theorem dPow : (Rows.laid_internal_strconv_uint64pow10 : DataW Unit) = Lib.tabData .u64 Lib.pow10Tab := by kernel_rfl

/-- What the row's condition gives the walk: the table, in whatever later world. -/
theorem of_laid {W : World} (h : laidMetH Tryd.prog Rows.textNumbersRow.laid W) : ∀ w', Below W.heap.size W w' → Lib.TabIs Tryd.prog w' "internal/strconv.uint64pow10" .u64 Lib.pow10Tab := by
  rw [MakeChecks.laidMetH_plain _ _ _ (by kernel_rfl)] at h
  obtain ⟨ps, ⟨g0, t0, cs0, f0, p0, q0, hg0, ht0, hv0, hd0, ⟨g1, t1, cs1, f1, p1, q1, hg1, ht1, hv1, hd1, ⟨g2, t2, cs2, f2, p2, q2, hg2, ht2, hv2, hd2, _, _⟩, _⟩, _⟩, _, _⟩ := h
  obtain rfl := Option.some.inj (gPow.symm.trans hg2)
  obtain rfl := Option.some.inj (tPow.symm.trans ht2)
  rw [dPow] at hd2
  have hcs := Lib.cells_of_tab Tryd.underlying43 Tryd.underlying36 (by kernel_rfl) (by kernel_rfl) hd2
  have htab : Lib.TabIs Tryd.prog W "internal/strconv.uint64pow10" .u64 Lib.pow10Tab := by
    unfold Lib.TabIs
    rw [hv2, ← hcs]
  intro w' hb
  have hc := htab.cell gPow 0 (by rw [Lib.pow10Tab_length]; decide)
  have hlt : 0 < W.heap.size := by
    rcases Nat.lt_or_ge 0 W.heap.size with h | h
    · exact h
    · simp [World.cell?, Array.getElem?_eq_none h] at hc
  exact var?_below hb gPow hlt htab

theorem door_met (os : Os) (args : Array Value) : laidMetH Tryd.prog Rows.textNumbersRow.laid ((World.doorLaid Tryd.prog 400 os).forCall (fun _ _ => 0) ⟨#[], args, []⟩).memory :=
  laidMetH_of_parts3 (fuel := 8) (laidMet_of_run' 8 (by kernel_rfl) (by kernel_rfl)) (by kernel_rfl) (by kernel_rfl)

set_option maxRecDepth 100000 in
theorem lifted (os : Os) (started : os.Started) (H : Type) (enc : TypeId × Value → H) :
    ReturnsInHanded {} Tryd.checked os 3 .any (fun w args => (Rows.textNumbersSpec.pre enc Tryd.prog Tryd.f3 [] false w args ∧ laidMetH Tryd.prog Rows.textNumbersRow.laid w) ∧ sizedMet enc Tryd.prog Tryd.f3 (OpenSpec.ofChange Rows.textNumbersSpec) false w args)
      (Rows.textNumbersSpec.post enc Tryd.prog Tryd.f3 false true false false) := by
  refine returnsInHanded_of_change_and (C := Tryd.checked) (X := fun w _ => laidMetH Tryd.prog Rows.textNumbersRow.laid w) (fun _ _ _ hh h => h.of_heap hh) own started (by kernel_rfl) Tryd.func3
    (ChangeSpec.witness_shaped (enc := enc) (C := Tryd.checked) (os := os) (X := fun w _ => laidMetH Tryd.prog Rows.textNumbersRow.laid w) false (World.doorLaid Tryd.prog 400 os) #[.string ByteArray.empty, .int .i64 0] 8 rfl (World.shaped_of_RefB (by kernel_rfl) (by kernel_rfl)) (by kernel_rfl) (by kernel_rfl) (by kernel_rfl) (door_met os _)) ?_
  intro W base args ds gs before hval0 hW _ _ hL _
  have hval : ∀ (j : Nat) t v, Tryd.f3.params[j]? = some t → args[j]? = some v → Value.okWide Tryd.prog W .any base t v := hval0
  have hW' := hW
  obtain ⟨p, q, hA0, hV, rfl, hfz, hnd⟩ := hW
  have hA : DataW.TrodAll enc Tryd.prog W 0 (fun _ => true) true Tryd.f3.params.toList args.toList ds p := hA0
  rw [Tryd.params3] at hA hval
  obtain ⟨v0, vs0, d0, ds0, p0, q0, hargs, rfl, rfl, h0, r0⟩ := trodAll_cons hA
  obtain ⟨v1, vs1, d1, ds1, p1, q1, rfl, rfl, rfl, h1, r1⟩ := trodAll_cons r0
  obtain ⟨rfl, rfl, rfl⟩ := trodAll_nil r1
  obtain rfl : args = #[v0, v1] := by cases args; simp_all
  obtain ⟨rfl, rfl⟩ := trodVars_none hV
  obtain ⟨a0, rfl, rfl, rfl, w0⟩ := open_string Tryd.underlying9 (hval 0 9 v0 rfl rfl) h0
  obtain ⟨a1, rfl, rfl, rfl, w1⟩ := open_int Tryd.underlying3 (hval 1 3 v1 rfl rfl) h1
  have htab := of_laid hL
  clear hA0 hval0
  refine (walk a0 a1 w0 w1 W htab).mono fun e W' ⟨he, bel⟩ => ?_
  subst he
  exact ⟨_, rfl, _, _, _, [], _, [], hW', trodAll_mk1 (shut_bool Tryd.underlying4 _), (trodAll_cons_mk (shut_string Tryd.underlying9 w0) (trodAll_cons_mk (shut_int Tryd.underlying3 w1) trodAll_mk0)), rfl, bel.frame _, fun h => by cases h⟩

theorem over : Rows.TextNumbersSaid :=
  OpenClaim.holds_of_wide 3 Tryd.f3 rfl rfl rfl rfl rfl rfl rfl ⟨rfl, rfl, rfl, rfl, rfl⟩ rfl rfl rfl rfl rfl (by kernel_rfl) Tryd.func3 (by kernel_rfl)
    (of_decide_eq_true (by kernel_rfl)) (by unfold Func.isWrapper; first | (rw [if_pos (by decide +kernel)]; kernel_rfl) | (rw [if_neg (by decide +kernel)]; exact ⟨rfl, rfl⟩))
    (fun os started H enc _ => lifted os started H enc)

theorem proved : Rows.TextNumbersCardSaid :=
  Claim7.holds_tied_plain_at .later [] [.data, .data, .data] true _ false
    over (fun _ h => by cases h) (by kernel_rfl) (fun _ h => by cases h) textNumbers_row_tie rfl ⟨rfl, rfl⟩ (by kernel_rfl) rfl
    (fun f fn hf hfn => by
      obtain rfl : f = 3 := Option.some.inj ((show Tryd.prog.funcNamed "abatis/abatislaw01.TextNumbers" = some 3 by kernel_rfl).symm.trans hf) |>.symm
      obtain rfl : fn = Tryd.f3 := (Option.some.inj (Tryd.func3.symm.trans hfn)).symm
      exact ⟨by kernel_rfl, fun j t ht => by
        rw [Tryd.params3] at ht
        have hm : t ∈ [9, 3] := by simpa using Array.mem_of_getElem? ht
        have hall : ([9, 3].all fun u => !Tryd.prog.wantsStandIn u) = true := by kernel_rfl
        exact (show Tryd.prog.wantsStandIn t = false by simpa using List.all_eq_true.1 hall t hm)⟩)
    (by kernel_rfl)
#print axioms proved
end Go.Proofs.YtendlhaaehajcaaDoor.textNumbers

/- TablePlays: whatever is set and dropped, the answers, and all entries, are the reference's. No conditions. -/
import Derived.Test.YtjpjobbmljlacaaB7
import Derived.Test.YtjpjobbmljlacaaRows
import Derived.ProofKit
import Derived.OpenShut
import Derived.ShutString
import Derived.ChangeOld
import Derived.Below
namespace Go.Proofs.Ytjpjobbmljlacaa.tablePlays
open Go.ChangeShapes Go.WideShapes Go.ChangeAt Go.RowKit
open Go.ChangeMaps (open_string shut_string)
set_option linter.unusedVariables false
set_option maxRecDepth 20000

theorem own : ownKnob Try.prog.godebug = none := by kernel_rfl

set_option maxRecDepth 100000 in
set_option maxHeartbeats 2000000 in
theorem walk (a : Option Addr) (len cap : Nat) (D : List DeedD) (w : World) (hD : DeedsAt w a len cap D) :
    Calls Try.prog 3 #[.slice a len cap] w fun e w' => e = .returned (.bool true) ∧ Below w.heap.size w w' := by
  obtain ⟨hc1, hc2, hl, hok, hrow⟩ := hD
  have hm : maxLen ≤ 9223372036854775807 := by unfold maxLen; omega
  have hlen : len ≤ 9223372036854775807 := by omega
  have HOK := Lib.hid hok
  have HK0 := fun W => Lib.hid (new_nil W)
  have HLV := fun W => Lib.hid (lives_any W)
  rcases hrow with rfl | ⟨g, o, rfl, hr, hg⟩
  · obtain rfl : D = [] := List.eq_nil_of_length_eq_zero hl
    go_enter Try.func3, Try.ntmps3
    go_wp2_with fail
    refine (HK0 _).out.mono ?_
    rintro e w1 ⟨G, F, rfl, hT, hF, hb⟩
    have HB0 := Lib.hid hb
    clear hT hF hb HK0
    go_wp2_with fail
    go_loop [4, 5] (fun r i => i = .int .i64 0 ∧ r = .slice none 0 0) (fun _ _ => 0)
    case atStart => exact ⟨rfl, rfl⟩
    case round =>
      obtain ⟨rfl, rfl⟩ := hrel
      go_wp2_with fail
      refine (HLV _).out.mono ?_
      rintro e w2 ⟨rfl, hb2⟩
      have HB2 := Lib.hid (chain HB0.out hb2)
      clear hb2 HB0 HLV
      go_wp2_with fail
      go_ret
      exact ⟨rfl, HB2.out⟩
  · have HRW := Lib.hid hr
    have HGL := Lib.hid hg
    have HLN := Lib.hid hl
    have HOL : Hid (∀ d ∈ D, d.L.length = 21) := Lib.hid (fun d hd => DeedD.L_len d (hok d hd).2.1)
    clear hok hr
    go_enter Try.func3, Try.ntmps3
    go_wp2_with fail
    refine (HK0 _).out.mono ?_
    rintro e w1 ⟨G, F, rfl, hT, hF, hb⟩
    have HT0 : Hid (ownKit.At w1 G [] 0 F) := Lib.hid ⟨rfl, hT⟩
    have HF0 := Lib.hid hF
    have HB0 := Lib.hid hb
    clear hT hF hb HK0
    go_wp2_with fail
    go_loopw [4, 5] (fun r i wr => ∃ (k : Nat) (st : Int) (F : List Nat), k ≤ len ∧ k ≤ 40 ∧ i = .int .i64 (k : Int) ∧ Hid (ownKit.At wr G (playE D k) st F) ∧ Hid (RowE wr 0 r (playE D k)) ∧ Hid (NotIn r F) ∧ Hid (∀ k ∈ F, w.heap.size ≤ k) ∧ Hid (Below w.heap.size w wr)) (fun _ i _ => 40 - (intOf i).toNat)
    case atStart => exact ⟨0, 0, F, Nat.zero_le _, Nat.zero_le _, rfl, HT0, Lib.hid (RowE.nil _ _), Lib.hid (fun g hg => by cases hg), HF0, HB0⟩
    case round =>
      obtain ⟨k, st1, F1, hk, hk40, rfl, HT, HR, HN, HF, HB⟩ := hrel
      clear HT0 HF0 HB0
      by_cases hkl : k < len
      · have hd : decide ((k : Int) < (len : Int)) = true := by simp; omega
        have hdn : decide (k < len) = true := by simp; omega
        by_cases hk4 : k < 40
        · have hd2 : decide ((k : Int) < 40) = true := by simp; omega
          have hd2n : decide (k < 40) = true := by simp; omega
          have hkD : k < D.length := by rw [HLN.out]; exact hkl
          obtain ⟨dk, hdk⟩ : ∃ dk, D[k] = dk := ⟨_, rfl⟩
          have HDK : Hid dk.Ok := Lib.hid (by rw [← hdk]; exact HOK.out _ (List.getElem_mem hkD))
          have H16 := Lib.hid HDK.out.2.1
          have HRD : Hid (wr.rangeAt g (o + k * 21) dk.L) := Lib.hid (by have := range_at (range_belowB HRW.out HB.out HGL.out) HOL.out k hkD; rw [hdk] at this; exact this)
          have HSU : Hid (playE D (k + 1) = doE (playE D k) dk) := Lib.hid (by rw [playE_succ D k hkD, hdk])
          have hki : (k : Int) < (len : Int) := by omega
          clear hdk hkD
          have HDO := Lib.hid (does_any ownKit G _ (playE D k) st1 F1 dk wr HT.out HR.out HN.out HDK.out (Nat.le_trans (playE_len D k) (by omega)))
          go_wp2_with (refine load_deed_o H16 HRD _ rfl rfl rfl ?_)
          refine HDO.out.mono ?_
          rintro e w2 ⟨v2, st2, F2, rfl, hT2, hR2, hN2, hf2⟩
          rw [← HSU.out] at hT2 hR2
          have HB2 := Lib.hid (HB.out.trans (hf2.below HF.out HB.out.size))
          have HF2 : Hid (∀ k ∈ F2, w.heap.size ≤ k) := Lib.hid (fun j hj => by
            rcases hf2.new j hj with e | e
            · exact HF.out j e
            · exact Nat.le_trans HB.out.size e)
          have HT2 := Lib.hid hT2
          have HR2 := Lib.hid hR2
          have HN2 := Lib.hid hN2
          have HLK := Lib.hid (like_v G v2 (playE D (k + 1)) 0 F2 w2 hT2.2 hR2)
          clear HT HR HN HF HB hT2 hR2 hN2 hf2 HDO
          go_wp2_with fail
          refine HLK.out.mono ?_
          rintro e w3 ⟨rfl, hb3⟩
          have HB3 := Lib.hid (chain HB2.out hb3)
          have HT3 := Lib.hid (ownKit.keepB HT2.out hb3)
          have HR3 := Lib.hid (HR2.out.below hb3)
          clear HLK HT2 HR2 HB2 hb3
          go_wp2_with fail
          go_roundw
          case rel => exact ⟨k + 1, st2, F2, by omega, by omega, by go_num, HT3, HR3, HN2, HF2, HB3⟩
          case measure => simp [intOf]; omega
        · obtain rfl : k = 40 := by omega
          go_wp2_with fail
          refine (HLV _).out.mono ?_
          rintro e w2 ⟨rfl, hb2⟩
          have HB2 := Lib.hid (chain HB.out hb2)
          clear hb2 HB HLV
          go_wp2_with fail
          go_ret
          exact ⟨rfl, HB2.out⟩
      · obtain rfl : k = len := by omega
        have hd : decide ((k : Int) < (k : Int)) = false := by simp
        go_wp2_with fail
        refine (HLV _).out.mono ?_
        rintro e w2 ⟨rfl, hb2⟩
        have HB2 := Lib.hid (chain HB.out hb2)
        clear hb2 HB HLV
        go_wp2_with fail
        go_ret
        exact ⟨rfl, HB2.out⟩

set_option maxRecDepth 100000 in
theorem lifted (os : Os) (started : os.Started) (H : Type) (enc : TypeId × Value → H) :
    ReturnsInHanded {} Try.checked os 3 .any (Rows.tablePlaysSpec.pre6 enc Try.prog Try.f3 Rows.tablePlaysRow.domain false) (Rows.tablePlaysSpec.post enc Try.prog Try.f3 false true false false) := by
  refine returnsInHanded_of_change (C := Try.checked) own started (by kernel_rfl) Try.func3
    (ChangeSpec.witness6 (enc := enc) (C := Try.checked) false ⟨#[], #[.slice none 0 0], []⟩ 8 (by kernel_rfl) (by kernel_rfl) (by kernel_rfl) (by kernel_rfl)) ?_
  intro W base args ds gs before hval0 hW hcnd _
  have hval : ∀ (j : Nat) t v, Try.f3.params[j]? = some t → args[j]? = some v → Value.okWide Try.prog W .any base t v := hval0
  have hW' := hW
  obtain ⟨p, q, hA0, hV, rfl, hfz, hnd⟩ := hW
  have hA : DataW.TrodAll enc Try.prog W 0 (fun _ => true) true Try.f3.params.toList args.toList ds p := hA0
  rw [Try.params3] at hA hval
  obtain ⟨v0, vs0, d0, ds0, p0, q0, hargs, rfl, rfl, h0, r0⟩ := trodAll_cons hA
  obtain ⟨rfl, rfl, rfl⟩ := trodAll_nil r0
  obtain rfl : args = #[v0] := by cases args; simp_all
  obtain ⟨rfl, rfl⟩ := trodVars_none hV
  obtain ⟨a0, len0, cap0, rfl⟩ := okWide_slice Try.underlying22 (hval 0 22 v0 rfl rfl)
  have k0 := h0
  have lt0 : ∀ x ∈ p0, x.block < W.heap.size := by obtain ⟨m, hm⟩ := k0; exact DataW.trod_lt m _ _ _ hm
  obtain ⟨z0, w0⟩ := open_deeds h0
  clear hA0 hval0
  refine (walk a0 len0 cap0 z0 W w0).mono fun e W' ⟨he, bel⟩ => ?_
  subst he
  exact ⟨_, rfl, _, _, _, [], _, [], hW', trodAll_mk1 (shut_bool Try.underlying4 _), (trodAll_cons_mk (Below.trod laidOut (by kernel_rfl) (of_decide_eq_true (by kernel_rfl)) k0 bel lt0) trodAll_mk0), rfl, bel.frame _, fun h => by cases h⟩

theorem over : Rows.tablePlaysRow.holds Try.pinned (OpenSpec.ofChange Rows.tablePlaysSpec) :=
  OpenClaim.holds_of_wide 3 Try.f3 rfl rfl rfl rfl rfl rfl rfl ⟨rfl, rfl, rfl, rfl, rfl⟩ rfl rfl rfl rfl rfl (by kernel_rfl) Try.func3 (by kernel_rfl)
    (of_decide_eq_true (by kernel_rfl)) (by unfold Func.isWrapper; first | (rw [if_pos (by decide +kernel)]; kernel_rfl) | (rw [if_neg (by decide +kernel)]; exact ⟨rfl, rfl⟩))
    (fun os started H enc _ => lifted os started H enc)


theorem proved : Rows.TablePlaysSaid := over
#print axioms proved
end Go.Proofs.Ytjpjobbmljlacaa.tablePlays

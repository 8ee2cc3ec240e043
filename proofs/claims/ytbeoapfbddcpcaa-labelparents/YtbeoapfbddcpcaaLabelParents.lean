/- For every text the statement LabelParents answers true: a name is under each of its parents, and these become shorter up to the empty one. -/
import Derived.Test.YtbeoapfbddcpcaaB5
import Derived.Test.YtbeoapfbddcpcaaRows
import Derived.ProofKit
import Derived.OpenShut
import Derived.ShutString
import Derived.ChangeOld
import Derived.Below
namespace Go.Proofs.Ytbeoapfbddcpcaa.labelParents
open Go.ChangeShapes Go.WideShapes Go.ChangeAt Go.RowKit
open Go.ChangeMaps (open_string shut_string)
set_option linter.unusedVariables false
set_option maxRecDepth 20000

theorem own : ownKnob Try.prog.godebug = none := by kernel_rfl

set_option maxRecDepth 100000 in
set_option maxHeartbeats 2000000 in
theorem walk (a : ByteArray) (w0 : a.size ≤ maxLen) (w : World) :
    Calls Try.prog 9 #[.string a] w fun e w' => e = .returned (.bool true) ∧ Below w.heap.size w w' := by
  have HFA := Lib.hid (few_any a 100 w w0 (by decide))
  have ha := few_size a 100
  generalize few a 100 = s0 at *
  have HGO := fun W => Lib.hid (refGoodN_any s0 W (by omega))
  have hgs := goodN_small s0
  have HGM := Lib.hid (good_may s0)
  generalize goodN s0 = s at *
  have hmay := HGM.out
  have HLA := fun W => Lib.hid (labels_any s W (by omega))
  have HPA := fun k (W : World) => Lib.hid (parent_any (restB s k) W (by have := rest_le s k; omega))
  have HU1 := fun k (W : World) => Lib.hid (under_any s (restB s (k + 1)) W (by omega) (by have := rest_le s (k + 1); omega))
  have HU2 := fun k (W : World) => Lib.hid (under_any (restB s (k + 1)) (restB s k) W (by have := rest_le s (k + 1); omega) (by have := rest_le s k; omega))
  have HMA := fun k (W : World) => Lib.hid (may_any (restB s (k + 1)) W (by have := rest_le s (k + 1); omega))
  have HLV := fun W => Lib.hid (lives8_any W)
  have HRP := fun k => Lib.hid (rest_par k s)
  have HPO := fun k => Lib.hid (rest_pos (may_full hmay) k)
  have HPL := fun k => Lib.hid (par_lt (restB s k))
  have HUR := fun k => Lib.hid (under_rest s (k + 1))
  have HUL := fun k => Lib.hid (@under_longer (restB s (k + 1)) (restB s k))
  have HMR := fun k => Lib.hid (may_rest hmay (k + 1))
  have HRL := fun k => Lib.hid (rest_le s k)
  have HPE := fun k => Lib.hid (@par_empty (restB s k))
  have HR0 := Lib.hid (rest_zero s)
  have hln := labels_len s
  obtain ⟨N, hN⟩ : ∃ N, (labelsB s).length = N := ⟨_, rfl⟩
  rw [hN] at hln HPO HLA
  clear hN hmay HGM
  go_enter Try.func9, Try.ntmps9
  go_wp2_with fail
  refine HFA.out.mono ?_
  rintro e w1 ⟨rfl, rfl⟩
  clear HFA w0
  go_wp2_with fail
  refine (HGO _).out.mono ?_
  rintro e w2 ⟨rfl, hb2⟩
  have HB0 := Lib.hid hb2
  clear hb2 HGO
  go_wp2_with fail
  refine (HLA _).out.mono ?_
  rintro e w3 ⟨x, c, rfl, _, hb3⟩
  replace HB0 := Lib.hid (chain HB0.out hb3)
  clear hb3 HLA
  go_wp2_with fail
  go_loopw [4, 5] (fun v i wr => ∃ k : Nat, k ≤ N ∧ i = .int .i64 (k : Int) ∧ v = .string (restB s k) ∧ Hid (Below w.heap.size w wr)) (fun _ i _ => N - (intOf i).toNat)
  case atStart => exact ⟨0, Nat.zero_le _, rfl, by rw [HR0.out], HB0⟩
  case round =>
    clear HB0 HR0
    obtain ⟨k, hk, rfl, rfl, HB⟩ := hrel
    replace HPA := HPA k
    replace HU1 := HU1 k
    replace HU2 := HU2 k
    replace HMA := HMA k
    replace HRP := HRP k
    replace HPO := HPO k
    replace HPL := HPL k
    replace HUR := HUR k
    replace HUL := HUL k
    replace HMR := HMR k
    replace HRL := HRL k
    replace HPE := HPE k
    rw [HUR.out] at HU1
    rw [HMR.out] at HMA
    by_cases hkN : k < N
    · have hd : decide ((k : Int) < (N : Int)) = true := decide_eq_true (by omega)
      have hdn : decide (k < N) = true := decide_eq_true hkN
      have hpl := HPL.out (HPO.out.2 hkN)
      rw [← HRP.out] at hpl HPA
      rw [HUL.out hpl] at HU2
      have hx := HRL.out
      clear HPL HPO HUR HUL HMR HRP HRL HPE
      obtain ⟨q, hq⟩ : ∃ q, restB s (k + 1) = q := ⟨_, rfl⟩
      have HQ := Lib.hid hq
      rw [hq] at HPA HU1 HU2 HMA hpl
      clear hq
      generalize restB s k = r at *
      have hdl : decide ((r.size : Int) ≤ (q.size : Int)) = false := decide_eq_false (by omega)
      have hdln : decide (r.size ≤ q.size) = false := decide_eq_false (by omega)
      go_wp2_with fail
      refine (HPA _).out.mono ?_
      rintro e w4 ⟨rfl, hb4⟩
      replace HB := Lib.hid (chain HB.out hb4)
      clear hb4 HPA
      go_wp2_with fail
      refine (HU1 _).out.mono ?_
      rintro e w5 ⟨rfl, hb4⟩
      replace HB := Lib.hid (chain HB.out hb4)
      clear hb4 HU1
      go_wp2_with fail
      refine (HMA _).out.mono ?_
      rintro e w6 ⟨rfl, hb4⟩
      replace HB := Lib.hid (chain HB.out hb4)
      clear hb4 HMA
      go_wp2_with fail
      refine (HU2 _).out.mono ?_
      rintro e w7 ⟨rfl, hb4⟩
      replace HB := Lib.hid (chain HB.out hb4)
      clear hb4 HU2
      go_wp2_with fail
      go_roundw
      case rel => exact ⟨k + 1, by omega, by go_num, by rw [HQ.out], HB⟩
      case measure => simp [intOf]; omega
    · obtain rfl : k = N := by omega
      have hd : decide ((k : Int) < (k : Int)) = false := by simp
      have hr0 : (restB s k).size = 0 := by have := HPO.out; omega
      have he := isEmpty_true _ hr0
      have hpe := HPE.out hr0
      rw [hpe] at HPA
      clear HU1 HU2 HMA HPL HPO HUR HUL HMR HRP HRL HPE hpe
      generalize restB s k = r at *
      go_wp2_with fail
      refine (HPA _).out.mono ?_
      rintro e w4 ⟨rfl, hb4⟩
      replace HB := Lib.hid (chain HB.out hb4)
      clear hb4 HPA
      go_wp2_with fail
      refine (HLV _).out.mono ?_
      rintro e w5 ⟨rfl, hb4⟩
      replace HB := Lib.hid (chain HB.out hb4)
      clear hb4 HLV
      go_wp2_with fail
      go_ret
      exact ⟨rfl, HB.out⟩

set_option maxRecDepth 100000 in
theorem lifted (os : Os) (started : os.Started) (H : Type) (enc : TypeId × Value → H) :
    ReturnsInHanded {} Try.checked os 9 .any (Rows.labelParentsSpec.pre6 enc Try.prog Try.f9 Rows.labelParentsRow.domain false) (Rows.labelParentsSpec.post enc Try.prog Try.f9 false true false false) := by
  refine returnsInHanded_of_change (C := Try.checked) own started (by kernel_rfl) Try.func9
    (ChangeSpec.witness6 (enc := enc) (C := Try.checked) false ⟨#[], #[.string ByteArray.empty], []⟩ 8 (by kernel_rfl) (by kernel_rfl) (by kernel_rfl) (by kernel_rfl)) ?_
  intro W base args ds gs before hval0 hW hcnd _
  have hval : ∀ (j : Nat) t v, Try.f9.params[j]? = some t → args[j]? = some v → Value.okWide Try.prog W .any base t v := hval0
  have hW' := hW
  obtain ⟨p, q, hA0, hV, rfl, hfz, hnd⟩ := hW
  have hA : DataW.TrodAll enc Try.prog W 0 (fun _ => true) true Try.f9.params.toList args.toList ds p := hA0
  rw [Try.params9] at hA hval
  obtain ⟨v0, vs0, d0, ds0, p0, q0, hargs, rfl, rfl, h0, r0⟩ := trodAll_cons hA
  obtain ⟨rfl, rfl, rfl⟩ := trodAll_nil r0
  obtain rfl : args = #[v0] := by cases args; simp_all
  obtain ⟨rfl, rfl⟩ := trodVars_none hV
  obtain ⟨a0, rfl, rfl, rfl, w0⟩ := open_string Try.underlying9 (hval 0 9 v0 rfl rfl) h0
  clear hA0 hval0
  refine (walk a0 w0 W).mono fun e W' ⟨he, bel⟩ => ?_
  subst he
  exact ⟨_, rfl, _, _, _, [], _, [], hW', trodAll_mk1 (shut_bool Try.underlying4 _), (trodAll_cons_mk (shut_string Try.underlying9 w0) trodAll_mk0), rfl, bel.frame _, fun h => by cases h⟩

theorem over : Rows.labelParentsRow.holds Try.pinned (OpenSpec.ofChange Rows.labelParentsSpec) :=
  OpenClaim.holds_of_wide 9 Try.f9 rfl rfl rfl rfl rfl rfl rfl ⟨rfl, rfl, rfl, rfl, rfl⟩ rfl rfl rfl rfl rfl (by kernel_rfl) Try.func9 (by kernel_rfl)
    (of_decide_eq_true (by kernel_rfl)) (by unfold Func.isWrapper; first | (rw [if_pos (by decide +kernel)]; kernel_rfl) | (rw [if_neg (by decide +kernel)]; exact ⟨rfl, rfl⟩))
    (fun os started H enc _ => lifted os started H enc)


theorem proved : Rows.LabelParentsSaid := over
#print axioms proved
end Go.Proofs.Ytbeoapfbddcpcaa.labelParents

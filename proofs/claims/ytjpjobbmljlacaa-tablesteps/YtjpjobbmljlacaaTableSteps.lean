/- TableSteps: a Find holds prefixes against one another no more often than 130 times one more than the number of binary digits of how many entries there are: for any deeds (the first 40) and any address. No conditions. -/
import Derived.Test.YtjpjobbmljlacaaB7
import Derived.Test.YtjpjobbmljlacaaRows
import Derived.ProofKit
import Derived.OpenShut
import Derived.ShutString
import Derived.ChangeOld
import Derived.Below
namespace Go.Proofs.Ytjpjobbmljlacaa.tableSteps
open Go.ChangeShapes Go.WideShapes Go.ChangeAt Go.RowKit
open Go.ChangeMaps (open_string shut_string)
set_option linter.unusedVariables false
set_option maxRecDepth 20000

theorem own : ownKnob Try.prog.godebug = none := by kernel_rfl

set_option maxRecDepth 100000 in
set_option maxHeartbeats 2000000 in
theorem walk (a : Option Addr) (len cap : Nat) (D : List DeedD) (f : Int) (z : List Nat) (w : World) (hD : DeedsAt w a len cap D) (fw : (Lit.int .i64 f).wf = true) (l1 : z.length = 16) (w1 : ∀ x ∈ z, x < 256) :
    Calls Try.prog 6 #[.slice a len cap, addrV f z] w fun e w' => e = .returned (.bool true) ∧ Below w.heap.size w w' := by
  have HLV := fun W => Lib.hid (lives_any W)
  have HGD := fun W => Lib.hid (refGood_any f z W l1 w1)
  have hga := good_is f z l1 w1
  obtain ⟨cs, ecs, HA, HB⟩ := addr_boxed f z w l1
  have HPL := Lib.hid (played a len cap D _ (hD.below HB.out))
  have hle := playE_le D
  generalize playE D 40 = es at *
  generalize goodF f = gf at *
  generalize goodB f z = gb at *
  have HGA := Lib.hid hga
  rw [ecs]
  clear ecs hD fw l1 w1 hga
  go_enter Try.func6, Try.ntmps6
  go_upto_region 1 with fail
  have HWZ := Lib.hid HA.out.lt
  generalize (w.alloc (.cells cs 30)) = W at *
  go_wp2_with fail
  refine HPL.out.mono ?_
  rintro e V1 ⟨G, ra, rc, F, rfl, hT, hR, hF, hb1, _⟩
  have HT1 := Lib.hid hT
  have HF1 := Lib.hid hF
  have HB1 := Lib.hid (chain HB.out hb1)
  have HA1 := Lib.hid (HA.out.below hb1)
  have HG1 : Hid (w.heap.size ≤ G) := Lib.hid (by have := hF G hT.lt.1; have := HB.out.size; omega)
  have HAG : Hid (w.heap.size < G) := Lib.hid (by have := hF G hT.lt.1; have := HWZ.out; omega)
  clear hT hR hF hb1 HPL HA HB
  have HS1 : Hid (Calls Try.prog 19 #[.pointer (some ⟨G, 0, none⟩)] V1 fun e w' => e = .returned (.int .i64 0) ∧ w' = V1) := Lib.hid (by obtain ⟨v, rfl, h, _⟩ := HT1.out; exact tabSteps_any G v 0 V1 h)
  go_wp2_with fail
  refine HS1.out.mono ?_
  rintro e w' ⟨rfl, rfl⟩
  go_wp2_with (refine load_addr_g HA1 _ rfl rfl rfl ?_)
  refine (HGD _).out.mono ?_
  rintro e V2 ⟨rfl, hb2⟩
  have HB2 := Lib.hid (chain HB1.out hb2)
  have HT2 := Lib.hid (HT1.out.below hb2)
  clear HT1 HS1 HA1 HB1 hb2 HGD
  have HFD := Lib.hid (find_any G es 0 F gf gb V2 HT2.out HGA.out.len HGA.out.lt (by decide) (by decide))
  go_wp2_with fail
  refine HFD.out.mono ?_
  rintro e V3 ⟨rfl, ⟨st, hT3, hs0, hs1⟩, hf3⟩
  have HB3 := Lib.hid (HB2.out.trans (hf3.below (B := w.heap.size) (by simp; exact HG1.out) HB2.out.size))
  have HS3 : Hid (Calls Try.prog 19 #[.pointer (some ⟨G, 0, none⟩)] V3 fun e w' => e = .returned (.int .i64 st) ∧ w' = V3) := Lib.hid (by obtain ⟨v, rfl, h, _⟩ := hT3; exact tabSteps_any G v st V3 h)
  clear HT2 HFD HB2 hT3 hf3
  have hbl := bl_small (show es.length ≤ 1000 by omega)
  obtain ⟨R, hRr⟩ : ∃ R, entRet (findE es gf gb) = R := ⟨_, rfl⟩
  rw [hRr]
  clear hRr
  go_wp2_with fail
  go_loop [9, 10] (fun d n => ∃ (k m : Nat), d = .int .i64 (k : Int) ∧ n = .int .i64 (m : Int) ∧ m ≤ 40 ∧ Hid (k + bl m = 1 + bl es.length)) (fun _ n => (intOf n).toNat)
  case atStart => exact ⟨1, es.length, rfl, rfl, hle, Lib.hid rfl⟩
  case round =>
    obtain ⟨k, m, rfl, rfl, hm, HK⟩ := hrel
    have hk12 : k ≤ 12 := by have := HK.out; omega
    by_cases hm0 : 0 < m
    · have hd : decide ((0 : Int) < (m : Int)) = true := by simp; omega
      have hw1 : IntKind.i64.wrap ((k : Int) + 1) = (k : Int) + 1 := by rw [IntKind.wrap_i64]; omega
      go_wp2_with fail
      go_round
      case rel => exact ⟨k + 1, m / 2, by go_num, by first | rfl | go_num, by omega, Lib.hid (by have := HK.out; rw [bl_pos hm0] at this; omega)⟩
      case measure => simp [intOf]; omega
    · obtain rfl : m = 0 := by omega
      have hkb : (k : Int) = 1 + (bl es.length : Int) := by have := HK.out; rw [bl_zero] at this; omega
      have hd0 : decide ((0 : Int) < ((0 : Nat) : Int)) = false := by decide
      have HST : Hid (0 ≤ st ∧ st ≤ 130 * (k : Int) ∧ st ≤ 100000) := Lib.hid (by omega)
      clear hkb hs0 hs1
      go_wp2_with fail
      refine HS3.out.mono ?_
      rintro e w' ⟨rfl, rfl⟩
      have hg1 : decide ((0 : Int) ≤ st) = true := by have := HST.out.1; simp; exact this
      have hg2 : decide (st ≤ 130 * (k : Int)) = true := by have := HST.out.2.1; simp; exact this
      have hw2 : IntKind.i64.wrap (st - 0) = st := by have := HST.out; rw [IntKind.wrap_i64]; omega
      have hw3 : IntKind.i64.wrap st = st := by have := HST.out; rw [IntKind.wrap_i64]; omega
      have hw4 : IntKind.i64.wrap (130 * (k : Int)) = 130 * (k : Int) := by rw [IntKind.wrap_i64]; omega
      go_wp2_with fail
      refine HS3.out.mono ?_
      rintro e w' ⟨rfl, rfl⟩
      go_wp2_with fail
      refine (HLV _).out.mono ?_
      rintro e w4 ⟨rfl, hb4⟩
      have HB4 := Lib.hid (chain HB3.out hb4)
      clear hb4 HLV HS3
      go_wp2_with fail
      go_ret
      exact ⟨rfl, HB4.out⟩

set_option maxRecDepth 100000 in
theorem lifted (os : Os) (started : os.Started) (H : Type) (enc : TypeId × Value → H) :
    ReturnsInHanded {} Try.checked os 6 .any (Rows.tableStepsSpec.pre6 enc Try.prog Try.f6 Rows.tableStepsRow.domain false) (Rows.tableStepsSpec.post enc Try.prog Try.f6 false true false false) := by
  refine returnsInHanded_of_change (C := Try.checked) own started (by kernel_rfl) Try.func6
    (ChangeSpec.witness6 (enc := enc) (C := Try.checked) false ⟨#[], #[.slice none 0 0, .agg #[.int .i64 0, .int .u8 0, .int .u8 0, .int .u8 0, .int .u8 0, .int .u8 0, .int .u8 0, .int .u8 0, .int .u8 0, .int .u8 0, .int .u8 0, .int .u8 0, .int .u8 0, .int .u8 0, .int .u8 0, .int .u8 0, .int .u8 0]], []⟩ 8 (by kernel_rfl) (by kernel_rfl) (by kernel_rfl) (by kernel_rfl)) ?_
  intro W base args ds gs before hval0 hW hcnd _
  have hval : ∀ (j : Nat) t v, Try.f6.params[j]? = some t → args[j]? = some v → Value.okWide Try.prog W .any base t v := hval0
  have hW' := hW
  obtain ⟨p, q, hA0, hV, rfl, hfz, hnd⟩ := hW
  have hA : DataW.TrodAll enc Try.prog W 0 (fun _ => true) true Try.f6.params.toList args.toList ds p := hA0
  rw [Try.params6] at hA hval
  obtain ⟨v0, vs0, d0, ds0, p0, q0, hargs, rfl, rfl, h0, r0⟩ := trodAll_cons hA
  obtain ⟨v1, vs1, d1, ds1, p1, q1, rfl, rfl, rfl, h1, r1⟩ := trodAll_cons r0
  obtain ⟨rfl, rfl, rfl⟩ := trodAll_nil r1
  obtain rfl : args = #[v0, v1] := by cases args; simp_all
  obtain ⟨rfl, rfl⟩ := trodVars_none hV
  obtain ⟨a0, len0, cap0, rfl⟩ := okWide_slice Try.underlying22 (hval 0 22 v0 rfl rfl)
  have k0 := h0
  have lt0 : ∀ x ∈ p0, x.block < W.heap.size := by obtain ⟨m, hm⟩ := k0; exact DataW.trod_lt m _ _ _ hm
  obtain ⟨z0, w0⟩ := open_deeds h0
  have k1 := h1
  have lt1 : ∀ x ∈ p1, x.block < W.heap.size := by obtain ⟨m, hm⟩ := k1; exact DataW.trod_lt m _ _ _ hm
  obtain ⟨f1, z1, rfl, fw1, l1, w1⟩ := open_addr (hval 1 30 v1 rfl rfl) h1
  clear hA0 hval0
  refine (walk a0 len0 cap0 z0 f1 z1 W w0 fw1 l1 w1).mono fun e W' ⟨he, bel⟩ => ?_
  subst he
  exact ⟨_, rfl, _, _, _, [], _, [], hW', trodAll_mk1 (shut_bool Try.underlying4 _), (trodAll_cons_mk (Below.trod laidOut (by kernel_rfl) (of_decide_eq_true (by kernel_rfl)) k0 bel lt0) (trodAll_cons_mk (Below.trod laidOut (by kernel_rfl) (of_decide_eq_true (by kernel_rfl)) k1 bel lt1) trodAll_mk0)), rfl, bel.frame _, fun h => by cases h⟩

theorem over : Rows.tableStepsRow.holds Try.pinned (OpenSpec.ofChange Rows.tableStepsSpec) :=
  OpenClaim.holds_of_wide 6 Try.f6 rfl rfl rfl rfl rfl rfl rfl ⟨rfl, rfl, rfl, rfl, rfl⟩ rfl rfl rfl rfl rfl (by kernel_rfl) Try.func6 (by kernel_rfl)
    (of_decide_eq_true (by kernel_rfl)) (by unfold Func.isWrapper; first | (rw [if_pos (by decide +kernel)]; kernel_rfl) | (rw [if_neg (by decide +kernel)]; exact ⟨rfl, rfl⟩))
    (fun os started H enc _ => lifted os started H enc)


theorem proved : Rows.TableStepsSaid := over
#print axioms proved
end Go.Proofs.Ytjpjobbmljlacaa.tableSteps

/- TableFinds: the entry of an address is the one of the reference: for any deeds (the first 40), any addresses (made such as may be, the first 10), and none. No conditions. -/
import Derived.Test.YtjpjobbmljlacaaB7
import Derived.Test.YtjpjobbmljlacaaRows
import Derived.ProofKit
import Derived.OpenShut
import Derived.ShutString
import Derived.ChangeOld
import Derived.Below
namespace Go.Proofs.Ytjpjobbmljlacaa.tableFinds
open Go.ChangeShapes Go.WideShapes Go.ChangeAt Go.RowKit
open Go.ChangeMaps (open_string shut_string)
set_option linter.unusedVariables false
set_option maxRecDepth 20000

theorem own : ownKnob Try.prog.godebug = none := by kernel_rfl

set_option maxRecDepth 100000 in
set_option maxHeartbeats 2000000 in
theorem walk (a : Option Addr) (len cap : Nat) (D : List DeedD) (b : Option Addr) (ln cp : Nat) (A : List (Int × List Nat)) (w : World) (hD : DeedsAt w a len cap D) (hA : AddrsAt w b ln cp A) :
    Calls Try.prog 4 #[.slice a len cap, .slice b ln cp] w fun e w' => e = .returned (.bool true) ∧ Below w.heap.size w w' := by
  have HLV := fun W => Lib.hid (lives_any W)
  have HPL := Lib.hid (played a len cap D w hD)
  have hle := playE_le D
  generalize playE D 40 = es at *
  obtain ⟨hc1, hc2, hl, hok, hrow⟩ := hA
  have hm : maxLen ≤ 9223372036854775807 := by unfold maxLen; omega
  have HOK := Lib.hid hok
  have HLN := Lib.hid hl
  have HRW := Lib.hid hrow
  have Z16 : Hid ((List.replicate 16 0 : List Nat).length = 16) := Lib.hid rfl
  have HOL : Hid (∀ d ∈ A, (addrL d.1 d.2).length = 17) := Lib.hid (fun d hd => addrL_len d.1 d.2 (hok d hd).1)
  clear hD hok hrow
  go_enter Try.func4, Try.ntmps4
  go_wp2_with fail
  refine HPL.out.mono ?_
  rintro e V1 ⟨G, ra, rc, F, rfl, hT, hR, hF, hb1, hN⟩
  have HT1 := Lib.hid hT
  have HR1 := Lib.hid hR
  have HF1 := Lib.hid hF
  have HB1 := Lib.hid hb1
  have HN1 := Lib.hid hN
  have HG1 : Hid (w.heap.size ≤ G) := Lib.hid (hF G hT.lt.1)
  have HGF : Hid (G ∈ F) := Lib.hid hT.lt.1
  have HGD : Hid (AllGood es) := Lib.hid hR.2.1
  have HFD := Lib.hid (find_any G es 0 F 0 (List.replicate 16 0) V1 hT rfl (by decide) (by decide) (by decide))
  rw [find_zero es hR.2.1] at HFD
  have hbl := bl_small (show es.length ≤ 1000 by omega)
  clear hT hR hF hb1 hN HPL
  go_wp2_with (refine build_addr0 rfl rfl ?_)
  refine HFD.out.mono ?_
  rintro e V2 ⟨rfl, ⟨st2, hT2, hs0, hs1⟩, hf2⟩
  rw [show entRet none = .tuple #[entV 0 (List.replicate 16 0) 0 0, .bool false] from rfl]
  have HB2 := Lib.hid (HB1.out.trans (hf2.below (B := w.heap.size) (by have := HG1.out; simp; omega) HB1.out.size))
  have HT2 := Lib.hid hT2
  have HR2 := Lib.hid (HR1.out.foot hf2 (fun g hg e => HN1.out g hg (by rw [List.mem_singleton.1 e]; exact HGF.out)))
  have HZ2 := Lib.hid (entT_zeroed V2)
  have HS2 : Hid (0 ≤ st2 ∧ st2 ≤ 1419) := Lib.hid (by omega)
  clear hT2 hs0 hs1 hf2 HB1 HT1 HR1 HFD
  have qe := fun W => neq_same_ent 0 [0, 0, 0, 0, 0, 0, 0, 0, 0, 0, 0, 0, 0, 0, 0, 0] 0 0 W rfl
  have ge := guard_ent
  go_wp2_with (first | (refine store_entT HZ2 _ _ Z16 rfl rfl rfl rfl (fun V3 HV3 HE3 => ?_); have HE3r := Lib.hid HE3.out.range) | refine load_entT_o Z16 HE3r _ rfl rfl rfl ?_ | refine build_entT0_g rfl rfl ?_)
  have hb3 := below_newT HV3
  have HB3 := Lib.hid (chain HB2.out hb3)
  have HT3 := Lib.hid (HT2.out.below hb3)
  have HR3 := Lib.hid (HR2.out.below hb3)
  clear hb3 HV3 HE3 HE3r HZ2 HB2 HT2 HR2 qe ge
  go_loopw [10] (fun i wr => ∃ (k : Nat) (st : Int), k ≤ ln ∧ k ≤ 10 ∧ i = .int .i64 (k : Int) ∧ Hid (TabAt wr G es st F) ∧ Hid (RowE wr 0 (.slice ra es.length rc) es) ∧ Hid (0 ≤ st ∧ st ≤ 1419 * ((k : Int) + 1)) ∧ Hid (Below w.heap.size w wr)) (fun i _ => 10 - (intOf i).toNat)
  case atStart => exact ⟨0, st2, Nat.zero_le _, Nat.zero_le _, rfl, HT3, HR3, Lib.hid (by have := HS2.out; omega), HB3⟩
  case round =>
    clear HT3 HR3 HB3 HS2
    obtain ⟨k, st, hk, hk10, rfl, HT, HR, HS, HB⟩ := hrel
    by_cases hkl : k < ln
    · have hd : decide ((k : Int) < (ln : Int)) = true := by simp; omega
      have hdn : decide (k < ln) = true := by simp; omega
      by_cases hk4 : k < 10
      · have hd2 : decide ((k : Int) < 10) = true := by simp; omega
        have hd2n : decide (k < 10) = true := by simp; omega
        rcases HRW.out with h0 | ⟨g, o, rfl, hr, hg⟩
        · omega
        · have hkD : k < A.length := by rw [HLN.out]; exact hkl
          obtain ⟨dk, hdk⟩ : ∃ dk, A[k] = dk := ⟨_, rfl⟩
          have hdo := HOK.out _ (List.getElem_mem hkD)
          rw [hdk] at hdo
          have HRD : Hid (wr.rangeAt g (o + k * 17) (addrL dk.1 dk.2)) := Lib.hid (by have := range_at (Lf := fun d : Int × List Nat => addrL d.1 d.2) (range_belowB hr HB.out hg) HOL.out k hkD; rw [hdk] at this; exact this)
          have H16 := Lib.hid hdo.1
          have HGO := fun W => Lib.hid (refGood_any dk.1 dk.2 W hdo.1 hdo.2)
          have HGA := Lib.hid (good_is dk.1 dk.2 hdo.1 hdo.2)
          have hki : (k : Int) < (ln : Int) := by omega
          clear hdk hkD hr hg hdo
          generalize goodF dk.1 = gf at *
          generalize goodB dk.1 = gB at *
          generalize gB dk.2 = gb at *
          have G16 := Lib.hid HGA.out.len
          go_wp2_with (refine load_addr_o H16 HRD _ rfl rfl rfl ?_)
          refine (HGO _).out.mono ?_
          rintro e V4 ⟨rfl, hb4⟩
          have HB4 := Lib.hid (chain HB.out hb4)
          have HT4 := Lib.hid (HT.out.below hb4)
          have HR4 := Lib.hid (HR.out.below hb4)
          have HZ4 := Lib.hid (addr_zeroed V4)
          clear hb4 HGO HB HT HR HRD
          go_upto_region 11 with (refine store_addr HZ4 _ _ G16 rfl rfl rfl rfl (fun V5 HV5 HA5 => ?_))
          have hb5 := below_newA HV5
          have HB5 := Lib.hid (chain HB4.out hb5)
          have HT5 := Lib.hid (HT4.out.below hb5)
          have HR5 := Lib.hid (HR4.out.below hb5)
          have HGV : Hid (G < V4.heap.size) := Lib.hid (HT4.out.lt.2 G HT4.out.lt.1)
          clear hb5 HV5 HB4 HT4 HR4 HZ4
          generalize V4.heap.size = BA at *
          have HFN := Lib.hid (find_any G es st F gf gb V5 HT5.out HGA.out.len HGA.out.lt HS.out.1 (by have := HS.out.2; omega))
          have HRF := fun W (h : RowE W 0 (.slice ra es.length rc) es) => Lib.hid (refFind_any (.slice ra es.length rc) es gf gb W 0 h HGA.out.len HGA.out.lt)
          have HFG : Hid (∀ x, findE es gf gb = some x → x.b.length = 16) := Lib.hid (fun x hx => (HGD.out x ((findE_best es gf gb).2 x hx).1).1.len)
          obtain ⟨ef, eb, en, ev, et, her, he16⟩ : ∃ (ef : Int) (eb : List Nat) (en ev : Int) (et : Bool), entRet (findE es gf gb) = .tuple #[entV ef eb en ev, .bool et] ∧ eb.length = 16 := by
            cases h : findE es gf gb with
            | none => exact ⟨_, _, _, _, _, rfl, rfl⟩
            | some x => exact ⟨_, _, _, _, _, rfl, HFG.out x h⟩
          have E16 := Lib.hid he16
          go_wp2_with (refine load_addr_g HA5 _ rfl rfl rfl ?_)
          refine HFN.out.mono ?_
          rintro e V6 ⟨rfl, ⟨st6, hT6, hs0, hs1⟩, hf6⟩
          rw [her]
          rw [her] at HRF
          have HB6 := Lib.hid (HB5.out.trans (hf6.below (B := w.heap.size) (by have := HG1.out; simp; omega) HB5.out.size))
          have HA6 := Lib.hid (HA5.out.foot hf6 (by have := HGV.out; simp; omega))
          have HT6 := Lib.hid hT6
          have HR6 := Lib.hid (HR5.out.foot hf6 (fun g hg e => HN1.out g hg (by rw [List.mem_singleton.1 e]; exact HGF.out)))
          have HS6 : Hid (0 ≤ st6 ∧ st6 ≤ 1419 * (((k + 1 : Nat) : Int) + 1)) := Lib.hid (by have := HS.out; omega)
          have HZ6 := Lib.hid (entT_zeroed V6)
          clear hT6 hs0 hs1 hf6 HB5 HA5 HT5 HR5 HFN HS her he16 HFG
          go_upto_region 12 with (refine store_entT HZ6 _ _ E16 rfl rfl rfl rfl (fun V7 HV7 HE7 => ?_))
          have hb7 := below_newT HV7
          have HB7 := Lib.hid (chain HB6.out hb7)
          have HA7 := Lib.hid (HA6.out.below hb7)
          have HT7 := Lib.hid (HT6.out.below hb7)
          have HR7 := Lib.hid (HR6.out.below hb7)
          clear hb7 HV7 HZ6 HB6 HA6 HT6 HR6
          generalize V6.heap.size = BE at *
          go_wp2_with (refine load_addr_g HA7 _ rfl rfl rfl ?_)
          refine (HRF _ HR7.out).out.mono ?_
          rintro e V8 ⟨rfl, hb8⟩
          have HB8 := Lib.hid (chain HB7.out hb8)
          have HT8 := Lib.hid (HT7.out.below hb8)
          have HR8 := Lib.hid (HR7.out.below hb8)
          have HE8 := Lib.hid (HE7.out.below hb8)
          have HZ8 := Lib.hid (ent_zeroed V8)
          clear hb8 HB7 HA7 HT7 HR7 HE7 HRF
          go_upto_region 13 with (refine store_ent HZ8 _ _ E16 rfl rfl rfl rfl (fun V9 HV9 HE9 => ?_))
          have hb9 : Below V8.heap.size V8 V9 := by rw [HV9.out]; exact below_cells (Nat.le_refl _) _ _ _ ((Below.refl _ _).alloc (Nat.le_refl _) _)
          have HB9 := Lib.hid (chain HB8.out hb9)
          have HT9 := Lib.hid (HT8.out.below hb9)
          have HR9 := Lib.hid (HR8.out.below hb9)
          have HEa := Lib.hid (HE8.out.below hb9)
          have HP1 := Lib.hid HEa.out.pref
          have HP2 := Lib.hid HE9.out.pref
          have hv1 := HEa.out.val
          have hv2 := HE9.out.val
          clear hb9 HV9 HB8 HT8 HR8 HE8 HZ8 HEa HE9
          generalize V8.heap.size = BR at *
          have qn := fun W => run_neq_pref ef ef eb eb en en W E16.out E16.out
          simp only [and_self, decide_true, Bool.not_true] at qn
          have gd := guard_pref
          have hvv : (ev != ev) = false := by simp
          have htt : (et != et) = false := by simp
          go_wp2_with (first | refine load_pref_o E16 HP1 _ rfl rfl rfl ?_ | refine load_pref_o E16 HP2 _ rfl rfl rfl ?_)
          go_roundw
          case rel => exact ⟨k + 1, st6, by omega, by omega, by go_num, HT9, HR9, HS6, HB9⟩
          case measure => simp [intOf]; omega
      · obtain rfl : k = 10 := by omega
        go_wp2_with fail
        refine (HLV _).out.mono ?_
        rintro e w2 ⟨rfl, hb2⟩
        have HB2 := Lib.hid (chain HB.out hb2)
        clear hb2 HB HLV
        go_wp2_with fail
        go_ret
        exact ⟨rfl, HB2.out⟩
    · obtain rfl : k = ln := by omega
      have hd : decide ((k : Int) < (k : Int)) = false := by simp
      go_wp2_with fail
      refine (HLV _).out.mono ?_
      rintro e w2 ⟨rfl, hb2⟩
      have HB2 := Lib.hid (chain HB.out hb2)
      clear hb2 HB HLV
      go_wp2_with fail
      go_ret
      exact ⟨rfl, HB2.out⟩

set_option maxRecDepth 100000 in
theorem lifted (os : Os) (started : os.Started) (H : Type) (enc : TypeId × Value → H) :
    ReturnsInHanded {} Try.checked os 4 .any (Rows.tableFindsSpec.pre6 enc Try.prog Try.f4 Rows.tableFindsRow.domain false) (Rows.tableFindsSpec.post enc Try.prog Try.f4 false true false false) := by
  refine returnsInHanded_of_change (C := Try.checked) own started (by kernel_rfl) Try.func4
    (ChangeSpec.witness6 (enc := enc) (C := Try.checked) false ⟨#[], #[.slice none 0 0, .slice none 0 0], []⟩ 8 (by kernel_rfl) (by kernel_rfl) (by kernel_rfl) (by kernel_rfl)) ?_
  intro W base args ds gs before hval0 hW hcnd _
  have hval : ∀ (j : Nat) t v, Try.f4.params[j]? = some t → args[j]? = some v → Value.okWide Try.prog W .any base t v := hval0
  have hW' := hW
  obtain ⟨p, q, hA0, hV, rfl, hfz, hnd⟩ := hW
  have hA : DataW.TrodAll enc Try.prog W 0 (fun _ => true) true Try.f4.params.toList args.toList ds p := hA0
  rw [Try.params4] at hA hval
  obtain ⟨v0, vs0, d0, ds0, p0, q0, hargs, rfl, rfl, h0, r0⟩ := trodAll_cons hA
  obtain ⟨v1, vs1, d1, ds1, p1, q1, rfl, rfl, rfl, h1, r1⟩ := trodAll_cons r0
  obtain ⟨rfl, rfl, rfl⟩ := trodAll_nil r1
  obtain rfl : args = #[v0, v1] := by cases args; simp_all
  obtain ⟨rfl, rfl⟩ := trodVars_none hV
  obtain ⟨a0, len0, cap0, rfl⟩ := okWide_slice Try.underlying22 (hval 0 22 v0 rfl rfl)
  have k0 := h0
  have lt0 : ∀ x ∈ p0, x.block < W.heap.size := by obtain ⟨m, hm⟩ := k0; exact DataW.trod_lt m _ _ _ hm
  obtain ⟨z0, w0⟩ := open_deeds h0
  obtain ⟨a1, len1, cap1, rfl⟩ := okWide_slice Try.underlying38 (hval 1 38 v1 rfl rfl)
  have k1 := h1
  have lt1 : ∀ x ∈ p1, x.block < W.heap.size := by obtain ⟨m, hm⟩ := k1; exact DataW.trod_lt m _ _ _ hm
  obtain ⟨z1, w1⟩ := open_addrs h1
  clear hA0 hval0
  refine (walk a0 len0 cap0 z0 a1 len1 cap1 z1 W w0 w1).mono fun e W' ⟨he, bel⟩ => ?_
  subst he
  exact ⟨_, rfl, _, _, _, [], _, [], hW', trodAll_mk1 (shut_bool Try.underlying4 _), (trodAll_cons_mk (Below.trod laidOut (by kernel_rfl) (of_decide_eq_true (by kernel_rfl)) k0 bel lt0) (trodAll_cons_mk (Below.trod laidOut (by kernel_rfl) (of_decide_eq_true (by kernel_rfl)) k1 bel lt1) trodAll_mk0)), rfl, bel.frame _, fun h => by cases h⟩

theorem over : Rows.tableFindsRow.holds Try.pinned (OpenSpec.ofChange Rows.tableFindsSpec) :=
  OpenClaim.holds_of_wide 4 Try.f4 rfl rfl rfl rfl rfl rfl rfl ⟨rfl, rfl, rfl, rfl, rfl⟩ rfl rfl rfl rfl rfl (by kernel_rfl) Try.func4 (by kernel_rfl)
    (of_decide_eq_true (by kernel_rfl)) (by unfold Func.isWrapper; first | (rw [if_pos (by decide +kernel)]; kernel_rfl) | (rw [if_neg (by decide +kernel)]; exact ⟨rfl, rfl⟩))
    (fun os started H enc _ => lifted os started H enc)


theorem proved : Rows.TableFindsSaid := over
#print axioms proved
end Go.Proofs.Ytjpjobbmljlacaa.tableFinds

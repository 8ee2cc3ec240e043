/- CacheSweeps (P10.2): for every row of lifetimes and every tick: what is swept are those that are over, and these alone. -/
import Derived.Test.YtjmmedpkcedngaaB6
import Derived.Test.YtjmmedpkcedngaaRows
import Derived.ProofKit
import Derived.OpenShut
import Derived.ShutString
import Derived.ChangeOld
import Derived.Below
namespace Go.Proofs.Ytjmmedpkcedngaa.cacheSweeps
open Go.ChangeShapes Go.WideShapes Go.ChangeAt Go.RowKit
open Go.ChangeMaps (open_string shut_string)
set_option linter.unusedVariables false
set_option maxRecDepth 20000

theorem own : ownKnob Try.prog.godebug = none := by kernel_rfl

/-- A row of numbers that came in. -/
def IsRow (k : IntKind) (W : World) (a : Option Addr) (len cap : Nat) (zs : List Int) : Prop :=
  (a = none ∧ len = 0 ∧ cap = 0 ∧ zs = []) ∨ ∃ x : Addr, a = some x ∧ len ≤ cap ∧ cap ≤ maxLen ∧ zs.length = cap ∧ (∀ i, i < zs.length → W.cell? (x.add i) = some (.int k (zs.getD i 0))) ∧ ∀ n ∈ zs, (Lit.int k n).wf = true
set_option maxRecDepth 100000 in
set_option maxHeartbeats 4000000 in
theorem walk (a : Option Addr) (len cap : Nat) (zs : List Int) (nn : Int) (w : World) (hI : IsRow .i64 w a len cap zs) (hnn : (Lit.int .i64 nn).wf = true) :
    Calls Try.prog 6 #[.slice a len cap, .int .i64 nn] w fun e w' => e = .returned (.bool true) ∧ Below w.heap.size w w' := by
  have HNW := Lib.hid (new_any 64 w)
  have hr : min (max (64 : Int) 1) 64 = 64 := by decide
  rw [hr] at HNW
  have HAN := fun W => Lib.hid (around_any nn 120 W hnn (by decide) (by decide))
  have hnow := aroundN_lt nn 120 (by decide)
  obtain ⟨NW, hNW⟩ : ∃ NW, aroundN nn 120 = NW := ⟨_, rfl⟩
  rw [hNW] at HAN hnow
  have HII := Lib.hid hI
  have hlen : len ≤ 9223372036854775807 := by
    rcases hI with ⟨_, rfl, _⟩ | ⟨x, _, h1, h2, _⟩
    · decide
    · unfold maxLen at h2; omega
  obtain ⟨N, hN⟩ : ∃ N, min len 20 = N := ⟨_, rfl⟩
  have hmin : min (len : Int) 20 = (N : Int) := by omega
  have hN20 : N ≤ 20 := by omega
  have hNl : N ≤ len := by omega
  have HT : Hid (∀ k, k < N → ∃ ad : Addr, a = some ad ∧ w.cell? (ad.add k) = some (.int .i64 (zs.getD k 0)) ∧ (Lit.int .i64 (zs.getD k 0)).wf = true) := Lib.hid (fun k hk => by
    rcases HII.out with ⟨_, h0, _⟩ | ⟨ad, e, h1, h2, h3, h4, h5⟩
    · omega
    · have hkz : k < zs.length := by omega
      exact ⟨ad, e, h4 k hkz, h5 _ (by rw [List.getD_eq_getElem?_getD, List.getElem?_eq_getElem hkz]; exact List.getElem_mem hkz)⟩)
  have HLV := fun W => Lib.hid (lives10_any W)
  obtain ⟨T, hTT⟩ : ∃ T : Nat → Int, (fun k => 1 + ((aroundN (zs.getD k 0) 100 : Nat) : Int)) = T := ⟨_, rfl⟩
  have HTT := Lib.hid (show ∀ k, (1 + ((aroundN (zs.getD k 0) 100 : Nat) : Int)) = T k from fun k => by rw [← hTT])
  have HTL : Hid (∀ k, 1 ≤ T k ∧ T k ≤ 100) := Lib.hid (fun k => by
    rw [← HTT.out k]
    have := aroundN_lt (zs.getD k 0) 100 (by decide)
    omega)
  have HDC := fun (k : Nat) W (hk : k < 70) => Lib.hid (refDecimal_any (k : Int) W (by omega) (by omega))
  clear hI HII hTT hNW hN hr hnn
  go_enter Try.func6, Try.ntmps6
  go_wp2_with fail
  refine HNW.out.mono ?_
  rintro e w1 ⟨G, b, rfl, hc1, hG, hb, hb1⟩
  have HC1 := Lib.hid hc1
  have HB1 := Lib.hid hb1
  have HGB : Hid (w.heap.size ≤ b) := Lib.hid hb
  clear HNW hc1 hb1 hG hb
  go_wp2_with fail
  refine (HAN _).out.mono ?_
  rintro e w2 ⟨rfl, rfl⟩
  clear HAN
  go_wp2_with fail
  go_loopw [6, 8, 9] (fun o i tt wr => ∃ (k : Nat) (es : List Ce), k ≤ N ∧ i = .int .i64 (k : Int) ∧ o = .int .i64 ((ovN T (NW : Int) k : Nat) : Int) ∧ Hid (CacAt wr G b 64 es) ∧ Hid (PS T k es) ∧ Hid (Below w.heap.size w wr)) (fun _ i _ _ => N - (intOf i).toNat)
  case atStart => exact ⟨0, [], Nat.zero_le _, rfl, rfl, HC1, Lib.hid (List.Perm.refl _), HB1⟩
  case round =>
    clear HC1 HB1
    obtain ⟨k, es, hk, rfl, rfl, HC, HP, HB⟩ := hrel
    by_cases hkN : k < N
    · have hd : decide ((k : Int) < (N : Int)) = true := decide_eq_true (by omega)
      have hdn : decide (k < N) = true := decide_eq_true hkN
      obtain ⟨ad, rfl, hcw, hzw⟩ := HT.out k hkN
      have hcell : wr.cell? (ad.add k) = some (.int .i64 (zs.getD k 0)) := by rw [HB.out.cell (p := ad.add k) (World.block_lt_of_cell? w (ad.add k) hcw)]; exact hcw
      have HAR := fun W => Lib.hid (around_any (zs.getD k 0) 100 W hzw (by decide) (by decide))
      have HTK := Lib.hid (HTT.out k)
      have HTB := HTL.out k
      have HDK := fun W => HDC k W (by omega)
      have HOV : Hid (ovN T (NW : Int) (k + 1) = ovN T (NW : Int) k + (if T k ≤ (NW : Int) then 1 else 0)) := Lib.hid rfl
      obtain ⟨q, hq⟩ : ∃ q, T k = q := ⟨_, rfl⟩
      have HQ := Lib.hid hq
      rw [hq] at HTK HTB HOV
      have hb1 : (0 : Int) ≤ (k : Int) := by omega
      have hb2 : (k : Int) < (len : Int) := by omega
      generalize zs.getD k 0 = z at *
      generalize aroundN z 100 = y at *
      have hw : IntKind.i64.wrap (1 + (y : Int)) = q := by rw [IntKind.wrap_i64]; have := HTK.out; omega
      have HPUT := Lib.hid (fun W (hc : CacAt W G b 64 es) => put_any G b 64 es (dc k) 1 q 0 none 0 [] W hc (by have := (dc_facts k (by omega)).2; omega) (by decide) HTB.1 (by decide) (by decide) (AdsIn.nil W) (by decide))
      have HPC : Hid (∀ a' c', (putC 64 es ⟨dc k, 1, a', 0, c', q⟩ 0).1.Perm (⟨dc k, 1, a', 0, c', q⟩ :: es)) := Lib.hid (fun a' c' => by
        rw [putC_roomy (ps_no HP.out (by omega)) (by have := ps_len HP.out; omega)]
        exact insC_perm _ _)
      have hmq : (0 : Int) + min q 604800 = q := by omega
      rw [(dc_facts k (by omega)).1, hmq] at HPUT
      simp only [List.length_nil] at HPUT
      have hedc : (⟨(Lib.itoa (k : Int)).toArray⟩ : ByteArray) = dc k := rfl
      rw [hedc] at HDK
      clear hcw hzw hedc HTK hmq hq
      go_wp2_with fail
      refine (HAR _).out.mono ?_
      rintro e w4 ⟨rfl, rfl⟩
      clear HAR hcell
      go_wp2_with fail
      refine (HDK _).out.mono ?_
      rintro e w5 ⟨rfl, hb5⟩
      have HP5 := Lib.hid (HPUT.out w5 (HC.out.below hb5))
      have HB5 := Lib.hid (chain HB.out hb5)
      clear hb5 HDK HC HB HPUT
      go_wp2_with fail
      refine HP5.out.mono ?_
      rintro e w6 ⟨a6, c6, rfl, hc6, _, hg6⟩
      have HC6 := Lib.hid hc6
      have HB6 := Lib.hid (Below.cacheOp HB5.out hg6 HGB.out HB5.out.size)
      have HP6 : Hid (PS T (k + 1) (putC 64 es ⟨dc k, 1, a6, 0, c6, q⟩ 0).1) := Lib.hid (ps_step HP.out (HPC.out a6 c6) (by unfold sk; rw [HQ.out]))
      clear hc6 hg6 HP5 HB5 HPC HP
      by_cases ho : q ≤ (NW : Int)
      · have hdo : decide (q ≤ (NW : Int)) = true := decide_eq_true ho
        have HO2 : Hid (ovN T (NW : Int) (k + 1) = ovN T (NW : Int) k + 1) := Lib.hid (by rw [HOV.out, if_pos ho])
        have hov : ovN T (NW : Int) k ≤ k := by have := ov_range T (NW : Int) k; omega
        clear HOV
        generalize ovN T (NW : Int) k = o1 at *
        go_wp2_with fail
        go_roundw
        case rel => exact ⟨k + 1, _, by omega, by go_num, by rw [HO2.out]; go_num, HC6, HP6, HB6⟩
        case measure => simp [intOf]; omega
      · have hdo : decide (q ≤ (NW : Int)) = false := decide_eq_false ho
        have HO2 : Hid (ovN T (NW : Int) (k + 1) = ovN T (NW : Int) k) := Lib.hid (by rw [HOV.out, if_neg ho]; rfl)
        clear HOV
        generalize ovN T (NW : Int) k = o1 at *
        go_wp2_with fail
        go_roundw
        case rel => exact ⟨k + 1, _, by omega, by go_num, by rw [HO2.out], HC6, HP6, HB6⟩
        case measure => simp [intOf]; omega
    · obtain rfl : N = k := by omega
      have hd : decide ((N : Int) < (N : Int)) = false := by simp
      have hpl := ps_len HP.out
      have hps := ps_sweep HP.out (NW : Int)
      have HTH := Lib.hid (fun j (hj : j < N) => ps_there HP.out (by omega) (NW : Int) hj)
      obtain ⟨es2, hes2⟩ : ∃ es2, sweepC es (NW : Int) = es2 := ⟨_, rfl⟩
      have HSW1 := Lib.hid (sweep_any G b 64 es (NW : Int) wr HC.out)
      have hss := sweep_sweep es (NW : Int)
      have HSW2 := Lib.hid (fun W (hc : CacAt W G b 64 es2) => sweep_any G b 64 es2 (NW : Int) W hc)
      have HLE := Lib.hid (fun W (hc : CacAt W G b 64 es2) => len_any G b 64 es2 W hc)
      rw [hes2] at HSW1 hps HTH hss
      rw [hss] at HSW2
      rw [show es2.length - es2.length = 0 from Nat.sub_self _] at HSW2
      obtain ⟨ov, hov⟩ : ∃ ov, ovN T (NW : Int) N = ov := ⟨_, rfl⟩
      obtain ⟨m, hm⟩ : ∃ m, es2.length = m := ⟨_, rfl⟩
      rw [hov] at hps ⊢
      rw [hm] at HSW1 hps HLE
      rw [show es.length - m = ov by omega] at HSW1
      have hw : IntKind.i64.wrap ((N : Int) - (ov : Int)) = (m : Int) := by rw [IntKind.wrap_i64]; omega
      have HUN := Lib.hid (fun (j : Nat) W (hc : CacAt W G b 64 es2) (hj : j < N) => until_any G b 64 es2 (dc j) 1 W hc (by have := (dc_facts j (by omega)).2; omega) (by decide))
      clear hes2 hss hov hm hpl hps HC HP
      go_wp2_with fail
      refine HSW1.out.mono ?_
      rintro e w4 ⟨rfl, hc4, hg4⟩
      have HB4 := Lib.hid (Below.cacheOp HB.out hg4 HGB.out HB.out.size)
      have HS4 := Lib.hid (HSW2.out w4 hc4)
      clear hc4 hg4 HSW1 HSW2 HB
      go_wp2_with fail
      refine HS4.out.mono ?_
      rintro e w5 ⟨rfl, hc5, hg5⟩
      have HB5 := Lib.hid (Below.cacheOp HB4.out hg5 HGB.out HB4.out.size)
      have HC5 := Lib.hid hc5
      have HL5 := Lib.hid (HLE.out w5 hc5)
      clear hc5 hg5 HS4 HB4 HLE
      go_wp2_with fail
      refine HL5.out.mono ?_
      rintro e w6 ⟨rfl, hw6⟩
      rw [hw6]
      clear hw6 HL5
      go_wp2_with fail
      go_loopw [10, 11, 12, 13] (fun i s11 s12 s13 wx => ∃ j : Nat, j ≤ N ∧ i = .int .i64 (j : Int) ∧ Hid (CacAt wx G b 64 es2) ∧ Hid (Below w.heap.size w wx)) (fun i _ _ _ _ => N - (intOf i).toNat)
      case atStart => exact ⟨0, Nat.zero_le _, rfl, HC5, HB5⟩
      case round =>
        obtain ⟨j, hj, rfl, HC6, HB6⟩ := hrel
        clear HC5 HB5
        by_cases hjN : j < N
        · have hdj : decide ((j : Int) < (N : Int)) = true := decide_eq_true (by omega)
          have hdjn : decide (j < N) = true := decide_eq_true hjN
          obtain ⟨ad, rfl, hcw, hzw⟩ := HT.out j hjN
          have hcell : wr.cell? (ad.add j) = some (.int .i64 (zs.getD j 0)) := by rw [HB6.out.cell (p := ad.add j) (World.block_lt_of_cell? w (ad.add j) hcw)]; exact hcw
          have HAR := fun W => Lib.hid (around_any (zs.getD j 0) 100 W hzw (by decide) (by decide))
          have HTK := Lib.hid (HTT.out j)
          have HTB := Lib.hid (HTL.out j)
          have HDK := fun W => HDC j W (by omega)
          have hth := HTH.out j hjN
          obtain ⟨q, hq⟩ : ∃ q, T j = q := ⟨_, rfl⟩
          rw [hq] at HTK HTB hth
          have hb1 : (0 : Int) ≤ (j : Int) := by omega
          have hb2 : (j : Int) < (len : Int) := by omega
          have HUJ := Lib.hid (fun W hc => HUN.out j W hc hjN)
          rw [(dc_facts j (by omega)).1, hth] at HUJ
          generalize zs.getD j 0 = z at *
          generalize aroundN z 100 = y at *
          have hw1 : IntKind.i64.wrap (1 + (y : Int)) = q := by rw [IntKind.wrap_i64]; have := HTK.out; have := HTB.out; omega
          have hedc : (⟨(Lib.itoa (j : Int)).toArray⟩ : ByteArray) = dc j := rfl
          rw [hedc] at HDK
          generalize (theE es2 (dc j) 1).u = uu at *
          clear hcw hzw hedc HTK hq hth HTB
          go_wp2_with fail
          refine (HAR _).out.mono ?_
          rintro e w7 ⟨rfl, rfl⟩
          clear HAR hcell
          go_wp2_with fail
          refine (HDK _).out.mono ?_
          rintro e w8 ⟨rfl, hb8⟩
          have HU8 := Lib.hid (HUJ.out w8 (HC6.out.below hb8))
          have HC8 := Lib.hid (HC6.out.below hb8)
          have HB8 := Lib.hid (chain HB6.out hb8)
          clear hb8 HDK HC6 HB6 HUJ
          by_cases ho : (NW : Int) < q
          · have hdo : decide ((NW : Int) < q) = true := decide_eq_true ho
            rw [hdo] at HU8
            go_wp2_with fail
            refine HU8.out.mono ?_
            rintro e w9 ⟨rfl, hb9⟩
            have HC9 := Lib.hid (HC8.out.below hb9)
            have HB9 := Lib.hid (chain HB8.out hb9)
            clear hb9 HU8 HC8 HB8
            go_wp2_with fail
            go_roundw
            case rel => exact ⟨j + 1, by omega, by go_num, HC9, HB9⟩
            case measure => simp [intOf]; omega
          · have hdo : decide ((NW : Int) < q) = false := decide_eq_false ho
            rw [hdo] at HU8
            go_wp2_with fail
            refine HU8.out.mono ?_
            rintro e w9 ⟨rfl, hb9⟩
            have HC9 := Lib.hid (HC8.out.below hb9)
            have HB9 := Lib.hid (chain HB8.out hb9)
            clear hb9 HU8 HC8 HB8
            go_wp2_with fail
            go_roundw
            case rel => exact ⟨j + 1, by omega, by go_num, HC9, HB9⟩
            case measure => simp [intOf]; omega
        · obtain rfl : N = j := by omega
          have hdj : decide ((N : Int) < (N : Int)) = false := by simp
          clear HC6 HTH HUN HTT HTL HT
          go_wp2_with fail
          refine (HLV _).out.mono ?_
          rintro e w7 ⟨rfl, hb7⟩
          have HB7 := Lib.hid (chain HB6.out hb7)
          clear hb7 HLV
          go_wp2_with fail
          go_ret
          exact ⟨rfl, HB7.out⟩

set_option maxRecDepth 100000 in
theorem lifted (os : Os) (started : os.Started) (H : Type) (enc : TypeId × Value → H) :
    ReturnsInHanded {} Try.checked os 6 .any (Rows.cacheSweepsSpec.pre6 enc Try.prog Try.f6 Rows.cacheSweepsRow.domain false) (Rows.cacheSweepsSpec.post enc Try.prog Try.f6 false true false false) := by
  refine returnsInHanded_of_change (C := Try.checked) own started (by kernel_rfl) Try.func6
    (ChangeSpec.witness6 (enc := enc) (C := Try.checked) false ⟨#[], #[.slice none 0 0, .int .i64 0], []⟩ 8 (by kernel_rfl) (by kernel_rfl) (by kernel_rfl) (by kernel_rfl)) ?_
  intro W base args ds gs before hval0 hW hcnd _
  have hval : ∀ (j : Nat) t v, Try.f6.params[j]? = some t → args[j]? = some v → Value.okWide Try.prog W .any base t v := hval0
  have hW' := hW
  obtain ⟨p, q, hA0, hV, rfl, hfz, hnd⟩ := hW
  have hA : DataW.TrodAll enc Try.prog W 0 (fun _ => true) true Try.f6.params.toList args.toList ds p := hA0
  rw [Try.params6] at hA hval
  obtain ⟨v0, vs0, d0, ds0, p0, q0, hargs, rfl, rfl, h0, r0⟩ := trodAll_cons hA
  obtain ⟨v1, vs1, d1, ds1, p1, q1, rfl, rfl, rfl, h1, r1⟩ := trodAll_cons r0
  obtain ⟨rfl, rfl, rfl⟩ := trodAll_nil r1
  obtain rfl : args = #[v0, v1] := by cases args; simp_all
  obtain ⟨rfl, rfl⟩ := trodVars_none hV
  obtain ⟨a0, len0, cap0, rfl⟩ := okWide_slice Try.underlying57 (hval 0 57 v0 rfl rfl)
  have k0 := h0
  have lt0 : ∀ x ∈ p0, x.block < W.heap.size := by obtain ⟨m, hm⟩ := k0; exact DataW.trod_lt m _ _ _ hm
  obtain ⟨z0, w0⟩ : ∃ zs, IsRow .i64 W a0 len0 cap0 zs := by
    obtain ⟨fuel, hf⟩ := h0
    rcases open_ints Try.underlying57 Try.underlying3 (by kernel_rfl) hf with ⟨hcs, _⟩ | ⟨x, l, c, zs, hcs, _, hl, hm, hz, _, hcell, hwz⟩
    · simp [Value.cells] at hcs
      obtain ⟨rfl, rfl, rfl⟩ := hcs
      exact ⟨[], .inl ⟨rfl, rfl, rfl, rfl⟩⟩
    · simp [Value.cells] at hcs
      obtain ⟨rfl, rfl, rfl⟩ := hcs
      exact ⟨zs, .inr ⟨_, rfl, hl, hm, by simpa using hz, hcell, hwz⟩⟩
  obtain ⟨a1, rfl, rfl, rfl, w1⟩ := open_int Try.underlying3 (hval 1 3 v1 rfl rfl) h1
  clear hA0 hval0
  refine (walk a0 len0 cap0 z0 a1 W w0 w1).mono fun e W' ⟨he, bel⟩ => ?_
  subst he
  exact ⟨_, rfl, _, _, _, [], _, [], hW', trodAll_mk1 (shut_bool Try.underlying4 _), (trodAll_cons_mk (Below.trod laidOut (by kernel_rfl) (of_decide_eq_true (by kernel_rfl)) k0 bel lt0) (trodAll_cons_mk (shut_int Try.underlying3 w1) trodAll_mk0)), rfl, bel.frame _, fun h => by cases h⟩

theorem over : Rows.cacheSweepsRow.holds Try.pinned (OpenSpec.ofChange Rows.cacheSweepsSpec) :=
  OpenClaim.holds_of_wide 6 Try.f6 rfl rfl rfl rfl rfl rfl rfl ⟨rfl, rfl, rfl, rfl, rfl⟩ rfl rfl rfl rfl rfl (by kernel_rfl) Try.func6 (by kernel_rfl)
    (of_decide_eq_true (by kernel_rfl)) (by unfold Func.isWrapper; first | (rw [if_pos (by decide +kernel)]; kernel_rfl) | (rw [if_neg (by decide +kernel)]; exact ⟨rfl, rfl⟩))
    (fun os started H enc _ => lifted os started H enc)


theorem proved : Rows.CacheSweepsSaid := over
#print axioms proved
end Go.Proofs.Ytjmmedpkcedngaa.cacheSweeps

/- For all bytes and every place the statement LabelReads answers true: the name at a place of any bytes, where it ends, or the error, is the document's. -/
import Derived.Test.YtbeoapfbddcpcaaB5
import Derived.Test.YtbeoapfbddcpcaaRows
import Derived.ProofKit
import Derived.OpenShut
import Derived.ShutString
import Derived.ChangeOld
import Derived.Below
namespace Go.Proofs.Ytbeoapfbddcpcaa.labelReads
open Go.ChangeShapes Go.WideShapes Go.ChangeAt Go.RowKit
open Go.ChangeMaps (open_string shut_string)
set_option linter.unusedVariables false
set_option maxRecDepth 20000

theorem own : ownKnob Try.prog.godebug = none := by kernel_rfl

set_option maxRecDepth 100000 in
set_option maxHeartbeats 2000000 in
theorem walk (a : Option Addr) (len cap : Nat) (zs : List Int) (n : Int) (w : World) (hI : IsRow .u8 w a len cap zs) (hn : (Lit.int .i64 n).wf = true) :
    Calls Try.prog 5 #[.slice a len cap, .int .i64 n] w fun e w' => e = .returned (.bool true) ∧ Below w.heap.size w w' := by
  obtain ⟨bs0, rfl, hB0⟩ := bytes_of_row hI
  have HFE := Lib.hid (few8_in hB0 400 (by decide) (by decide))
  have HBI := Lib.hid (hB0.take 400)
  have hlt : (bs0.take 400).length ≤ 400 := by rw [List.length_take]; omega
  generalize bs0.take 400 = bs at *
  have HAR := fun W => Lib.hid (around_any n (bs.length + 1) W hn (by omega) (by omega))
  have hal := aroundN_lt n (bs.length + 1) (by omega)
  generalize aroundN n (bs.length + 1) = at0 at *
  have HRE := fun W (h : BytesIn2 W a cap bs) => Lib.hid (read_any a cap bs at0 W h.1 (by omega) (by omega))
  have HRR := fun W (h : BytesIn2 W a cap bs) => Lib.hid (refRead_any a cap bs at0 W h.1 (by omega) (by omega))
  have HGO := Lib.hid (@read_good bs at0 (by omega))
  have hss := sizes_read bs at0
  obtain ⟨R, hR⟩ : ∃ R, readB bs (at0 + 1) at0 [] none = R := ⟨_, rfl⟩
  rw [hR] at HRE HRR HGO hss
  obtain ⟨t, nx, er⟩ := R
  simp only at HRE HRR HGO hss
  have HMA := fun W => Lib.hid (refMay8_any t W (by omega))
  have HLV := fun W => Lib.hid (lives8_any W)
  have hteq : (t.toList != t.toList) = false := by simp
  have hteq2 : (t.toList == t.toList) = true := by simp
  obtain ⟨N, hN⟩ : ∃ N, bs.length = N := ⟨_, rfl⟩
  rw [hN] at HFE HAR HRE HRR HGO hlt hal
  have hcast : ((N + 1 : Nat) : Int) = (N : Int) + 1 := by omega
  rw [hcast] at HAR
  clear hB0 hI hn hR hN hcast
  go_enter Try.func5, Try.ntmps5
  go_wp2_with fail
  refine HFE.out.mono ?_
  rintro e w1 ⟨rfl, rfl⟩
  clear HFE
  go_wp2_with fail
  refine (HAR _).out.mono ?_
  rintro e w2 ⟨rfl, rfl⟩
  clear HAR
  go_wp2_with fail
  refine (HRE _ HBI.out).out.mono ?_
  rintro e w3 ⟨rfl, hb3⟩
  have HB := Lib.hid hb3
  replace HBI := Lib.hid (HBI.out.below hb3)
  clear hb3 HRE
  go_wp2_with fail
  refine (HRR _ HBI.out).out.mono ?_
  rintro e w4 ⟨rfl, hb4⟩
  replace HB := Lib.hid (chain HB.out hb4)
  clear hb4 HRR HBI
  have hne1 : ((nx : Int) != (nx : Int)) = false := by simp
  have hne2 : (er != er) = false := by simp
  by_cases her : er = 0
  · subst her
    obtain ⟨hg1, hg2, hg3⟩ := HGO.out rfl
    rw [hg1] at HMA
    have hd1 : decide ((at0 : Int) < (nx : Int)) = true := decide_eq_true (by omega)
    have hd1n : decide (at0 < nx) = true := decide_eq_true (by omega)
    have hd2 : decide ((nx : Int) ≤ (N : Int)) = true := decide_eq_true (by omega)
    have hd2n : decide (nx ≤ N) = true := decide_eq_true (by omega)
    clear HGO
    go_wp2_with fail
    refine (HMA _).out.mono ?_
    rintro e w5 ⟨rfl, hb5⟩
    replace HB := Lib.hid (chain HB.out hb5)
    clear hb5 HMA
    go_wp2_with fail
    refine (HLV _).out.mono ?_
    rintro e w6 ⟨rfl, hb6⟩
    replace HB := Lib.hid (chain HB.out hb6)
    clear hb6 HLV
    go_wp2_with fail
    go_ret
    exact ⟨rfl, HB.out⟩
  · have hern : (er != 0) = true := by rw [bne_iff_ne]; exact her
    clear HGO HMA
    go_wp2_with fail
    refine (HLV _).out.mono ?_
    rintro e w6 ⟨rfl, hb6⟩
    replace HB := Lib.hid (chain HB.out hb6)
    clear hb6 HLV
    go_wp2_with fail
    go_ret
    exact ⟨rfl, HB.out⟩

set_option maxRecDepth 100000 in
theorem lifted (os : Os) (started : os.Started) (H : Type) (enc : TypeId × Value → H) :
    ReturnsInHanded {} Try.checked os 5 .any (Rows.labelReadsSpec.pre6 enc Try.prog Try.f5 Rows.labelReadsRow.domain false) (Rows.labelReadsSpec.post enc Try.prog Try.f5 false true false false) := by
  refine returnsInHanded_of_change (C := Try.checked) own started (by kernel_rfl) Try.func5
    (ChangeSpec.witness6 (enc := enc) (C := Try.checked) false ⟨#[], #[.slice none 0 0, .int .i64 0], []⟩ 8 (by kernel_rfl) (by kernel_rfl) (by kernel_rfl) (by kernel_rfl)) ?_
  intro W base args ds gs before hval0 hW hcnd _
  have hval : ∀ (j : Nat) t v, Try.f5.params[j]? = some t → args[j]? = some v → Value.okWide Try.prog W .any base t v := hval0
  have hW' := hW
  obtain ⟨p, q, hA0, hV, rfl, hfz, hnd⟩ := hW
  have hA : DataW.TrodAll enc Try.prog W 0 (fun _ => true) true Try.f5.params.toList args.toList ds p := hA0
  rw [Try.params5] at hA hval
  obtain ⟨v0, vs0, d0, ds0, p0, q0, hargs, rfl, rfl, h0, r0⟩ := trodAll_cons hA
  obtain ⟨v1, vs1, d1, ds1, p1, q1, rfl, rfl, rfl, h1, r1⟩ := trodAll_cons r0
  obtain ⟨rfl, rfl, rfl⟩ := trodAll_nil r1
  obtain rfl : args = #[v0, v1] := by cases args; simp_all
  obtain ⟨rfl, rfl⟩ := trodVars_none hV
  obtain ⟨a0, len0, cap0, rfl⟩ := okWide_slice Try.underlying24 (hval 0 24 v0 rfl rfl)
  have k0 := h0
  have lt0 : ∀ x ∈ p0, x.block < W.heap.size := by obtain ⟨m, hm⟩ := k0; exact DataW.trod_lt m _ _ _ hm
  obtain ⟨z0, w0⟩ : ∃ zs, IsRow .u8 W a0 len0 cap0 zs := by
    obtain ⟨fuel, hf⟩ := h0
    rcases open_ints Try.underlying24 Try.underlying5 (by kernel_rfl) hf with ⟨hcs, _⟩ | ⟨x, l, c, zs, hcs, _, hl, hm, hz, _, hcell, hwz⟩
    · simp [Value.cells] at hcs
      obtain ⟨rfl, rfl, rfl⟩ := hcs
      exact ⟨[], .inl ⟨rfl, rfl, rfl, rfl⟩⟩
    · simp [Value.cells] at hcs
      obtain ⟨rfl, rfl, rfl⟩ := hcs
      exact ⟨zs, .inr ⟨_, rfl, hl, hm, by simpa using hz, hcell, hwz⟩⟩
  obtain ⟨a1, rfl, rfl, rfl, w1⟩ := open_int Try.underlying3 (hval 1 3 v1 rfl rfl) h1
  clear hA0 hval0
  refine (walk a0 len0 cap0 z0 a1 W w0 w1).mono fun e W' ⟨he, bel⟩ => ?_
  subst he
  exact ⟨_, rfl, _, _, _, [], _, [], hW', trodAll_mk1 (shut_bool Try.underlying4 _), (trodAll_cons_mk (Below.trod laidOut (by kernel_rfl) (of_decide_eq_true (by kernel_rfl)) k0 bel lt0) (trodAll_cons_mk (shut_int Try.underlying3 w1) trodAll_mk0)), rfl, bel.frame _, fun h => by cases h⟩

theorem over : Rows.labelReadsRow.holds Try.pinned (OpenSpec.ofChange Rows.labelReadsSpec) :=
  OpenClaim.holds_of_wide 5 Try.f5 rfl rfl rfl rfl rfl rfl rfl ⟨rfl, rfl, rfl, rfl, rfl⟩ rfl rfl rfl rfl rfl (by kernel_rfl) Try.func5 (by kernel_rfl)
    (of_decide_eq_true (by kernel_rfl)) (by unfold Func.isWrapper; first | (rw [if_pos (by decide +kernel)]; kernel_rfl) | (rw [if_neg (by decide +kernel)]; exact ⟨rfl, rfl⟩))
    (fun os started H enc _ => lifted os started H enc)


theorem proved : Rows.LabelReadsSaid := over
#print axioms proved
end Go.Proofs.Ytbeoapfbddcpcaa.labelReads

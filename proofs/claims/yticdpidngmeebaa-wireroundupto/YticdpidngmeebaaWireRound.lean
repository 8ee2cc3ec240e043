/- The bytes of a message (made one that may be) are the document's, and are read as it was; one whose bytes are more than 1232 is refused (ErrLong). For every message of bulk at most 1048576. -/
import Derived.Test.YticdpidngmeebaaE12
import Derived.Test.YticdpidngmeebaaRows
import Derived.ProofKit
import Derived.OpenShut
import Derived.ShutString
import Derived.ChangeOld
import Derived.Below
import Derived.JoinedCond
namespace Go.Proofs.Yticdpidngmeebaa.wireRound
open Go.ChangeShapes Go.WideShapes Go.ChangeAt Go.RowKit
open Go.ChangeMaps (open_string shut_string)
set_option linter.unusedVariables false
set_option maxRecDepth 20000

theorem own : ownKnob Try.prog.godebug = none := by kernel_rfl

set_option maxRecDepth 100000 in
set_option maxHeartbeats 8000000 in
theorem walk (m : Msg) (aq a1 a2 a3 : Option Addr) (cq c1 c2 c3 : Nat) (w : World) (hG : MsgGot w m aq a1 a2 a3 cq c1 c2 c3 1048576) :
    Calls Try.prog 3 #[msgV m aq a1 a2 a3 cq c1 c2 c3] w fun e w' => e = .returned (.bool true) ∧ Below w.heap.size w w' := by
  have hfan := hG.an.at0.2.2.1
  have hfau := hG.au.at0.2.2.1
  have hfmo := hG.mo.at0.2.2.1
  have HGD := fun V (h : Below w.heap.size w V) => Lib.hid (goodMsg9_any m aq a1 a2 a3 cq c1 c2 c3 V (hG.ins.below h) ⟨fun q hq => by have := hG.qs.room q hq; omega, fun r hr => by have := hG.an.room r hr; exact ⟨by have := this.1; omega, by have := this.2.1; omega⟩, fun r hr => by have := hG.au.room r hr; exact ⟨by have := this.1; omega, by have := this.2.1; omega⟩, fun r hr => by have := hG.mo.room r hr; exact ⟨by have := this.1; omega, by have := this.2.1; omega⟩⟩)
  have HMY := Lib.hid (goodM_may (m := m) hfan hfau hfmo)
  have HRM := Lib.hid (goodM_room m)
  have HBK : Hid (12 + (goodM m).qs.length * 16304 + ((goodM m).an.length + (goodM m).au.length + (goodM m).mo.length) * 81845 ≤ 900000) := Lib.hid (by
    have l0 : (goodM m).qs.length ≤ 3 := by show ((m.qs.take 3).map goodQ).length ≤ 3; rw [List.length_map, List.length_take]; omega
    have l1 : (goodM m).an.length ≤ 3 := goodRs_len _
    have l2 : (goodM m).au.length ≤ 3 := goodRs_len _
    have l3 : (goodM m).mo.length ≤ 3 := goodRs_len _
    exact Nat.le_trans (Nat.add_le_add (Nat.add_le_add_left (Nat.mul_le_mul_right 16304 l0) 12) (Nat.mul_le_mul_right 81845 (show _ ≤ 9 by omega))) (by decide))
  have HTR : Hid (mgP (wB (goodM m)) = some (goodM m)) := Lib.hid (mgP_wB HMY.out HRM.out.2 (goodRs_fit hfan) (goodRs_fit hfau) (goodRs_fit hfmo))
  have HLN : Hid (Lens (goodM m)) := Lib.hid (by have := HRM.out.2; exact ⟨by have := this.1; omega, by have := this.2.1; omega, by have := this.2.2.1; omega, by have := this.2.2.2; omega⟩)
  have HLV := fun V => Lib.hid (lives9_any V)
  generalize goodM m = gm at *
  obtain ⟨vm, hvm, lvm, ovm⟩ := msg_row m aq a1 a2 a3 cq c1 c2 c3
  obtain ⟨W, hW⟩ : ∃ W, w.alloc (.cells vm.toArray 25) = W := ⟨_, rfl⟩
  have HBX : Hid (CellsAt W w.heap.size vm) := Lib.hid (by rw [← hW]; exact CellsAt.new _ _ _)
  have HB0 : Hid (Below w.heap.size w W) := Lib.hid (by rw [← hW]; exact (Below.refl _ _).alloc (Nat.le_refl _) _)
  have HGW := HGD W HB0.out
  rw [hvm] at HGW ⊢
  clear hG hfan hfau hfmo hvm ovm HGD
  go_enter Try.func3, Try.ntmps3
  go_upto_region 1 with fail
  try rw [hW]
  clear hW
  go_wp2_with (refine load_msg HBX lvm _ rfl rfl rfl ?_)
  refine HGW.out.mono ?_
  rintro e w1 ⟨bq, b1, b2, b3, dq, d1, d2, d3, rfl, hm1, hb1⟩
  have HM1 := Lib.hid hm1
  have HB1 := Lib.hid (chain HB0.out hb1)
  have HZ1 : Hid (CellsAt (w1.alloc (.cells zM.toArray 25)) w1.heap.size zM) := Lib.hid (CellsAt.new w1 _ zM)
  obtain ⟨vg, hvg, lvg, ovg⟩ := msg_row gm bq b1 b2 b3 dq d1 d2 d3
  have HVG := Lib.hid hvg
  rw [hvg]
  clear hm1 hb1 HGW HBX HB0 hvg
  go_upto_region 2 with (have HZ := HZ1; refine store_msg HZ rfl _ _ rfl rfl rfl rfl lvg ovg (fun W2 HW2 HX2 => ?_); clear HZ1)
  have HB2 : Hid (Below w1.heap.size w1 W2) := Lib.hid (by rw [HW2.out]; exact below_cells (Nat.le_refl _) _ _ _ ((Below.refl _ _).alloc (Nat.le_refl _) _))
  have HM := Lib.hid (HM1.out.below HB2.out)
  have HB := Lib.hid (chain HB1.out HB2.out)
  have HMV := fun V (h : Below W2.heap.size W2 V) => Lib.hid (HM.out.below h)
  clear HB2 HM1 HB1 HZ HW2
  obtain ⟨G1, hG1⟩ : ∃ G1, w1.heap.size = G1 := ⟨_, rfl⟩
  rw [hG1] at HX2
  try rw [hG1]
  clear hG1
  have HWR := Lib.hid (write9_any gm bq b1 b2 b3 dq d1 d2 d3 W2 HM.out HRM.out.1 HRM.out.2)
  rw [HVG.out] at HWR
  go_wp2_with (refine load_msg HX2 lvg _ rfl rfl rfl ?_)
  refine HWR.out.mono ?_
  rintro e w3 h3
  have HB3 := Lib.hid (chain HB.out h3.1)
  have HC3 : Hid (Below W2.heap.size W2 w3) := Lib.hid h3.1
  have HX3 := Lib.hid (HX2.out.below h3.1)
  rcases h3.2 with ⟨hm, _⟩ | ⟨_, hlen, rfl⟩ | ⟨_, hlen, v', rfl, ho⟩
  · rw [HMY.out] at hm; exact absurd hm (by decide)
  · clear h3 HWR HX2 HM HB
    have HRW := Lib.hid (refWrite9_any gm bq b1 b2 b3 dq d1 d2 d3 w3 (HMV _ HC3.out).out HMY.out HRM.out.2 HBK.out)
    rw [HVG.out] at HRW
    go_wp2_with (refine load_msg HX3 lvg _ rfl rfl rfl ?_)
    refine HRW.out.mono ?_
    rintro e w4 ⟨v4, rfl, ho4, hb4⟩
    have HB4 := Lib.hid (chain HB3.out hb4)
    have HC4 := Lib.hid (chain HC3.out hb4)
    have HX4 := Lib.hid (HX3.out.below hb4)
    obtain ⟨x4, y4, hv4⟩ := own_slice ho4
    obtain ⟨L, hL⟩ : ∃ L, (wB gm).length = L := ⟨_, rfl⟩
    rw [hL] at hv4 hlen
    subst hv4
    have hdL : decide ((1232 : Int) < (L : Int)) = true := decide_eq_true (by omega)
    have hdLn : decide (1232 < L) = true := decide_eq_true hlen
    have HMA := Lib.hid (may9_any gm bq b1 b2 b3 dq d1 d2 d3 w4 (HMV _ HC4.out).out HRM.out.1)
    rw [HVG.out, HMY.out] at HMA
    clear hb4 ho4 HRW hL hlen HX3 HB3 HC3
    go_wp2_with (refine load_msg HX4 lvg _ rfl rfl rfl ?_)
    refine HMA.out.mono ?_
    rintro e w5 ⟨rfl, hb5⟩
    have HB5 := Lib.hid (chain HB4.out hb5)
    have HC5 := Lib.hid (chain HC4.out hb5)
    have HX5 := Lib.hid (HX4.out.below hb5)
    have HMA2 := Lib.hid (may9_any gm bq b1 b2 b3 dq d1 d2 d3 w5 (HMV _ HC5.out).out HRM.out.1)
    rw [HVG.out, HMY.out] at HMA2
    clear hb5 HMA HX4 HB4 HC4
    go_wp2_with (refine load_msg HX5 lvg _ rfl rfl rfl ?_)
    refine HMA2.out.mono ?_
    rintro e w6 ⟨rfl, hb6⟩
    have HB6 := Lib.hid (chain HB5.out hb6)
    clear hb6 HMA2 HX5 HB5 HC5
    go_wp2_with fail
    refine (HLV _).out.mono ?_
    rintro e w7 ⟨rfl, hb7⟩
    have HB7 := Lib.hid (chain HB6.out hb7)
    clear hb7 HLV
    go_wp2_with fail
    go_ret
    exact ⟨rfl, HB7.out⟩
  · have HO := Lib.hid ho
    obtain ⟨x3, y3, hv3⟩ := own_slice ho
    have HRW := Lib.hid (refWrite9_any gm bq b1 b2 b3 dq d1 d2 d3 w3 (HMV _ HC3.out).out HMY.out HRM.out.2 HBK.out)
    rw [HVG.out] at HRW
    obtain ⟨L, hL⟩ : ∃ L, (wB gm).length = L := ⟨_, rfl⟩
    have HL := Lib.hid hL
    have HLE := Lib.hid hlen
    rw [hL] at hv3 hlen
    subst hv3
    clear h3 HWR HX2 HM HB ho hL
    go_wp2_with (refine load_msg HX3 lvg _ rfl rfl rfl ?_)
    refine HRW.out.mono ?_
    rintro e w4 ⟨v4, rfl, ho4, hb4⟩
    have HB4 := Lib.hid (chain HB3.out hb4)
    have HC4 := Lib.hid (chain HC3.out hb4)
    have HX4 := Lib.hid (HX3.out.below hb4)
    have HO4 := Lib.hid ho4
    have HO3 := Lib.hid (own_below8 HO.out hb4)
    obtain ⟨x4, y4, hv4⟩ := own_slice ho4
    rw [HL.out] at hv4
    subst hv4
    have hdL : decide ((1232 : Int) < (L : Int)) = false := decide_eq_false (by omega)
    have hdLn : decide (1232 < L) = false := decide_eq_false (by omega)
    have HMA := Lib.hid (may9_any gm bq b1 b2 b3 dq d1 d2 d3 w4 (HMV _ HC4.out).out HRM.out.1)
    rw [HVG.out, HMY.out] at HMA
    clear hb4 ho4 HRW HX3 HB3 HC3 HO
    go_wp2_with (refine load_msg HX4 lvg _ rfl rfl rfl ?_)
    refine HMA.out.mono ?_
    rintro e w5 ⟨rfl, hb5⟩
    have HB5 := Lib.hid (chain HB4.out hb5)
    have HC5 := Lib.hid (chain HC4.out hb5)
    have HX5 := Lib.hid (HX4.out.below hb5)
    replace HO4 := Lib.hid (own_below8 HO4.out hb5)
    replace HO3 := Lib.hid (own_below8 HO3.out hb5)
    clear hb5 HMA HX4 HB4 HC4
    have HRD : Hid (Calls Try.prog 15 #[.slice x3 L y3] w5 (ReadRet w5 (wB gm))) := Lib.hid (by
      obtain ⟨az, cz, hz, hbz⟩ := in_own HO3.out
      injection hz with z1 z2 z3
      subst z1
      subst z3
      have := read9L_any hbz (by have := HLE.out; omega) (fun x hx => by
        subst hx
        exact (HO3.out.lt _ rfl).2)
      rw [HL.out] at this
      exact this)
    go_wp2_with fail
    refine HRD.out.mono ?_
    rintro e w6 ⟨hb6, hr6⟩
    have HB6 := Lib.hid (chain HB5.out hb6)
    have HC6 := Lib.hid (chain HC5.out hb6)
    have HX6 := Lib.hid (HX5.out.below hb6)
    replace HO4 := Lib.hid (own_below8 HO4.out hb6)
    replace HO3 := Lib.hid (own_below8 HO3.out hb6)
    clear hb6 HX5 HB5 HC5 HRD
    rcases hr6 with ⟨hno, _⟩ | ⟨_, mm, eq, e1, e2, e3, fq, f1, f2, f3, hmm, rfl, hmi⟩
    · have := hno HLE.out
      rw [HTR.out] at this
      cases this
    · rw [HTR.out] at hmm
      injection hmm with hmm
      subst hmm
      have HMI := Lib.hid hmi
      have HZ6 : Hid (CellsAt (w6.alloc (.cells zM.toArray 25)) w6.heap.size zM) := Lib.hid (CellsAt.new w6 _ zM)
      obtain ⟨vr, hvr, lvr, ovr⟩ := msg_row gm eq e1 e2 e3 fq f1 f2 f3
      have HVR := Lib.hid hvr
      rw [hvr]
      clear hmi hvr
      go_upto_region 7 with (have HZ := HZ6; refine store_msg HZ rfl _ _ rfl rfl rfl rfl lvr ovr (fun W7 HW7 HX7 => ?_); clear HZ6)
      have hb7 : Below w6.heap.size w6 W7 := by rw [HW7.out]; exact below_cells (Nat.le_refl _) _ _ _ ((Below.refl _ _).alloc (Nat.le_refl _) _)
      have HB7 := Lib.hid (chain HB6.out hb7)
      have HC7 := Lib.hid (chain HC6.out hb7)
      have HY7 := Lib.hid (HX6.out.below hb7)
      have HMI7 := Lib.hid (HMI.out.below hb7)
      replace HO4 := Lib.hid (own_below8 HO4.out hb7)
      replace HO3 := Lib.hid (own_below8 HO3.out hb7)
      have HSB := Lib.hid (refSameBytes_any (.slice x3 L y3) (.slice x4 L y4) (wB gm) (wB gm) W7 (own_bytes_back HO3.out) (own_bytes_back HO4.out))
      rw [decide_eq_true rfl] at HSB
      obtain ⟨G7, hG7⟩ : ∃ G7, w6.heap.size = G7 := ⟨_, rfl⟩
      rw [hG7] at HX7
      try rw [hG7]
      clear hG7 hb7 HW7 HZ HX6 HB6 HC6 HMI HO3 HO4
      go_wp2_with fail
      refine HSB.out.mono ?_
      rintro e w8 ⟨rfl, hw8⟩
      have hb8 : Below W7.heap.size W7 w8 := by rw [hw8]; exact Below.refl _ _
      have HB8 := Lib.hid (chain HB7.out hb8)
      have HC8 := Lib.hid (chain HC7.out hb8)
      have HX8 := Lib.hid (HX7.out.below hb8)
      have HY8 := Lib.hid (HY7.out.below hb8)
      have HMI8 := Lib.hid (HMI7.out.below hb8)
      clear hw8 hb8 HSB HX7 HY7 HB7 HC7 HMI7
      have HSA := Lib.hid (refSame9_any gm gm eq e1 e2 e3 fq f1 f2 f3 bq b1 b2 b3 dq d1 d2 d3 w8 HMI8.out (HMV _ HC8.out).out HLN.out HLN.out)
      rw [HVG.out, HVR.out, decide_eq_true rfl] at HSA
      go_wp2_with (first | refine load_msg HX8 lvr _ rfl rfl rfl ?_ | refine load_msg HY8 lvg _ rfl rfl rfl ?_)
      refine HSA.out.mono ?_
      rintro e w9 ⟨rfl, hb9⟩
      have HB9 := Lib.hid (chain HB8.out hb9)
      have HC9 := Lib.hid (chain HC8.out hb9)
      have HX9 := Lib.hid (HX8.out.below hb9)
      have HY9 := Lib.hid (HY8.out.below hb9)
      have HMI9 := Lib.hid (HMI8.out.below hb9)
      clear hb9 HSA HX8 HY8 HB8 HC8 HMI8
      have HSA := Lib.hid (wireSame_any gm gm eq e1 e2 e3 fq f1 f2 f3 bq b1 b2 b3 dq d1 d2 d3 w9 HMI9.out (HMV _ HC9.out).out HLN.out HLN.out)
      rw [HVG.out, HVR.out, decide_eq_true rfl] at HSA
      go_wp2_with (first | refine load_msg HX9 lvr _ rfl rfl rfl ?_ | refine load_msg HY9 lvg _ rfl rfl rfl ?_)
      refine HSA.out.mono ?_
      rintro e wa ⟨rfl, hba⟩
      have HBA := Lib.hid (chain HB9.out hba)
      clear hba HSA HX9 HY9 HB9 HC9 HMI9
      go_wp2_with fail
      refine (HLV _).out.mono ?_
      rintro e wb ⟨rfl, hbb⟩
      have HBB := Lib.hid (chain HBA.out hbb)
      clear hbb HLV
      go_wp2_with fail
      go_ret
      exact ⟨rfl, HBB.out⟩

theorem contract (H : Type) (enc : TypeId × Value → H) (W : World) (base : Nat) (args : Array Value) (ds gs : List (DataW H)) (before : List MemPlace)
    (hval0 : ∀ (j : Nat) t v, Try.f3.params[j]? = some t → args[j]? = some v → Value.okWide Try.prog W .any base t v)
    (hW : DataW.Whole enc Try.prog Try.f3.params.toList Rows.wireRoundSpec.vars false W args.toList ds gs before) (hk : Rows.uptoSmall H (ds ++ gs) = true) :
    Calls Try.prog 3 args W fun e W' => ∃ v, e = .returned v ∧ Rows.wireRoundSpec.post enc Try.prog Try.f3 false true false false W args v W' := by
  have hkb : ∀ d ∈ ds, Rows.uptoBulk d ≤ 1048576 := fun d hd => Nat.le_trans (bulk_mem (List.mem_append_left _ hd)) (of_decide_eq_true hk)
  clear hk
  have hval : ∀ (j : Nat) t v, Try.f3.params[j]? = some t → args[j]? = some v → Value.okWide Try.prog W .any base t v := hval0
  have hW' := hW
  obtain ⟨p, q, hA0, hV, rfl, hfz, hnd⟩ := hW
  have hA : DataW.TrodAll enc Try.prog W 0 (fun _ => true) true Try.f3.params.toList args.toList ds p := hA0
  rw [Try.params3] at hA hval
  obtain ⟨v0, vs0, d0, ds0, p0, q0, hargs, rfl, rfl, h0, r0⟩ := trodAll_cons hA
  obtain ⟨rfl, rfl, rfl⟩ := trodAll_nil r0
  obtain rfl : args = #[v0] := by cases args; simp_all
  obtain ⟨rfl, rfl⟩ := trodVars_none hV
  have k0 := h0
  have lt0 : ∀ x ∈ p0, x.block < W.heap.size := by obtain ⟨m, hm⟩ := k0; exact DataW.trod_lt m _ _ _ hm
  obtain ⟨m0, xq0, xa0, xb0, xc0, yq0, ya0, yb0, yc0, rfl, w0⟩ := open_msg (hval 0 25 v0 rfl rfl) h0
  replace w0 := w0.wider (hkb d0 (by simp))
  clear hA0 hval0
  refine (walk m0 xq0 xa0 xb0 xc0 yq0 ya0 yb0 yc0 W w0).mono fun e W' ⟨he, bel⟩ => ?_
  subst he
  exact ⟨_, rfl, _, _, _, [], _, [], hW', trodAll_mk1 (shut_bool Try.underlying4 _), (trodAll_cons_mk (Below.trod laidOut (by kernel_rfl) (of_decide_eq_true (by kernel_rfl)) k0 bel lt0) trodAll_mk0), rfl, bel.frame _, fun h => by cases h⟩

set_option maxRecDepth 100000 in
theorem lifted (os : Os) (started : os.Started) (H : Type) (enc : TypeId × Value → H) (F : Stop.Interp) :
    ReturnsInHanded {} Try.checked os 3 .any ((Rows.OpenSpec.upto Rows.wireRoundSpec).pre6 enc Try.prog Try.f3 Rows.wireRoundUptoRow.domain false) (((Rows.OpenSpec.upto Rows.wireRoundSpec).at F).post enc Try.prog Try.f3 false true false false) := by
  refine returnsInHanded_of_cond (C := Try.checked) (s := Rows.OpenSpec.upto Rows.wireRoundSpec) (k := Rows.uptoSmall) rfl own started (by kernel_rfl) Try.func3
    (OpenSpec.witness (enc := enc) (C := Try.checked) (s := Rows.OpenSpec.upto Rows.wireRoundSpec) (k := Rows.uptoSmall) rfl false ⟨#[], #[.agg #[.int .i64 0, .int .i64 0, .slice none 0 0, .slice none 0 0, .slice none 0 0, .slice none 0 0]], []⟩ 8 (by kernel_rfl) (by kernel_rfl) (by kernel_rfl)
      (x := ([.agg [.lit (.int .i64 0), .lit (.int .i64 0), .nil, .nil, .nil, .nil]], [], [])) (by kernel_rfl) rfl (by kernel_rfl)) ?_
  intro W base args ds gs before hval hW _ hk _
  exact contract H enc W base args ds gs before hval hW hk

theorem proved : Rows.WireRoundUptoSaid :=
  OpenClaim.holds_of_cond 3 Try.f3 rfl rfl rfl rfl rfl rfl rfl ⟨rfl, rfl, rfl, rfl, rfl⟩ rfl rfl rfl rfl rfl (by kernel_rfl) Try.func3 (by kernel_rfl)
    (of_decide_eq_true (by kernel_rfl)) (by unfold Func.isWrapper; first | (rw [if_pos (by decide +kernel)]; kernel_rfl) | (rw [if_neg (by decide +kernel)]; exact ⟨rfl, rfl⟩))
    (fun os started H enc _ F => lifted os started H enc F)
#print axioms proved
end Go.Proofs.Yticdpidngmeebaa.wireRound

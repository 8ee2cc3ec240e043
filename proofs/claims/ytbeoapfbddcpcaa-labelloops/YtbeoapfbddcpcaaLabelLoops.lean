/- For all bytes and every number the statement LabelLoops answers true: a pointer to itself, or to what stands behind it, is refused, wherever it stands. -/
import Derived.Test.YtbeoapfbddcpcaaB5
import Derived.Test.YtbeoapfbddcpcaaRows
import Derived.ProofKit
import Derived.OpenShut
import Derived.ShutString
import Derived.ChangeOld
import Derived.Below
namespace Go.Proofs.Ytbeoapfbddcpcaa.labelLoops
open Go.ChangeShapes Go.WideShapes Go.ChangeAt Go.RowKit
open Go.ChangeMaps (open_string shut_string)
set_option linter.unusedVariables false
set_option maxRecDepth 20000

theorem own : ownKnob Try.prog.godebug = none := by kernel_rfl

theorem loops_math (pre : List UInt8) (to : Nat) (h1 : pre.length ≤ to) (h2 : to < 16384) : readB (pre ++ [UInt8.ofNat (192 + to / 256), UInt8.ofNat (to % 256), 0]) (pre.length + 1) pre.length [] none = (⟨#[]⟩, 0, 2) := by
  have hl : (pre ++ [UInt8.ofNat (192 + to / 256), UInt8.ofNat (to % 256), 0]).length = pre.length + 3 := by simp
  have g1 : ((pre ++ [UInt8.ofNat (192 + to / 256), UInt8.ofNat (to % 256), 0]).getD pre.length 0).toNat = 192 + to / 256 := by
    rw [List.getD_eq_getElem?_getD, List.getElem?_append_right (Nat.le_refl _), Nat.sub_self]
    show (UInt8.ofNat (192 + to / 256)).toNat = _
    rw [UInt8.toNat_ofNat', Nat.mod_eq_of_lt (by omega)]
  have g2 : ((pre ++ [UInt8.ofNat (192 + to / 256), UInt8.ofNat (to % 256), 0]).getD (pre.length + 1) 0).toNat = to % 256 := by
    rw [List.getD_eq_getElem?_getD, List.getElem?_append_right (by omega), Nat.add_sub_cancel_left]
    show (UInt8.ofNat (to % 256)).toNat = _
    rw [UInt8.toNat_ofNat', Nat.mod_eq_of_lt (by omega)]
  have ht : toAt (pre ++ [UInt8.ofNat (192 + to / 256), UInt8.ofNat (to % 256), 0]) pre.length = to := by
    unfold toAt
    rw [g1, g2]
    omega
  exact (RdSt.start _ pre.length).ptr2 (by omega) (by omega) (by omega) (by rw [ht]; exact h1)
theorem bys_three (to : Nat) (h : to < 16384) : bys [UInt8.ofNat (192 + to / 256), UInt8.ofNat (to % 256), 0] = [.int .u8 (192 + (to : Int) / 256), .int .u8 ((to : Int) % 256), .int .u8 0] := by
  have := bys_two (A := to / 256) (C := to % 256) (by omega) (by omega)
  unfold bys at this ⊢
  simp only [List.map_cons, List.map_nil] at this ⊢
  injection this with t1 t2
  injection t2 with t2 t3
  rw [t1, t2]
  rfl
set_option maxRecDepth 100000 in
set_option maxHeartbeats 2000000 in
theorem walk (a : Option Addr) (len cap : Nat) (zs : List Int) (n : Int) (w : World) (hI : IsRow .u8 w a len cap zs) (hn : (Lit.int .i64 n).wf = true) :
    Calls Try.prog 8 #[.slice a len cap, .int .i64 n] w fun e w' => e = .returned (.bool true) ∧ Below w.heap.size w w' := by
  obtain ⟨bs0, rfl, hB0⟩ := bytes_of_row hI
  have HFE := Lib.hid (few8_in hB0 50 (by decide) (by decide))
  have HBI := Lib.hid (hB0.take 50)
  have hlt : (bs0.take 50).length ≤ 50 := by rw [List.length_take]; omega
  generalize bs0.take 50 = bs at *
  have HAR := fun W => Lib.hid (around_any n 10000 W hn (by decide) (by decide))
  have hal := aroundN_lt n 10000 (by decide)
  generalize aroundN n 10000 = far at *
  have HLV := fun W => Lib.hid (lives8_any W)
  obtain ⟨N, hN⟩ : ∃ N, bs.length = N := ⟨_, rfl⟩
  have HN := Lib.hid hN
  obtain ⟨to, hto⟩ : ∃ to, N + far = to := ⟨_, rfl⟩
  have htl : to < 16384 := by omega
  have hti : (N : Int) + (far : Int) = (to : Int) := by omega
  have HLM := Lib.hid (loops_math bs to (by omega) htl)
  have HB3 := Lib.hid (bys_three to htl)
  obtain ⟨tl, htlq⟩ : ∃ tl, [UInt8.ofNat (192 + to / 256), UInt8.ofNat (to % 256), 0] = tl := ⟨_, rfl⟩
  have htll : tl.length = 3 := by rw [← htlq]; rfl
  have HTL := Lib.hid htll
  rw [htlq] at HLM HB3
  rw [hN] at HFE hlt HLM
  have HOW : Hid (w.ownsRow w.heap.size 5 1 (.slice none 0 0) ([] : List UInt8).length (bys [])) := Lib.hid (World.ownsRow_nil _ _ _ _)
  have HN1 : Hid (([] : List UInt8).length + bs.length ≤ 1000000000 ∧ w.heap.size ≤ w.heap.size) := Lib.hid ⟨by rw [hN]; simp; omega, Nat.le_refl _⟩
  clear hB0 hI hn hN htlq htll
  have hwf : IntKind.i64.wrap ((N : Int) + (far : Int)) = (to : Int) := by rw [hti, IntKind.wrap_i64]; omega
  have hdq : (to : Int) / 256 < 64 := by omega
  go_enter Try.func8, Try.ntmps8
  go_wp2_with fail
  refine HFE.out.mono ?_
  rintro e w1 ⟨rfl, rfl⟩
  clear HFE
  go_wp2_with fail
  refine (HAR _).out.mono ?_
  rintro e w2 ⟨rfl, rfl⟩
  clear HAR
  go_upto_region 3 with fail
  try simp only [hti]
  clear hti hwf
  go_upto_region 5 with (at_builtin; refine wpList_plain rfl (fun K hK => wp_append_in (l := []) (m := bs) HOW HBI HN1 _ _ rfl rfl (by rw [HN.out]; rfl) (fun v2 w4 HOw HGw HFw => hK _ _ ?_)); rw [List.nil_append] at HOw; obtain ⟨a2, c2, hv2⟩ := own_slice HOw.out; rw [HN.out] at hv2; subst hv2)
  have HBw := Lib.hid ((Below.refl w1.heap.size w1).grown HGw.out (Nat.le_refl _) (fun k hk => by cases hk))
  clear HOW HGw HFw HN1 HBI
  have hsz4 := HBw.out.size
  obtain ⟨W, hW⟩ : ∃ W, w4.alloc (.cells #[.int .u8 (192 + (to : Int) / 256), .int .u8 ((to : Int) % 256), .int .u8 0] 5) = W := ⟨_, rfl⟩
  have HO2 : Hid (W.ownsRow w1.heap.size 5 1 (.slice a2 N c2) bs.length (bys bs)) := Lib.hid (by rw [← hW]; exact HOw.out.alloc _)
  have HC2 : Hid (∀ j u, (bys tl)[j]? = some u → W.cell? ⟨w4.heap.size, j, none⟩ = some u) := Lib.hid (fun j u hu => by rw [← hW]; exact cells_new8 w4 [.int .u8 (192 + (to : Int) / 256), .int .u8 ((to : Int) % 256), .int .u8 0] 5 j u (by rw [← HB3.out]; exact hu))
  have HN2 : Hid (bs.length + tl.length ≤ 1000000000 ∧ w1.heap.size ≤ W.heap.size) := Lib.hid ⟨by rw [HN.out, HTL.out]; omega, by rw [← hW]; simp; omega⟩
  have HBW : Hid (Below w1.heap.size w1 W) := Lib.hid (by rw [← hW]; exact HBw.out.alloc hsz4 _)
  go_upto_region 6 with (first | (at_builtin; refine wpList_plain rfl (fun K hK => wp_append_bytes (l := bs) (m := tl) HO2 HC2 HN2 _ _ rfl rfl (by rw [HTL.out]; rfl) (fun v3 w5 HOx HGx HFx => hK _ _ ?_)); obtain ⟨lx, hlx⟩ : ∃ lx, bs ++ tl = lx := ⟨_, rfl⟩; rw [hlx] at HOx; have HLX := Lib.hid hlx; clear hlx; obtain ⟨a3, c3, hv3, hbi3⟩ := in_own HOx.out; subst hv3; have HBI3 := Lib.hid hbi3; clear hbi3))
  have HB5 := Lib.hid (HBW.out.grown HGx.out HBW.out.size (fun k hk => (HO2.out.lt k hk).1))
  have hll : lx.length = N + 3 := by rw [← HLX.out, List.length_append, HN.out, HTL.out]
  rw [HLX.out] at HLM
  have HRE := Lib.hid (read_any a3 c3 lx N w5 HBI3.out.1 (by omega) (by omega))
  rw [HLM.out] at HRE
  clear hll
  generalize lx.length = M at *
  clear HOw HBw hW HO2 HC2 HN2 HBW HOx HGx HFx HBI3 HLM HB3 HTL HN
  go_wp2_with fail
  refine HRE.out.mono ?_
  rintro e w6 ⟨rfl, hb6⟩
  have HB6 := Lib.hid (chain HB5.out hb6)
  clear hb6 HRE HB5
  go_wp2_with fail
  refine (HLV _).out.mono ?_
  rintro e w7 ⟨rfl, hb7⟩
  have HB7 := Lib.hid (chain HB6.out hb7)
  clear hb7 HB6
  go_wp2_with fail
  go_ret
  exact ⟨rfl, HB7.out⟩

set_option maxRecDepth 100000 in
theorem lifted (os : Os) (started : os.Started) (H : Type) (enc : TypeId × Value → H) :
    ReturnsInHanded {} Try.checked os 8 .any (Rows.labelLoopsSpec.pre6 enc Try.prog Try.f8 Rows.labelLoopsRow.domain false) (Rows.labelLoopsSpec.post enc Try.prog Try.f8 false true false false) := by
  refine returnsInHanded_of_change (C := Try.checked) own started (by kernel_rfl) Try.func8
    (ChangeSpec.witness6 (enc := enc) (C := Try.checked) false ⟨#[], #[.slice none 0 0, .int .i64 0], []⟩ 8 (by kernel_rfl) (by kernel_rfl) (by kernel_rfl) (by kernel_rfl)) ?_
  intro W base args ds gs before hval0 hW hcnd _
  have hval : ∀ (j : Nat) t v, Try.f8.params[j]? = some t → args[j]? = some v → Value.okWide Try.prog W .any base t v := hval0
  have hW' := hW
  obtain ⟨p, q, hA0, hV, rfl, hfz, hnd⟩ := hW
  have hA : DataW.TrodAll enc Try.prog W 0 (fun _ => true) true Try.f8.params.toList args.toList ds p := hA0
  rw [Try.params8] at hA hval
  obtain ⟨v0, vs0, d0, ds0, p0, q0, hargs, rfl, rfl, h0, r0⟩ := trodAll_cons hA
  obtain ⟨v1, vs1, d1, ds1, p1, q1, rfl, rfl, rfl, h1, r1⟩ := trodAll_cons r0
  obtain ⟨rfl, rfl, rfl⟩ := trodAll_nil r1
  obtain rfl : args = #[v0, v1] := by cases args; simp_all
  obtain ⟨rfl, rfl⟩ := trodVars_none hV
  obtain ⟨a0, len0, cap0, rfl⟩ := okWide_slice Try.underlying24 (hval 0 24 v0 rfl rfl)
  have k0 := h0
  have lt0 : ∀ x ∈ p0, x.block < W.heap.size := by obtain ⟨m, hm⟩ := k0; exact DataW.trod_lt m _ _ _ hm
  obtain ⟨z0, w0⟩ : ∃ zs, IsRow .u8 W a0 len0 cap0 zs := by
    obtain ⟨fuel, hf⟩ := h0
    rcases open_ints Try.underlying24 Try.underlying5 (by kernel_rfl) hf with ⟨hcs, _⟩ | ⟨x, l, c, zs, hcs, _, hl, hm, hz, _, hcell, hwz⟩
    · simp [Value.cells] at hcs
      obtain ⟨rfl, rfl, rfl⟩ := hcs
      exact ⟨[], .inl ⟨rfl, rfl, rfl, rfl⟩⟩
    · simp [Value.cells] at hcs
      obtain ⟨rfl, rfl, rfl⟩ := hcs
      exact ⟨zs, .inr ⟨_, rfl, hl, hm, by simpa using hz, hcell, hwz⟩⟩
  obtain ⟨a1, rfl, rfl, rfl, w1⟩ := open_int Try.underlying3 (hval 1 3 v1 rfl rfl) h1
  clear hA0 hval0
  refine (walk a0 len0 cap0 z0 a1 W w0 w1).mono fun e W' ⟨he, bel⟩ => ?_
  subst he
  exact ⟨_, rfl, _, _, _, [], _, [], hW', trodAll_mk1 (shut_bool Try.underlying4 _), (trodAll_cons_mk (Below.trod laidOut (by kernel_rfl) (of_decide_eq_true (by kernel_rfl)) k0 bel lt0) (trodAll_cons_mk (shut_int Try.underlying3 w1) trodAll_mk0)), rfl, bel.frame _, fun h => by cases h⟩

theorem over : Rows.labelLoopsRow.holds Try.pinned (OpenSpec.ofChange Rows.labelLoopsSpec) :=
  OpenClaim.holds_of_wide 8 Try.f8 rfl rfl rfl rfl rfl rfl rfl ⟨rfl, rfl, rfl, rfl, rfl⟩ rfl rfl rfl rfl rfl (by kernel_rfl) Try.func8 (by kernel_rfl)
    (of_decide_eq_true (by kernel_rfl)) (by unfold Func.isWrapper; first | (rw [if_pos (by decide +kernel)]; kernel_rfl) | (rw [if_neg (by decide +kernel)]; exact ⟨rfl, rfl⟩))
    (fun os started H enc _ => lifted os started H enc)


theorem proved : Rows.LabelLoopsSaid := over
#print axioms proved
end Go.Proofs.Ytbeoapfbddcpcaa.labelLoops

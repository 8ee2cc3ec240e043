/- For every text and all bytes ahead and behind the statement LabelRound answers true: a name's bytes are read as the name, and end where they end. -/
import Derived.Test.YtbeoapfbddcpcaaB5
import Derived.Test.YtbeoapfbddcpcaaRows
import Derived.ProofKit
import Derived.OpenShut
import Derived.ShutString
import Derived.ChangeOld
import Derived.Below
namespace Go.Proofs.Ytbeoapfbddcpcaa.labelRound
open Go.ChangeShapes Go.WideShapes Go.ChangeAt Go.RowKit
open Go.ChangeMaps (open_string shut_string)
set_option linter.unusedVariables false
set_option maxRecDepth 20000

theorem own : ownKnob Try.prog.godebug = none := by kernel_rfl

set_option maxRecDepth 100000 in
set_option maxHeartbeats 2000000 in
theorem walk (s00 : ByteArray) (a : Option Addr) (len cap : Nat) (zs : List Int) (b : Option Addr) (len2 cap2 : Nat) (ys : List Int) (w : World) (hs : s00.size ≤ maxLen) (hI : IsRow .u8 w a len cap zs) (hJ : IsRow .u8 w b len2 cap2 ys) :
    Calls Try.prog 7 #[.string s00, .slice a len cap, .slice b len2 cap2] w fun e w' => e = .returned (.bool true) ∧ Below w.heap.size w w' := by
  have HFA := Lib.hid (few_any s00 100 w hs (by decide))
  have ha := few_size s00 100
  generalize few s00 100 = s0 at *
  have HGO := fun W => Lib.hid (refGoodN_any s0 W (by omega))
  have hgs := goodN_small s0
  have HGM := Lib.hid (good_may s0)
  generalize goodN s0 = s at *
  obtain ⟨bs0, rfl, hB0⟩ := bytes_of_row hI
  obtain ⟨cs0, rfl, hC0⟩ := bytes_of_row hJ
  have HFE := fun W (h : Below w.heap.size w W) => Lib.hid (few8_in (hB0.below h) 50 (by decide) (by decide))
  have HFC := fun W (h : Below w.heap.size w W) => Lib.hid (few8_in (hC0.below h) 50 (by decide) (by decide))
  have HBI := fun W (h : Below w.heap.size w W) => Lib.hid ((hB0.below h).take 50)
  have HCI := fun W (h : Below w.heap.size w W) => Lib.hid ((hC0.below h).take 50)
  have hlt : (bs0.take 50).length ≤ 50 := by rw [List.length_take]; omega
  have hlt2 : (cs0.take 50).length ≤ 50 := by rw [List.length_take]; omega
  generalize bs0.take 50 = bs at *
  generalize cs0.take 50 = cs at *
  have HBY := fun W => Lib.hid (bytes8_any s W (by omega))
  have e1 : bytes8 s = bytesL (labelsB s) := by unfold bytes8; rw [if_pos HGM.out]
  have e2 : errI s = 0 := by unfold errI; rw [if_pos HGM.out]
  rw [e1, e2] at HBY
  have HLV := fun W => Lib.hid (lives8_any W)
  have hml : MayL (labelsB s) := of_decide_eq_true HGM.out
  have HRB : Hid (readB (bs ++ bytesL (labelsB s) ++ cs) (bs.length + 1) bs.length [] none = (s, bs.length + (bytesL (labelsB s)).length, 0)) := Lib.hid (by
    have h1 := sp_bytes bs.length (labelsB s) bs cs (fun p hp => ⟨(may_label HGM.out p hp).1, (may_label HGM.out p hp).2, labels_free s p hp⟩)
    rw [← bytesL_cons] at h1
    have := sp_readB h1 hml.2
    rw [join_labels] at this
    exact this)
  have hbl1 : (bytesL (labelsB s)).length ≤ 255 := by rw [bytesL_size]; exact hml.2
  have hbl2 : 1 ≤ (bytesL (labelsB s)).length := by rw [bytesL_size]; have := sizeL_pos (labelsB s); omega
  generalize bytesL (labelsB s) = bl at *
  clear hml HGM e1 e2 hB0 hC0 hI hJ hs
  obtain ⟨N, hN⟩ : ∃ N, bs.length = N := ⟨_, rfl⟩
  have HN := Lib.hid hN
  obtain ⟨M, hM⟩ : ∃ M, cs.length = M := ⟨_, rfl⟩
  have HM := Lib.hid hM
  obtain ⟨Q, hQ⟩ : ∃ Q, bl.length = Q := ⟨_, rfl⟩
  have HQ := Lib.hid hQ
  rw [hN] at HFE hlt HRB
  rw [hM] at HFC hlt2
  rw [hQ] at hbl1 hbl2 HRB
  have hteq : (s.toList == s.toList) = true := by simp
  have hq0 : ((Q : Int) == 0) = false := by rw [beq_eq_false_iff_ne]; omega
  clear hN hM hQ
  go_enter Try.func7, Try.ntmps7
  go_wp2_with fail
  refine HFA.out.mono ?_
  rintro e w1 ⟨rfl, rfl⟩
  clear HFA
  go_wp2_with fail
  refine (HGO _).out.mono ?_
  rintro e w2 ⟨rfl, hb2⟩
  have HB := Lib.hid hb2
  clear hb2 HGO
  go_wp2_with fail
  refine (HFE _ HB.out).out.mono ?_
  rintro e w3 ⟨rfl, rfl⟩
  clear HFE
  go_wp2_with fail
  refine (HBY _).out.mono ?_
  rintro e w4 ⟨v, rfl, ho, hb4⟩
  replace HB := Lib.hid (chain HB.out hb4)
  obtain ⟨av, cv, hv, hvi⟩ := in_own ho
  rw [HQ.out] at hv
  subst hv
  have HVI := Lib.hid hvi
  clear hb4 HBY ho hvi
  have hsz4 := HB.out.size
  have HOW : Hid (w4.ownsRow w.heap.size 5 1 (.slice none 0 0) ([] : List UInt8).length (bys [])) := Lib.hid (World.ownsRow_nil _ _ _ _)
  have HN1 : Hid (([] : List UInt8).length + bs.length ≤ 1000000000 ∧ w.heap.size ≤ w4.heap.size) := Lib.hid ⟨by rw [HN.out]; simp; omega, hsz4⟩
  have HBI4 := HBI _ HB.out
  go_upto_region 6 with (at_builtin; refine wpList_plain rfl (fun K hK => wp_append_in (l := []) (m := bs) HOW HBI4 HN1 _ _ rfl rfl (by rw [HN.out]; rfl) (fun v2 w5 HOw HGw HFw => hK _ _ ?_)); rw [List.nil_append] at HOw; obtain ⟨a2, c2, hv2⟩ := own_slice HOw.out; rw [HN.out] at hv2; subst hv2)
  have HB45 := Lib.hid ((Below.refl w4.heap.size w4).grown HGw.out (Nat.le_refl _) (fun k hk => by cases hk))
  replace HB := Lib.hid (chain HB.out HB45.out)
  replace HVI := Lib.hid (HVI.out.below HB45.out)
  clear HOW HGw HFw HN1 HBI4 HBI HB45 hsz4
  have hsz5 := HB.out.size
  have HN2 : Hid (bs.length + bl.length ≤ 1000000000 ∧ w.heap.size ≤ w5.heap.size) := Lib.hid ⟨by rw [HN.out, HQ.out]; omega, hsz5⟩
  go_upto_region 7 with (at_builtin; refine wpList_plain rfl (fun K hK => wp_append_in (l := bs) (m := bl) HOw HVI HN2 _ _ rfl rfl (by rw [HQ.out]; rfl) (fun v3 w6 HOx HGx HFx => hK _ _ ?_)); obtain ⟨lx, hlx⟩ : ∃ lx, bs ++ bl = lx := ⟨_, rfl⟩; rw [hlx] at HOx; have HLX := Lib.hid hlx; clear hlx; obtain ⟨a3, c3, hv3⟩ := own_slice HOx.out; subst hv3)
  have HB6 := Lib.hid (HB.out.grown HGx.out hsz5 (fun k hk => (HOw.out.lt k hk).1))
  have hsz6 := HB6.out.size
  have HFC6 := HFC _ HB6.out
  have HCI6 := HCI _ HB6.out
  have hlxl : lx.length = N + Q := by rw [← HLX.out, List.length_append, HN.out, HQ.out]
  have HN3 : Hid (lx.length + cs.length ≤ 1000000000 ∧ w.heap.size ≤ w6.heap.size) := Lib.hid ⟨by rw [hlxl, HM.out]; omega, hsz6⟩
  rw [HLX.out] at HRB
  have HLXL := Lib.hid hlxl
  clear hlxl
  clear HFC HCI HOw HGx HFx HN2 HVI HB
  go_wp2_with fail
  refine HFC6.out.mono ?_
  rintro e w7 ⟨rfl, rfl⟩
  clear HFC6
  go_upto_region 8 with (at_builtin; refine wpList_plain rfl (fun K hK => wp_append_in (l := lx) (m := cs) HOx HCI6 HN3 _ _ rfl rfl (by rw [HM.out]; rfl) (fun v4 w8 HOy HGy HFy => hK _ _ ?_)); obtain ⟨ly, hly⟩ : ∃ ly, lx ++ cs = ly := ⟨_, rfl⟩; rw [hly] at HOy; have HLY := Lib.hid hly; clear hly; obtain ⟨a4, c4, hv4, hbi4⟩ := in_own HOy.out; subst hv4; have HBI8 := Lib.hid hbi4; clear hbi4)
  have HB8 := Lib.hid (HB6.out.grown HGy.out hsz6 (fun k hk => (HOx.out.lt k hk).1))
  have hll : ly.length = N + Q + M := by rw [← HLY.out, List.length_append, HLXL.out, HM.out]
  rw [HLY.out] at HRB
  have HRE := Lib.hid (read_any a4 c4 ly N w8 HBI8.out.1 (by omega) (by omega))
  rw [HRB.out] at HRE
  have hcast : ((N + Q : Nat) : Int) = (N : Int) + (Q : Int) := by omega
  simp only [hcast] at HRE
  clear hll HLXL
  generalize ly.length = Z at *
  generalize lx.length = Y at *
  clear HOx HOy HGy HFy HBI8 HRB HN HM HQ HN3 HCI6
  go_wp2_with fail
  refine HRE.out.mono ?_
  rintro e w9 ⟨rfl, hb9⟩
  have HB9 := Lib.hid (chain HB8.out hb9)
  clear hb9 HRE HB8
  go_wp2_with fail
  refine (HLV _).out.mono ?_
  rintro e wa ⟨rfl, hba⟩
  have HBa := Lib.hid (chain HB9.out hba)
  clear hba HB9
  go_wp2_with fail
  go_ret
  exact ⟨rfl, HBa.out⟩

set_option maxRecDepth 100000 in
theorem lifted (os : Os) (started : os.Started) (H : Type) (enc : TypeId × Value → H) :
    ReturnsInHanded {} Try.checked os 7 .any (Rows.labelRoundSpec.pre6 enc Try.prog Try.f7 Rows.labelRoundRow.domain false) (Rows.labelRoundSpec.post enc Try.prog Try.f7 false true false false) := by
  refine returnsInHanded_of_change (C := Try.checked) own started (by kernel_rfl) Try.func7
    (ChangeSpec.witness6 (enc := enc) (C := Try.checked) false ⟨#[], #[.string ByteArray.empty, .slice none 0 0, .slice none 0 0], []⟩ 8 (by kernel_rfl) (by kernel_rfl) (by kernel_rfl) (by kernel_rfl)) ?_
  intro W base args ds gs before hval0 hW hcnd _
  have hval : ∀ (j : Nat) t v, Try.f7.params[j]? = some t → args[j]? = some v → Value.okWide Try.prog W .any base t v := hval0
  have hW' := hW
  obtain ⟨p, q, hA0, hV, rfl, hfz, hnd⟩ := hW
  have hA : DataW.TrodAll enc Try.prog W 0 (fun _ => true) true Try.f7.params.toList args.toList ds p := hA0
  rw [Try.params7] at hA hval
  obtain ⟨v0, vs0, d0, ds0, p0, q0, hargs, rfl, rfl, h0, r0⟩ := trodAll_cons hA
  obtain ⟨v1, vs1, d1, ds1, p1, q1, rfl, rfl, rfl, h1, r1⟩ := trodAll_cons r0
  obtain ⟨v2, vs2, d2, ds2, p2, q2, rfl, rfl, rfl, h2, r2⟩ := trodAll_cons r1
  obtain ⟨rfl, rfl, rfl⟩ := trodAll_nil r2
  obtain rfl : args = #[v0, v1, v2] := by cases args; simp_all
  obtain ⟨rfl, rfl⟩ := trodVars_none hV
  obtain ⟨a0, rfl, rfl, rfl, w0⟩ := open_string Try.underlying9 (hval 0 9 v0 rfl rfl) h0
  obtain ⟨a1, len1, cap1, rfl⟩ := okWide_slice Try.underlying24 (hval 1 24 v1 rfl rfl)
  have k1 := h1
  have lt1 : ∀ x ∈ p1, x.block < W.heap.size := by obtain ⟨m, hm⟩ := k1; exact DataW.trod_lt m _ _ _ hm
  obtain ⟨z1, w1⟩ : ∃ zs, IsRow .u8 W a1 len1 cap1 zs := by
    obtain ⟨fuel, hf⟩ := h1
    rcases open_ints Try.underlying24 Try.underlying5 (by kernel_rfl) hf with ⟨hcs, _⟩ | ⟨x, l, c, zs, hcs, _, hl, hm, hz, _, hcell, hwz⟩
    · simp [Value.cells] at hcs
      obtain ⟨rfl, rfl, rfl⟩ := hcs
      exact ⟨[], .inl ⟨rfl, rfl, rfl, rfl⟩⟩
    · simp [Value.cells] at hcs
      obtain ⟨rfl, rfl, rfl⟩ := hcs
      exact ⟨zs, .inr ⟨_, rfl, hl, hm, by simpa using hz, hcell, hwz⟩⟩
  obtain ⟨a2, len2, cap2, rfl⟩ := okWide_slice Try.underlying24 (hval 2 24 v2 rfl rfl)
  have k2 := h2
  have lt2 : ∀ x ∈ p2, x.block < W.heap.size := by obtain ⟨m, hm⟩ := k2; exact DataW.trod_lt m _ _ _ hm
  obtain ⟨z2, w2⟩ : ∃ zs, IsRow .u8 W a2 len2 cap2 zs := by
    obtain ⟨fuel, hf⟩ := h2
    rcases open_ints Try.underlying24 Try.underlying5 (by kernel_rfl) hf with ⟨hcs, _⟩ | ⟨x, l, c, zs, hcs, _, hl, hm, hz, _, hcell, hwz⟩
    · simp [Value.cells] at hcs
      obtain ⟨rfl, rfl, rfl⟩ := hcs
      exact ⟨[], .inl ⟨rfl, rfl, rfl, rfl⟩⟩
    · simp [Value.cells] at hcs
      obtain ⟨rfl, rfl, rfl⟩ := hcs
      exact ⟨zs, .inr ⟨_, rfl, hl, hm, by simpa using hz, hcell, hwz⟩⟩
  clear hA0 hval0
  refine (walk a0 a1 len1 cap1 z1 a2 len2 cap2 z2 W w0 w1 w2).mono fun e W' ⟨he, bel⟩ => ?_
  subst he
  exact ⟨_, rfl, _, _, _, [], _, [], hW', trodAll_mk1 (shut_bool Try.underlying4 _), (trodAll_cons_mk (shut_string Try.underlying9 w0) (trodAll_cons_mk (Below.trod laidOut (by kernel_rfl) (of_decide_eq_true (by kernel_rfl)) k1 bel lt1) (trodAll_cons_mk (Below.trod laidOut (by kernel_rfl) (of_decide_eq_true (by kernel_rfl)) k2 bel lt2) trodAll_mk0))), rfl, bel.frame _, fun h => by cases h⟩

theorem over : Rows.labelRoundRow.holds Try.pinned (OpenSpec.ofChange Rows.labelRoundSpec) :=
  OpenClaim.holds_of_wide 7 Try.f7 rfl rfl rfl rfl rfl rfl rfl ⟨rfl, rfl, rfl, rfl, rfl⟩ rfl rfl rfl rfl rfl (by kernel_rfl) Try.func7 (by kernel_rfl)
    (of_decide_eq_true (by kernel_rfl)) (by unfold Func.isWrapper; first | (rw [if_pos (by decide +kernel)]; kernel_rfl) | (rw [if_neg (by decide +kernel)]; exact ⟨rfl, rfl⟩))
    (fun os started H enc _ => lifted os started H enc)


theorem proved : Rows.LabelRoundSaid := over
#print axioms proved
end Go.Proofs.Ytbeoapfbddcpcaa.labelRound

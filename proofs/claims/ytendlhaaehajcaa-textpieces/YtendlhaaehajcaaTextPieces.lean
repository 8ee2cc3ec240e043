/- For every text and every byte the statement TextPieces answers true: text.Split and text.Trim answer as the reference does, the pieces with the byte between are the text, and a trimmed text stays as it is. -/
import Derived.Test.YtendlhaaehajcaaPieces
import Derived.ProofKit
import Derived.OpenShut
import Derived.ShutString
import Derived.ChangeOld
import Derived.Below
namespace Go.Proofs.Ytendlhaaehajcaa.textPieces
open Go.ChangeShapes Go.WideShapes Go.ChangeAt Go.RowKit
open Go.ChangeMaps (open_string shut_string)
set_option linter.unusedVariables false

theorem own : ownKnob Try.prog.godebug = none := by kernel_rfl

/-- 'string([]byte{c})'. -/
theorem one_byte (c : Nat) (hc : c < 256) (W : World) :
    (convert 30 9 (.slice (some ⟨W.heap.size, 0, none⟩) 1 1)).run Try.prog (W.alloc (.cells #[.int .u8 (c : Int)] 5)) = .ok (.string { data := #[UInt8.ofNat c] }) (W.alloc (.cells #[.int .u8 (c : Int)] 5)) := by
  have hb := run_convert_bytes_back (P := Try.prog) (W.alloc (.cells #[.int .u8 (c : Int)] 5)) 30 9 5 ⟨W.heap.size, 0, none⟩ 1 [UInt8.ofNat c] Try.underlying30 Try.underlying5 Try.underlying9 (by
    intro j hj
    obtain rfl : j = 0 := by simpa using hj
    rw [add_none]
    simp [World.cell?_alloc_new]
    omega)
  exact hb

set_option maxHeartbeats 1000000 in
theorem walk (a0 : ByteArray) (a1 : Int) (w0 : a0.size ≤ maxLen) (w1 : (Lit.int .u8 a1).wf = true) (w : World) :
    Calls Try.prog 4 #[.string a0, .int .u8 a1] w fun e w' => e = .returned (.bool true) ∧ Below w.heap.size w w' := by
  obtain ⟨c, hc, rfl⟩ : ∃ c : Nat, c < 256 ∧ a1 = (c : Int) := by
    have := bounds_u8 w1
    exact ⟨a1.toNat, by omega, by omega⟩
  have hone := one_byte c hc
  go_enter Try.func4, Try.ntmps4
  go_wp2_with fail
  refine (few_any a0 100 _ w0 (by decide)).mono ?_
  rintro e w' ⟨rfl, rfl⟩
  have ha := few_size a0 100
  generalize few a0 100 = s at *
  have HJ := Lib.hid (pieces_join s c hc)
  have hp0 : 0 < (pieces s c).length := by unfold pieces; simp
  have hpl : (pieces s c).length ≤ 101 := by
    have := (sp_le s c s.size).2
    unfold pieces
    simp
    omega
  obtain ⟨xs, hxs⟩ : ∃ xs, pieces s c = xs := ⟨_, rfl⟩
  rw [hxs] at HJ hp0 hpl
  have HX := Lib.hid hxs
  clear hxs
  have HT := Lib.hid (trim_trim s)
  have htz : (trimB s).size ≤ 100 := by unfold trimB; simp; omega
  have heq1 : (s.toList == s.toList) = true := by simp
  have heq2 : ((trimB s).toList == (trimB s).toList) = true := by simp
  go_wp2_with fail
  refine (split_any s c _ (by omega)).mono ?_
  rintro e w1 ⟨v, rfl, hown, hb1⟩
  rw [HX.out] at hown
  obtain ⟨g, cap, rfl, hg1, hg2⟩ := hown.form hp0
  have HC := Lib.hid (own_cells hown)
  clear hown
  go_wp2_with fail
  refine (trim_any s _ (by omega)).mono ?_
  rintro e w' ⟨rfl, rfl⟩
  go_wp2_with fail
  refine (refSplit_any s c _ (by omega)).mono ?_
  rintro e w2 ⟨v2, rfl, hown2, hb2⟩
  rw [HX.out] at hown2
  obtain ⟨g2, cap2, rfl, hg3, hg4⟩ := hown2.form hp0
  have HC2 := Lib.hid (own_cells hown2)
  clear hown2
  go_wp2_with fail
  refine (same_true g g2 xs.length cap cap2 xs _ rfl (by omega) ?_ ?_).mono ?_
  · intro i hi
    exact (hb2.cell (p := ⟨g, i, none⟩) hg2).trans (HC.out i hi)
  · exact HC2.out
  rintro e w3 ⟨rfl, q3, rfl⟩
  have hone2 : (convert 30 9 (.slice (some ⟨w2.heap.size, 0, none⟩) 1 1)).run Try.prog ((w2.drewN q3).alloc (.cells #[.int .u8 (c : Int)] 5)) = .ok (.string { data := #[UInt8.ofNat c] }) ((w2.drewN q3).alloc (.cells #[.int .u8 (c : Int)] 5)) := hone (w2.drewN q3)
  clear hone
  go_wp2_with fail
  refine (join_any g xs.length cap xs { data := #[UInt8.ofNat c] } _ rfl (by omega) (by show 1 ≤ 1000; decide) ?_ ?_).mono ?_
  · have : joinTo xs { data := #[UInt8.ofNat c] } xs.length = s := HJ.out
    rw [this]
    omega
  · intro i hi
    have hz : g < (w2.drewN q3).heap.size := Nat.lt_of_lt_of_le hg2 hb2.size
    rw [World.cell?_alloc_lt _ _ _ (by exact hz)]
    exact (hb2.cell (p := ⟨g, i, none⟩) hg2).trans (HC.out i hi)
  rintro e w4 ⟨rfl, rfl⟩
  have HJ2 : Hid (joinTo xs { data := #[UInt8.ofNat c] } xs.length = s) := HJ.out
  rw [HJ2.out]
  go_wp2_with fail
  refine (refTrim_any s _ (by omega)).mono ?_
  rintro e w5 ⟨rfl, rfl⟩
  go_wp2_with fail
  refine (trim_any (trimB s) _ (by omega)).mono ?_
  rintro e w6 ⟨rfl, rfl⟩
  rw [HT.out]
  go_wp2_with fail
  refine (lives_any _).mono ?_
  rintro e w7 ⟨rfl, hb7⟩
  go_wp2
  go_ret
  refine ⟨rfl, ?_⟩
  have b2 := chain hb1 hb2
  have b3 := (belowN b2 q3).alloc (by exact b2.size) (.cells #[.int .u8 (c : Int)] 5)
  exact b3.trans (Below.mono hb7 b3.size)

set_option maxRecDepth 100000 in
theorem lifted (os : Os) (started : os.Started) (H : Type) (enc : TypeId × Value → H) :
    ReturnsInHanded {} Try.checked os 4 .any (Rows.textPiecesSpec.pre6 enc Try.prog Try.f4 Rows.textPiecesRow.domain false) (Rows.textPiecesSpec.post enc Try.prog Try.f4 false true false false) := by
  refine returnsInHanded_of_change (C := Try.checked) own started (by kernel_rfl) Try.func4
    (ChangeSpec.witness6 (enc := enc) (C := Try.checked) false ⟨#[], #[.string ByteArray.empty, .int .u8 0], []⟩ 8 (by kernel_rfl) (by kernel_rfl) (by kernel_rfl) (by kernel_rfl)) ?_
  intro W base args ds gs before hval0 hW hcnd _
  have hval : ∀ (j : Nat) t v, Try.f4.params[j]? = some t → args[j]? = some v → Value.okWide Try.prog W .any base t v := hval0
  have hW' := hW
  obtain ⟨p, q, hA0, hV, rfl, hfz, hnd⟩ := hW
  have hA : DataW.TrodAll enc Try.prog W 0 (fun _ => true) true Try.f4.params.toList args.toList ds p := hA0
  rw [Try.params4] at hA hval
  obtain ⟨v0, vs0, d0, ds0, p0, q0, hargs, rfl, rfl, h0, r0⟩ := trodAll_cons hA
  obtain ⟨v1, vs1, d1, ds1, p1, q1, rfl, rfl, rfl, h1, r1⟩ := trodAll_cons r0
  obtain ⟨rfl, rfl, rfl⟩ := trodAll_nil r1
  obtain rfl : args = #[v0, v1] := by cases args; simp_all
  obtain ⟨rfl, rfl⟩ := trodVars_none hV
  obtain ⟨a0, rfl, rfl, rfl, w0⟩ := open_string Try.underlying9 (hval 0 9 v0 rfl rfl) h0
  obtain ⟨a1, rfl, rfl, rfl, w1⟩ := open_int Try.underlying5 (hval 1 5 v1 rfl rfl) h1
  clear hA0 hval0
  refine (walk a0 a1 w0 w1 W).mono fun e W' ⟨he, bel⟩ => ?_
  subst he
  exact ⟨_, rfl, _, _, _, [], _, [], hW', trodAll_mk1 (shut_bool Try.underlying4 _), (trodAll_cons_mk (shut_string Try.underlying9 w0) (trodAll_cons_mk (shut_int Try.underlying5 w1) trodAll_mk0)), rfl, bel.frame _, fun h => by cases h⟩

theorem over : Rows.textPiecesRow.holds Try.pinned (OpenSpec.ofChange Rows.textPiecesSpec) :=
  OpenClaim.holds_of_wide 4 Try.f4 rfl rfl rfl rfl rfl rfl rfl ⟨rfl, rfl, rfl, rfl, rfl⟩ rfl rfl rfl rfl rfl (by kernel_rfl) Try.func4 (by kernel_rfl)
    (of_decide_eq_true (by kernel_rfl)) (by unfold Func.isWrapper; first | (rw [if_pos (by decide +kernel)]; kernel_rfl) | (rw [if_neg (by decide +kernel)]; exact ⟨rfl, rfl⟩))
    (fun os started H enc _ => lifted os started H enc)

theorem proved : Rows.TextPiecesSaid := over
#print axioms proved
end Go.Proofs.Ytendlhaaehajcaa.textPieces

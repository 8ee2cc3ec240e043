/- For every two texts the statement TextSigns answers true: a text has no more signs than bytes, as many if all bytes are below 128, and none just if it is empty. -/
import Derived.Test.YtendlhaaehajcaaRunes
import Derived.ProofKit
import Derived.OpenShut
import Derived.ShutString
import Derived.ChangeOld
import Derived.Below
namespace Go.Proofs.Ytendlhaaehajcaa.textSigns
open Go.ChangeShapes Go.WideShapes Go.ChangeAt Go.RowKit
open Go.ChangeMaps (open_string shut_string)
set_option linter.unusedVariables false

theorem own : ownKnob Try.prog.godebug = none := by kernel_rfl

/-- Are the first k bytes all below 128? -/
def lowTo (s : ByteArray) (k : Nat) : Bool := (s.data.toList.take k).all fun c => decide (c.toNat < 128)
theorem lowTo_succ (s : ByteArray) (k : Nat) (h : k < s.size) : lowTo s (k + 1) = (lowTo s k && decide ((s[k]).toNat < 128)) := by
  unfold lowTo
  rw [List.take_succ_eq_append_getElem (by simpa using h), List.all_append]
  simp
  rfl
theorem lowTo_get (s : ByteArray) (h : lowTo s s.size = true) : ∀ (j : Nat) (hj : j < s.size), (s[j]'hj).toNat < 128 := by
  intro j hj
  unfold lowTo at h
  rw [List.take_of_length_le (by simp), List.all_eq_true] at h
  have := h (s[j]'hj) (by
    have e : s[j]'hj = s.data.toList[j]'(by simpa using hj) := rfl
    rw [e]
    exact List.getElem_mem _)
  simpa using this

set_option maxHeartbeats 1000000 in
theorem walk (a0 : ByteArray) (a1 : ByteArray) (w0 : a0.size ≤ maxLen) (w1 : a1.size ≤ maxLen) (w : World) :
    Calls Try.prog 6 #[.string a0, .string a1] w fun e w' => e = .returned (.bool true) ∧ Below w.heap.size w w' := by
  go_enter Try.func6, Try.ntmps6
  go_wp2_with fail
  refine (few_any a0 60 _ w0 (by decide)).mono ?_
  rintro e w' ⟨rfl, rfl⟩
  have ha := few_size a0 60
  generalize few a0 60 = a at *
  go_wp2_with fail
  refine (few_any a1 60 _ w1 (by decide)).mono ?_
  rintro e w' ⟨rfl, rfl⟩
  have hb := few_size a1 60
  generalize few a1 60 = b at *
  go_wp2_with fail
  refine (signs_any a _ (by omega)).mono ?_
  rintro e wa ⟨rfl, hba⟩
  go_wp2_with fail
  go_loop [6, 7] (fun lo i => ∃ k : Nat, k ≤ a.size ∧ i = .int .i64 k ∧ lo = .bool (lowTo a k)) (fun _ i => a.size - (intOf i).toNat)
  case atStart => exact ⟨0, Nat.zero_le _, rfl, rfl⟩
  case round =>
    obtain ⟨k, hk, rfl, rfl⟩ := hrel
    by_cases hlt : k < a.size
    · have HS := Lib.hid (lowTo_succ a k hlt)
      cases hl : lowTo a k with
      | true =>
        have HL := Lib.hid hl
        clear hl
        by_cases h8 : (a[k]).toNat < 128
        all_goals
          go_wp2
          go_roundw
          case rel => exact ⟨k + 1, by omega, by go_num, by rw [HS.out, HL.out]; simp [h8]; try omega⟩
          case measure => simp [intOf]; omega
      | false =>
        have HL := Lib.hid hl
        clear hl
        go_wp2
        go_roundw
        case rel => exact ⟨k + 1, by omega, by go_num, by rw [HS.out, HL.out]; simp⟩
        case measure => simp [intOf]; omega
    · have hks : k = a.size := by omega
      subst hks
      have hra := Lib.runeCount_le a
      have hrb := Lib.runeCount_le b
      have hempty : (((Lib.runeCount a : Nat) : Int) == 0) = a.toList.isEmpty := by
        by_cases h0 : a.size = 0
        · rw [isEmpty_true a h0]; simp; omega
        · rw [isEmpty_false a (by omega)]
          have := count_pos a (by omega)
          simp; omega
      cases hl : lowTo a a.size with
      | true =>
        have hn := Lib.runeCount_ascii a (lowTo_get a hl)
        have hab := Lib.hid (count_append a b (lowTo_get a hl))
        clear hl
        have hz : ((a.size : Int) == 0) = a.toList.isEmpty := by rw [← hempty, hn]
        have ht : (((Lib.runeCount (a ++ b) : Nat) : Int) == (a.size : Int) + (Lib.runeCount b : Nat)) = true := by rw [hab.out]; simp
        clear hempty
        go_wp2_with fail
        refine (signs_any (a ++ b) _ (by simp; omega)).mono ?_
        rintro e w2 ⟨rfl, hb2⟩
        go_wp2_with fail
        refine (signs_any b _ (by omega)).mono ?_
        rintro e w3 ⟨rfl, hb3⟩
        go_wp2_with fail
        refine (lives_any _).mono ?_
        rintro e w4 ⟨rfl, hb4⟩
        go_wp2
        go_ret
        exact ⟨rfl, ((hba.trans (hb2.mono hba.size)).trans (hb3.mono (Nat.le_trans hba.size hb2.size))).trans (hb4.mono (Nat.le_trans hba.size (Nat.le_trans hb2.size hb3.size)))⟩
      | false =>
        clear hl
        go_wp2_with fail
        refine (lives_any _).mono ?_
        rintro e w4 ⟨rfl, hb4⟩
        go_wp2
        go_ret
        exact ⟨rfl, hba.trans (hb4.mono hba.size)⟩

set_option maxRecDepth 100000 in
theorem lifted (os : Os) (started : os.Started) (H : Type) (enc : TypeId × Value → H) :
    ReturnsInHanded {} Try.checked os 6 .any (Rows.textSignsSpec.pre6 enc Try.prog Try.f6 Rows.textSignsRow.domain false) (Rows.textSignsSpec.post enc Try.prog Try.f6 false true false false) := by
  refine returnsInHanded_of_change (C := Try.checked) own started (by kernel_rfl) Try.func6
    (ChangeSpec.witness6 (enc := enc) (C := Try.checked) false ⟨#[], #[.string ByteArray.empty, .string ByteArray.empty], []⟩ 8 (by kernel_rfl) (by kernel_rfl) (by kernel_rfl) (by kernel_rfl)) ?_
  intro W base args ds gs before hval0 hW hcnd _
  have hval : ∀ (j : Nat) t v, Try.f6.params[j]? = some t → args[j]? = some v → Value.okWide Try.prog W .any base t v := hval0
  have hW' := hW
  obtain ⟨p, q, hA0, hV, rfl, hfz, hnd⟩ := hW
  have hA : DataW.TrodAll enc Try.prog W 0 (fun _ => true) true Try.f6.params.toList args.toList ds p := hA0
  rw [Try.params6] at hA hval
  obtain ⟨v0, vs0, d0, ds0, p0, q0, hargs, rfl, rfl, h0, r0⟩ := trodAll_cons hA
  obtain ⟨v1, vs1, d1, ds1, p1, q1, rfl, rfl, rfl, h1, r1⟩ := trodAll_cons r0
  obtain ⟨rfl, rfl, rfl⟩ := trodAll_nil r1
  obtain rfl : args = #[v0, v1] := by cases args; simp_all
  obtain ⟨rfl, rfl⟩ := trodVars_none hV
  obtain ⟨a0, rfl, rfl, rfl, w0⟩ := open_string Try.underlying9 (hval 0 9 v0 rfl rfl) h0
  obtain ⟨a1, rfl, rfl, rfl, w1⟩ := open_string Try.underlying9 (hval 1 9 v1 rfl rfl) h1
  clear hA0 hval0
  refine (walk a0 a1 w0 w1 W).mono fun e W' ⟨he, bel⟩ => ?_
  subst he
  exact ⟨_, rfl, _, _, _, [], _, [], hW', trodAll_mk1 (shut_bool Try.underlying4 _), (trodAll_cons_mk (shut_string Try.underlying9 w0) (trodAll_cons_mk (shut_string Try.underlying9 w1) trodAll_mk0)), rfl, bel.frame _, fun h => by cases h⟩

theorem over : Rows.textSignsRow.holds Try.pinned (OpenSpec.ofChange Rows.textSignsSpec) :=
  OpenClaim.holds_of_wide 6 Try.f6 rfl rfl rfl rfl rfl rfl rfl ⟨rfl, rfl, rfl, rfl, rfl⟩ rfl rfl rfl rfl rfl (by kernel_rfl) Try.func6 (by kernel_rfl)
    (of_decide_eq_true (by kernel_rfl)) (by unfold Func.isWrapper; first | (rw [if_pos (by decide +kernel)]; kernel_rfl) | (rw [if_neg (by decide +kernel)]; exact ⟨rfl, rfl⟩))
    (fun os started H enc _ => lifted os started H enc)

theorem proved : Rows.TextSignsSaid := over
#print axioms proved
end Go.Proofs.Ytendlhaaehajcaa.textSigns

/- The contract of the reference's Strict. -/
import Derived.Test.YtkdinhgflkfbkaaDoorStrict
import Derived.Test.YtkdinhgflkfbkaaDoorRefSplit
import Derived.Test.YtkdinhgflkfbkaaDoorRefNums
namespace Go.Proofs.YtkdinhgflkfbkaaDoor
open Go.RowKit
set_option linter.unusedVariables false

theorem strict_some {s : ByteArray} {a : Nat} {v : Int} (h : strictB s = some a) (hv : v = a) : Ending.returned (.tuple #[.int .u32 v, .bool true]) = .returned (strictRet (strictB s)) := by
  rw [h, hv]; rfl

set_option maxRecDepth 100000 in
set_option maxHeartbeats 4000000 in
theorem refStrict_any (s : ByteArray) (w : World) (hs : s.size ≤ 1000000) :
    Calls Tryd.prog 42 #[.string s] w fun e w' => e = .returned (strictRet (strictB s)) ∧ Below w.heap.size w w' := by
  have hp := pieces_pos s 46
  have hpl := pieces_len s 46
  go_enter Tryd.func42, Tryd.ntmps42
  go_wp2_with fail
  refine (refSplit_row s 46 _ hs).mono ?_
  rintro e w1 ⟨g, c, rfl, hg, hr, hb⟩
  have hc1 := hr.cap
  have hc2 := hr.capm
  unfold maxLen at hc2
  have hlt := hr.lt
  have HR := Lib.hid hr
  clear hr
  by_cases h4 : (pieces s 46).length = 4
  · have HS : Hid (strictB s = octTo (pieces s 46) 4) := Lib.hid (by unfold strictB; rw [if_pos h4])
    have HM := Lib.hid (fun k => Nat.le_trans (getD_small (pieces_small s 46) k) hs)
    generalize pieces s 46 = l at *
    rw [h4]
    rw [h4] at HR
    clear h4 hp hpl
    go_wp2_with fail
    go_loop [5, 6] (fun o i => ∃ k m : Nat, k ≤ 4 ∧ i = .int .i64 k ∧ o = .int .u32 (m : Int) ∧ Hid (octTo l k = some m)) (fun _ i => 4 - (intOf i).toNat)
    case atStart => exact ⟨0, 0, by decide, rfl, rfl, Lib.hid rfl⟩
    case round =>
      obtain ⟨k, m, hk, rfl, rfl, HK⟩ := hrel
      by_cases hk4 : k < 4
      · have hm : m < 16777216 := Nat.lt_of_lt_of_le (octTo_lt l k m HK.out) (Nat.le_trans (Nat.pow_le_pow_right (by decide) (by omega : k ≤ 3)) (by decide))
        have hcell := HR.out.cells k hk4
        have hsm := HM.out k
        obtain ⟨p, hp⟩ : ∃ p, l.getD k ⟨#[]⟩ = p := ⟨_, rfl⟩
        rw [hp] at hcell hsm
        have HP := Lib.hid hp
        clear hp
        go_wp2_with fail
        refine (refNumber_10 p _ hsm).mono ?_
        rintro e w2 ⟨rfl, rfl⟩
        cases hq : numB p 10 with
        | none =>
          have HD : Hid (strictB s = none) := Lib.hid (by rw [HS.out]; exact octTo_dead (k := k + 1) hk4 (octTo_stop HK.out (by rw [HP.out]; unfold octet; rw [hq])))
          clear hq
          unfold numRet
          go_wp2_with fail
          go_ret2
          exact ⟨strict_ret HD.out.symm, hb⟩
        | some n =>
          have HQ := Lib.hid hq
          have hn : n ≤ 1099511627776 := by
            unfold numB at hq
            split at hq
            · cases hq
            · exact numTo_le _ _ _ _ hq
          clear hq
          unfold numRet
          by_cases h255 : 255 < n
          · have HD : Hid (strictB s = none) := Lib.hid (by rw [HS.out]; exact octTo_dead (k := k + 1) hk4 (octTo_stop HK.out (by rw [HP.out]; unfold octet; rw [HQ.out]; simp only [if_pos h255])))
            go_wp2_with fail
            go_ret2
            exact ⟨strict_ret HD.out.symm, hb⟩
          · have hw8 : IntKind.u32.wrap (n : Int) = (n : Int) := by rw [IntKind.wrap_u32]; omega
            have hw9 : IntKind.u32.wrap ((m : Int) * 256) = (m : Int) * 256 := by rw [IntKind.wrap_u32]; omega
            have hw10 : IntKind.u32.wrap ((m : Int) * 256 + (n : Int)) = (m : Int) * 256 + (n : Int) := by rw [IntKind.wrap_u32]; omega
            by_cases h1 : 1 < p.size
            · by_cases hz : byteOf p 0 = 48
              · have HD : Hid (strictB s = none) := Lib.hid (by rw [HS.out]; exact octTo_dead (k := k + 1) hk4 (octTo_stop HK.out (by rw [HP.out]; unfold octet; rw [HQ.out]; simp only [if_neg h255, if_pos (show 1 < p.size ∧ byteOf p 0 = 48 from ⟨h1, hz⟩)])))
                rw [byteOf_eq p 0 (by omega)] at hz
                go_wp2_with fail
                go_ret2
                exact ⟨strict_ret HD.out.symm, hb⟩
              · have HT : Hid (octTo l (k + 1) = some (m * 256 + n)) := Lib.hid (octTo_step HK.out (by rw [HP.out]; unfold octet; rw [HQ.out]; simp only [if_neg h255, if_neg (show ¬ (1 < p.size ∧ byteOf p 0 = 48) from fun h => hz h.2)]))
                rw [byteOf_eq p 0 (by omega)] at hz
                have hzb : (((p[0]).toNat : Int) == 48) = false := by simp; omega
                go_wp2_with fail
                go_round
                case rel => exact ⟨k + 1, m * 256 + n, by omega, by go_num, by go_num, HT⟩
                case measure => simp [intOf]; omega
            · have HT : Hid (octTo l (k + 1) = some (m * 256 + n)) := Lib.hid (octTo_step HK.out (by rw [HP.out]; unfold octet; rw [HQ.out]; simp only [if_neg h255, if_neg (show ¬ (1 < p.size ∧ byteOf p 0 = 48) from fun h => h1 h.1)]))
              go_wp2_with fail
              go_round
              case rel => exact ⟨k + 1, m * 256 + n, by omega, by go_num, by go_num, HT⟩
              case measure => simp [intOf]; omega
      · obtain rfl : k = 4 := by omega
        have HT : Hid (strictB s = some m) := Lib.hid (by rw [HS.out]; exact HK.out)
        go_wp2_with fail
        go_ret2
        exact ⟨strict_some HT.out rfl, hb⟩
  · have HS : Hid (strictB s = none) := Lib.hid (by unfold strictB; rw [if_neg h4])
    generalize pieces s 46 = l at *
    have hlb : ((l.length : Int) != 4) = true := by simp; omega
    go_wp2_with fail
    go_ret2
    exact ⟨strict_ret HS.out.symm, hb⟩
end Go.Proofs.YtkdinhgflkfbkaaDoor

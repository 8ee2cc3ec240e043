/- Contracts of four.looseParts, join, Loose: the address of a loose text. -/
import Derived.Test.YtebcgfgfcjgdiaaDoorParts
import Derived.Test.YtebcgfgfcjgdiaaDoorStrRows
namespace Go.Proofs.YtebcgfgfcjgdiaaDoor
open Go.RowKit
set_option linter.unusedVariables false

/-- The parts of a loose text. -/
def lparts (s : ByteArray) : List ByteArray :=
  if 1 < (pieces s 46).length ∧ ((pieces s 46).getD ((pieces s 46).length - 1) ⟨#[]⟩).size = 0 then (pieces s 46).take ((pieces s 46).length - 1) else pieces s 46
theorem lparts_pos (s : ByteArray) : 0 < (lparts s).length := by
  unfold lparts
  split
  · simp; omega
  · exact pieces_pos s 46
theorem lparts_small (s : ByteArray) : ∀ p ∈ lparts s, p.size ≤ s.size := by
  unfold lparts
  split
  · intro p hp; exact pieces_small s 46 p (List.mem_of_mem_take hp)
  · exact pieces_small s 46
theorem lparts_len (s : ByteArray) : (lparts s).length ≤ s.size + 1 := by
  have := pieces_len s 46
  unfold lparts
  split
  · simp; omega
  · exact this

set_option maxHeartbeats 1000000 in
theorem looseParts_any (s : ByteArray) (w : World) (hs : s.size ≤ 1000000) :
    Calls Tryd.prog 16 #[.string s] w fun e w' => ∃ g c, e = .returned (.slice (some ⟨g, 0, none⟩) (lparts s).length c) ∧ w.heap.size ≤ g ∧ StrRow w' g (lparts s).length c (lparts s) ∧ Below w.heap.size w w' := by
  have hp := pieces_pos s 46
  have hpl := pieces_len s 46
  go_enter Tryd.func16, Tryd.ntmps16
  go_wp2_with fail
  refine (split_row s 46 _ hs).mono ?_
  rintro e w1 ⟨g, c, rfl, hg, hr, hb⟩
  have hc1 := hr.cap
  have hc2 := hr.capm
  unfold maxLen at hc2
  have HR := Lib.hid hr
  have hcell := hr.cells ((pieces s 46).length - 1) (by omega)
  clear hr
  by_cases h1 : 1 < (pieces s 46).length
  · by_cases h2 : ((pieces s 46).getD ((pieces s 46).length - 1) ⟨#[]⟩).size = 0
    · have HE : Hid (lparts s = (pieces s 46).take ((pieces s 46).length - 1)) := Lib.hid (by unfold lparts; rw [if_pos ⟨h1, h2⟩])
      have he := isEmpty_true _ h2
      generalize hL : pieces s 46 = L at *
      generalize L.getD (L.length - 1) ⟨#[]⟩ = x at *
      clear h2
      go_wp2_with fail
      go_ret
      have hr := HR.out
      exact ⟨g, c, by rw [HE.out, List.length_take, Nat.min_eq_left (by omega)]; rfl, hg, by rw [HE.out]; have := hr.front (L.length - 1) (by omega); simpa using this, hb⟩
    · have HE : Hid (lparts s = pieces s 46) := Lib.hid (by unfold lparts; rw [if_neg (by intro h; exact h2 h.2)])
      have he := isEmpty_false _ (Nat.pos_of_ne_zero h2)
      generalize hL : pieces s 46 = L at *
      generalize L.getD (L.length - 1) ⟨#[]⟩ = x at *
      clear h2
      go_wp2_with fail
      go_ret
      exact ⟨g, c, by rw [HE.out]; rfl, hg, by rw [HE.out]; exact HR.out, hb⟩
  · have HE : Hid (lparts s = pieces s 46) := Lib.hid (by unfold lparts; rw [if_neg (by intro h; exact h1 h.1)])
    generalize hL : pieces s 46 = L at *
    go_wp2_with fail
    go_ret
    exact ⟨g, c, by rw [HE.out]; rfl, hg, by rw [HE.out]; exact HR.out, hb⟩

/-- The number of the first k parts, each one byte. -/
def outTo (l : List ByteArray) : Nat → Option Nat
  | 0 => some 0
  | k + 1 => match outTo l k with
    | none => none
    | some m => match partB (l.getD k ⟨#[]⟩) with
      | none => none
      | some n => if 255 < n then none else some (m * 256 + n)
theorem outTo_lt (l : List ByteArray) : ∀ k m, outTo l k = some m → m < 256 ^ k
  | 0, m, h => by simp [outTo] at h; omega
  | k + 1, m, h => by
    rw [outTo] at h
    cases hk : outTo l k with
    | none => rw [hk] at h; cases h
    | some j =>
      have := outTo_lt l k j hk
      rw [hk] at h
      simp only at h
      split at h
      · cases h
      · split at h
        · cases h
        · have := Option.some.inj h
          rw [Nat.pow_succ]
          omega
theorem outTo_none (l : List ByteArray) (k : Nat) (h : outTo l k = none) : ∀ m, outTo l (k + m) = none
  | 0 => h
  | m + 1 => by rw [← Nat.add_assoc, outTo, outTo_none l k h m]
theorem outTo_dead {l : List ByteArray} {k n : Nat} (hk : k ≤ n) (h : outTo l k = none) : outTo l n = none := by
  have := outTo_none l k h (n - k)
  rwa [show k + (n - k) = n by omega] at this
/-- How many numbers a last part may have, behind k others. -/
def roomB (k : Nat) : Nat := 256 ^ (4 - k)
/-- The parts' address. -/
def joinP (l : List ByteArray) : Option Nat :=
  if 4 < l.length then none else
  match outTo l (l.length - 1) with
  | none => none
  | some m => match partB (l.getD (l.length - 1) ⟨#[]⟩) with
    | none => none
    | some n => if roomB (l.length - 1) ≤ n then none else some (m * roomB (l.length - 1) + n)
theorem room_lt (k m n : Nat) (hk : k ≤ 3) (hm : m < 256 ^ k) (hn : n < roomB k) : m * roomB k + n < 4294967296 := by
  unfold roomB at *
  have hp : k = 0 ∨ k = 1 ∨ k = 2 ∨ k = 3 := by omega
  rcases hp with rfl | rfl | rfl | rfl
  all_goals
    simp at *
    omega
theorem joinP_lt (l : List ByteArray) (a : Nat) (h : joinP l = some a) : a < 4294967296 := by
  unfold joinP at h
  split at h
  · cases h
  · split at h
    · cases h
    · rename_i hl _ m hm
      have hm := outTo_lt l _ m hm
      split at h
      · cases h
      · split at h
        · cases h
        · rename_i n _ hn
          have h := Option.some.inj h
          rw [← h]
          exact room_lt _ _ _ (by omega) hm (by omega)
theorem joinP_dead {l : List ByteArray} {k : Nat} (hk : k ≤ l.length - 1) (h : outTo l k = none) : joinP l = none := by
  unfold joinP
  split
  · rfl
  · rw [outTo_dead hk h]
def joinRet (o : Option Nat) : Value := .tuple #[.int .u32 ((o.getD 0 : Nat) : Int), .bool o.isSome]
theorem join_ret {o p : Option Nat} (h : o = p) : Ending.returned (joinRet o) = .returned (joinRet p) := by rw [h]

theorem join_some {l : List ByteArray} {a : Nat} {v : Int} (h : joinP l = some a) (hv : v = a) : Ending.returned (.tuple #[.int .u32 v, .bool true]) = .returned (joinRet (joinP l)) := by
  rw [h, hv]; rfl

set_option maxRecDepth 100000 in
set_option maxHeartbeats 4000000 in
theorem join_parts (l : List ByteArray) (g c n : Nat) (w : World) (hn : l.length = n) (h0 : 0 < n) (hle : n ≤ 1000001) (hr : StrRow w g n c l) (hsm : ∀ p ∈ l, p.size ≤ 1000000) :
    Calls Tryd.prog 18 #[.slice (some ⟨g, 0, none⟩) n c] w fun e w' => e = .returned (joinRet (joinP l)) ∧ Below w.heap.size w w' := by
  have hc1 := hr.cap
  have hc2 := hr.capm
  unfold maxLen at hc2
  have HR := Lib.hid hr
  have HN := Lib.hid hn
  have HM := Lib.hid hsm
  clear hr hn hsm
  by_cases h4 : 4 < n
  · have HJ : Hid (joinP l = none) := Lib.hid (by unfold joinP; rw [if_pos (by rw [HN.out]; exact h4)])
    go_enter Tryd.func18, Tryd.ntmps18
    go_wp2_with fail
    go_ret2
    exact ⟨join_ret HJ.out.symm, Below.refl _ _⟩
  · go_enter Tryd.func18, Tryd.ntmps18
    go_wp2_with fail
    go_loopw [5, 6, 23] (fun wh rm i wr => ∃ (k m W : Nat) (R : Int), k ≤ n - 1 ∧ i = .int .i64 k ∧ wh = .int .i64 (W : Int) ∧ rm = .int .i64 R ∧ ((k = 0 ∧ R = 4294967296) ∨ (k = 1 ∧ R = 16777216) ∨ (k = 2 ∧ R = 65536) ∨ (k = 3 ∧ R = 256)) ∧ Hid ((W : Int) = m * R) ∧ Hid (outTo l k = some m) ∧ Below w.heap.size w wr) (fun _ _ i _ => n - 1 - (intOf i).toNat)
    case atStart => exact ⟨0, 0, 0, 4294967296, Nat.zero_le _, rfl, rfl, rfl, .inl ⟨rfl, rfl⟩, Lib.hid (by omega), Lib.hid rfl, Below.refl _ _⟩
    case round =>
      obtain ⟨k, m, W, R, hk, rfl, rfl, rfl, hkr, HW, HK, hb⟩ := hrel
      have hm := outTo_lt l k m HK.out
      have hsm := getD_small HM.out k
      by_cases hlt : k < n - 1
      · have hkr2 : (k = 0 ∧ R = 4294967296) ∨ (k = 1 ∧ R = 16777216) ∨ (k = 2 ∧ R = 65536) := by
          rcases hkr with h | h | h | h
          · exact .inl h
          · exact .inr (.inl h)
          · exact .inr (.inr h)
          · exfalso; omega
        clear hkr
        rcases hkr2 with ⟨hk0, rfl⟩ | ⟨hk0, rfl⟩ | ⟨hk0, rfl⟩
        · rw [hk0] at hm
          simp only [Nat.reducePow] at hm
          have hw := HW.out
          have hwb : W ≤ 4294967296 := by omega
          have HM2 := Lib.hid hm
          have HK0 := Lib.hid hk0
          have hcell := (HR.out.below hb).cells k (by omega)
          have hb0 : (0 : Int) ≤ (k : Int) := by omega
          have hb1 : (k : Int) < (n : Int) - 1 := by omega
          clear hm hk0 hw
          go_wp2_with fail
          refine (part_any _ _ hsm).mono ?_
          rintro e w1 ⟨rfl, hb2⟩
          cases hp : partB (l.getD k ⟨#[]⟩) with
          | none =>
            have HD := Lib.hid (joinP_dead (l := l) (k := k + 1) (by rw [HN.out]; omega) (by rw [outTo, HK.out]; simp only [hp]))
            unfold numRet
            clear hp
            go_wp2_with fail
            go_ret2
            exact ⟨join_ret HD.out.symm, chain hb hb2⟩
          | some x =>
            have hx := partB_le _ _ hp
            by_cases h255 : 255 < x
            · have HD := Lib.hid (joinP_dead (l := l) (k := k + 1) (by rw [HN.out]; omega) (by rw [outTo, HK.out]; simp only [hp, if_pos h255]))
              unfold numRet
              clear hp
              go_wp2_with fail
              go_ret2
              exact ⟨join_ret HD.out.symm, chain hb hb2⟩
            · have HS : Hid (outTo l (k + 1) = some (m * 256 + x)) := Lib.hid (by rw [outTo, HK.out]; simp only [hp, if_neg h255])
              unfold numRet
              clear hp
              go_wp2_with fail
              go_roundw
              case rel =>
                have e0 := HK0.out
                have e1 := HW.out
                exact ⟨k + 1, m * 256 + x, W + x * 16777216, 16777216, by omega, by go_num, by go_num, rfl, by omega, Lib.hid (by omega), HS, chain hb hb2⟩
              case measure => simp [intOf]; omega
        · rw [hk0] at hm
          simp only [Nat.reducePow] at hm
          have hw := HW.out
          have hwb : W ≤ 4294967296 := by omega
          have HM2 := Lib.hid hm
          have HK0 := Lib.hid hk0
          have hcell := (HR.out.below hb).cells k (by omega)
          have hb0 : (0 : Int) ≤ (k : Int) := by omega
          have hb1 : (k : Int) < (n : Int) - 1 := by omega
          clear hm hk0 hw
          go_wp2_with fail
          refine (part_any _ _ hsm).mono ?_
          rintro e w1 ⟨rfl, hb2⟩
          cases hp : partB (l.getD k ⟨#[]⟩) with
          | none =>
            have HD := Lib.hid (joinP_dead (l := l) (k := k + 1) (by rw [HN.out]; omega) (by rw [outTo, HK.out]; simp only [hp]))
            unfold numRet
            clear hp
            go_wp2_with fail
            go_ret2
            exact ⟨join_ret HD.out.symm, chain hb hb2⟩
          | some x =>
            have hx := partB_le _ _ hp
            by_cases h255 : 255 < x
            · have HD := Lib.hid (joinP_dead (l := l) (k := k + 1) (by rw [HN.out]; omega) (by rw [outTo, HK.out]; simp only [hp, if_pos h255]))
              unfold numRet
              clear hp
              go_wp2_with fail
              go_ret2
              exact ⟨join_ret HD.out.symm, chain hb hb2⟩
            · have HS : Hid (outTo l (k + 1) = some (m * 256 + x)) := Lib.hid (by rw [outTo, HK.out]; simp only [hp, if_neg h255])
              unfold numRet
              clear hp
              go_wp2_with fail
              go_roundw
              case rel =>
                have e0 := HK0.out
                have e1 := HW.out
                exact ⟨k + 1, m * 256 + x, W + x * 65536, 65536, by omega, by go_num, by go_num, rfl, by omega, Lib.hid (by omega), HS, chain hb hb2⟩
              case measure => simp [intOf]; omega
        · rw [hk0] at hm
          simp only [Nat.reducePow] at hm
          have hw := HW.out
          have hwb : W ≤ 4294967296 := by omega
          have HM2 := Lib.hid hm
          have HK0 := Lib.hid hk0
          have hcell := (HR.out.below hb).cells k (by omega)
          have hb0 : (0 : Int) ≤ (k : Int) := by omega
          have hb1 : (k : Int) < (n : Int) - 1 := by omega
          clear hm hk0 hw
          go_wp2_with fail
          refine (part_any _ _ hsm).mono ?_
          rintro e w1 ⟨rfl, hb2⟩
          cases hp : partB (l.getD k ⟨#[]⟩) with
          | none =>
            have HD := Lib.hid (joinP_dead (l := l) (k := k + 1) (by rw [HN.out]; omega) (by rw [outTo, HK.out]; simp only [hp]))
            unfold numRet
            clear hp
            go_wp2_with fail
            go_ret2
            exact ⟨join_ret HD.out.symm, chain hb hb2⟩
          | some x =>
            have hx := partB_le _ _ hp
            by_cases h255 : 255 < x
            · have HD := Lib.hid (joinP_dead (l := l) (k := k + 1) (by rw [HN.out]; omega) (by rw [outTo, HK.out]; simp only [hp, if_pos h255]))
              unfold numRet
              clear hp
              go_wp2_with fail
              go_ret2
              exact ⟨join_ret HD.out.symm, chain hb hb2⟩
            · have HS : Hid (outTo l (k + 1) = some (m * 256 + x)) := Lib.hid (by rw [outTo, HK.out]; simp only [hp, if_neg h255])
              unfold numRet
              clear hp
              go_wp2_with fail
              go_roundw
              case rel =>
                have e0 := HK0.out
                have e1 := HW.out
                exact ⟨k + 1, m * 256 + x, W + x * 256, 256, by omega, by go_num, by go_num, rfl, by omega, Lib.hid (by omega), HS, chain hb hb2⟩
              case measure => simp [intOf]; omega
      · rcases hkr with ⟨hk0, rfl⟩ | ⟨hk0, rfl⟩ | ⟨hk0, rfl⟩ | ⟨hk0, rfl⟩
        · rw [hk0] at hm
          simp only [Nat.reducePow] at hm
          have hw := HW.out
          have hwb : W ≤ 4294967296 := by omega
          have hkn : k = n - 1 := by omega
          have HRo : Hid (roomB (n - 1) = roomB k) := Lib.hid (by rw [hkn])
          have hcell := (HR.out.below hb).cells (n - 1) (by omega)
          rw [hkn] at hsm
          have HM2 := Lib.hid hm
          have HK0 := Lib.hid hk0
          have HKN := Lib.hid hkn
          have hb1 : ¬ (k : Int) < (n : Int) - 1 := by omega
          clear hm hk0 hw hkn
          go_wp2_with fail
          refine (part_any _ _ hsm).mono ?_
          rintro e w1 ⟨rfl, hb2⟩
          cases hp : partB (l.getD (n - 1) ⟨#[]⟩) with
          | none =>
            have HD : Hid (joinP l = none) := Lib.hid (by
              unfold joinP
              rw [HN.out, if_neg h4, ← HKN.out, HK.out, HKN.out]
              simp only [hp])
            unfold numRet
            clear hp
            go_wp2_with fail
            go_ret2
            exact ⟨join_ret HD.out.symm, chain hb hb2⟩
          | some x =>
            have hx := partB_le _ _ hp
            have hd : joinP l = if roomB k ≤ x then none else some (m * roomB k + x) := by
              unfold joinP
              rw [HN.out, if_neg h4, ← HKN.out, HK.out, HKN.out]
              simp only [hp]
            have hRk : roomB k = 4294967296 := by rw [HK0.out]; rfl
            unfold numRet
            clear hp
            by_cases hge : 4294967296 ≤ x
            · rw [if_pos (by rw [hRk]; exact hge)] at hd
              have hgi : (4294967296 : Int) ≤ (x : Int) := by omega
              clear hRk hge
              have HD := Lib.hid hd
              clear hd
              go_wp2_with fail
              go_ret2
              exact ⟨join_ret HD.out.symm, chain hb hb2⟩
            · rw [if_neg (by rw [hRk]; exact hge), hRk] at hd
              clear hRk
              have hgi : decide ((4294967296 : Int) ≤ (x : Int)) = false := by simp; omega
              have e2 : IntKind.u32.wrap ((W : Int) + (x : Int)) = (W : Int) + (x : Int) := by
                have := HW.out
                have := HM2.out
                rw [IntKind.wrap_u32]; omega
              have HD := Lib.hid hd
              clear hd hge
              go_wp2_with fail
              go_ret2
              exact ⟨join_some HD.out (by have := HW.out; omega), chain hb hb2⟩
        · rw [hk0] at hm
          simp only [Nat.reducePow] at hm
          have hw := HW.out
          have hwb : W ≤ 4294967296 := by omega
          have hkn : k = n - 1 := by omega
          have HRo : Hid (roomB (n - 1) = roomB k) := Lib.hid (by rw [hkn])
          have hcell := (HR.out.below hb).cells (n - 1) (by omega)
          rw [hkn] at hsm
          have HM2 := Lib.hid hm
          have HK0 := Lib.hid hk0
          have HKN := Lib.hid hkn
          have hb1 : ¬ (k : Int) < (n : Int) - 1 := by omega
          clear hm hk0 hw hkn
          go_wp2_with fail
          refine (part_any _ _ hsm).mono ?_
          rintro e w1 ⟨rfl, hb2⟩
          cases hp : partB (l.getD (n - 1) ⟨#[]⟩) with
          | none =>
            have HD : Hid (joinP l = none) := Lib.hid (by
              unfold joinP
              rw [HN.out, if_neg h4, ← HKN.out, HK.out, HKN.out]
              simp only [hp])
            unfold numRet
            clear hp
            go_wp2_with fail
            go_ret2
            exact ⟨join_ret HD.out.symm, chain hb hb2⟩
          | some x =>
            have hx := partB_le _ _ hp
            have hd : joinP l = if roomB k ≤ x then none else some (m * roomB k + x) := by
              unfold joinP
              rw [HN.out, if_neg h4, ← HKN.out, HK.out, HKN.out]
              simp only [hp]
            have hRk : roomB k = 16777216 := by rw [HK0.out]; rfl
            unfold numRet
            clear hp
            by_cases hge : 16777216 ≤ x
            · rw [if_pos (by rw [hRk]; exact hge)] at hd
              have hgi : (16777216 : Int) ≤ (x : Int) := by omega
              clear hRk hge
              have HD := Lib.hid hd
              clear hd
              go_wp2_with fail
              go_ret2
              exact ⟨join_ret HD.out.symm, chain hb hb2⟩
            · rw [if_neg (by rw [hRk]; exact hge), hRk] at hd
              clear hRk
              have hgi : decide ((16777216 : Int) ≤ (x : Int)) = false := by simp; omega
              have e2 : IntKind.u32.wrap ((W : Int) + (x : Int)) = (W : Int) + (x : Int) := by
                have := HW.out
                have := HM2.out
                rw [IntKind.wrap_u32]; omega
              have HD := Lib.hid hd
              clear hd hge
              go_wp2_with fail
              go_ret2
              exact ⟨join_some HD.out (by have := HW.out; omega), chain hb hb2⟩
        · rw [hk0] at hm
          simp only [Nat.reducePow] at hm
          have hw := HW.out
          have hwb : W ≤ 4294967296 := by omega
          have hkn : k = n - 1 := by omega
          have HRo : Hid (roomB (n - 1) = roomB k) := Lib.hid (by rw [hkn])
          have hcell := (HR.out.below hb).cells (n - 1) (by omega)
          rw [hkn] at hsm
          have HM2 := Lib.hid hm
          have HK0 := Lib.hid hk0
          have HKN := Lib.hid hkn
          have hb1 : ¬ (k : Int) < (n : Int) - 1 := by omega
          clear hm hk0 hw hkn
          go_wp2_with fail
          refine (part_any _ _ hsm).mono ?_
          rintro e w1 ⟨rfl, hb2⟩
          cases hp : partB (l.getD (n - 1) ⟨#[]⟩) with
          | none =>
            have HD : Hid (joinP l = none) := Lib.hid (by
              unfold joinP
              rw [HN.out, if_neg h4, ← HKN.out, HK.out, HKN.out]
              simp only [hp])
            unfold numRet
            clear hp
            go_wp2_with fail
            go_ret2
            exact ⟨join_ret HD.out.symm, chain hb hb2⟩
          | some x =>
            have hx := partB_le _ _ hp
            have hd : joinP l = if roomB k ≤ x then none else some (m * roomB k + x) := by
              unfold joinP
              rw [HN.out, if_neg h4, ← HKN.out, HK.out, HKN.out]
              simp only [hp]
            have hRk : roomB k = 65536 := by rw [HK0.out]; rfl
            unfold numRet
            clear hp
            by_cases hge : 65536 ≤ x
            · rw [if_pos (by rw [hRk]; exact hge)] at hd
              have hgi : (65536 : Int) ≤ (x : Int) := by omega
              clear hRk hge
              have HD := Lib.hid hd
              clear hd
              go_wp2_with fail
              go_ret2
              exact ⟨join_ret HD.out.symm, chain hb hb2⟩
            · rw [if_neg (by rw [hRk]; exact hge), hRk] at hd
              clear hRk
              have hgi : decide ((65536 : Int) ≤ (x : Int)) = false := by simp; omega
              have e2 : IntKind.u32.wrap ((W : Int) + (x : Int)) = (W : Int) + (x : Int) := by
                have := HW.out
                have := HM2.out
                rw [IntKind.wrap_u32]; omega
              have HD := Lib.hid hd
              clear hd hge
              go_wp2_with fail
              go_ret2
              exact ⟨join_some HD.out (by have := HW.out; omega), chain hb hb2⟩
        · rw [hk0] at hm
          simp only [Nat.reducePow] at hm
          have hw := HW.out
          have hwb : W ≤ 4294967296 := by omega
          have hkn : k = n - 1 := by omega
          have HRo : Hid (roomB (n - 1) = roomB k) := Lib.hid (by rw [hkn])
          have hcell := (HR.out.below hb).cells (n - 1) (by omega)
          rw [hkn] at hsm
          have HM2 := Lib.hid hm
          have HK0 := Lib.hid hk0
          have HKN := Lib.hid hkn
          have hb1 : ¬ (k : Int) < (n : Int) - 1 := by omega
          clear hm hk0 hw hkn
          go_wp2_with fail
          refine (part_any _ _ hsm).mono ?_
          rintro e w1 ⟨rfl, hb2⟩
          cases hp : partB (l.getD (n - 1) ⟨#[]⟩) with
          | none =>
            have HD : Hid (joinP l = none) := Lib.hid (by
              unfold joinP
              rw [HN.out, if_neg h4, ← HKN.out, HK.out, HKN.out]
              simp only [hp])
            unfold numRet
            clear hp
            go_wp2_with fail
            go_ret2
            exact ⟨join_ret HD.out.symm, chain hb hb2⟩
          | some x =>
            have hx := partB_le _ _ hp
            have hd : joinP l = if roomB k ≤ x then none else some (m * roomB k + x) := by
              unfold joinP
              rw [HN.out, if_neg h4, ← HKN.out, HK.out, HKN.out]
              simp only [hp]
            have hRk : roomB k = 256 := by rw [HK0.out]; rfl
            unfold numRet
            clear hp
            by_cases hge : 256 ≤ x
            · rw [if_pos (by rw [hRk]; exact hge)] at hd
              have hgi : (256 : Int) ≤ (x : Int) := by omega
              clear hRk hge
              have HD := Lib.hid hd
              clear hd
              go_wp2_with fail
              go_ret2
              exact ⟨join_ret HD.out.symm, chain hb hb2⟩
            · rw [if_neg (by rw [hRk]; exact hge), hRk] at hd
              clear hRk
              have hgi : decide ((256 : Int) ≤ (x : Int)) = false := by simp; omega
              have e2 : IntKind.u32.wrap ((W : Int) + (x : Int)) = (W : Int) + (x : Int) := by
                have := HW.out
                have := HM2.out
                rw [IntKind.wrap_u32]; omega
              have HD := Lib.hid hd
              clear hd hge
              go_wp2_with fail
              go_ret2
              exact ⟨join_some HD.out (by have := HW.out; omega), chain hb hb2⟩

/-- A loose text's address and kind. -/
def looseB (s : ByteArray) : Nat × Nat :=
  if endsB ((lparts s).getD ((lparts s).length - 1) ⟨#[]⟩) then
    match joinP (lparts s) with
    | none => (0, 1)
    | some a => (a, 2)
  else (0, 0)
def looseRet (r : Nat × Nat) : Value := .tuple #[.int .u32 ((r.1 : Nat) : Int), .int .i64 ((r.2 : Nat) : Int)]
theorem loose_ret {o p : Nat × Nat} (h : o = p) : Ending.returned (looseRet o) = .returned (looseRet p) := by rw [h]
theorem looseB_name {s : ByteArray} (h : endsB ((lparts s).getD ((lparts s).length - 1) ⟨#[]⟩) = false) : looseB s = (0, 0) := by
  unfold looseB; rw [h]; rfl
theorem looseB_bad {s : ByteArray} (h : endsB ((lparts s).getD ((lparts s).length - 1) ⟨#[]⟩) = true) (hj : joinP (lparts s) = none) : looseB s = (0, 1) := by
  unfold looseB; rw [h, hj]; rfl
theorem looseB_good {s : ByteArray} {a : Nat} (h : endsB ((lparts s).getD ((lparts s).length - 1) ⟨#[]⟩) = true) (hj : joinP (lparts s) = some a) : looseB s = (a, 2) := by
  unfold looseB; rw [h, hj]; rfl

set_option maxRecDepth 100000 in
set_option maxHeartbeats 1000000 in
theorem loose_any (s : ByteArray) (w : World) (hs : s.size ≤ 1000000) :
    Calls Tryd.prog 7 #[.string s] w fun e w' => e = .returned (looseRet (looseB s)) ∧ Below w.heap.size w w' := by
  have hp := lparts_pos s
  have hpl := lparts_len s
  go_enter Tryd.func7, Tryd.ntmps7
  go_wp2_with fail
  refine (looseParts_any s _ hs).mono ?_
  rintro e w1 ⟨g, c, rfl, hg, hr, hb⟩
  have hc1 := hr.cap
  have hc2 := hr.capm
  unfold maxLen at hc2
  have HR := Lib.hid hr
  have hcell := hr.cells ((lparts s).length - 1) (by omega)
  have hsm : ((lparts s).getD ((lparts s).length - 1) ⟨#[]⟩).size ≤ 1000000 := Nat.le_trans (getD_small (lparts_small s) _) hs
  have HS : Hid (∀ p ∈ lparts s, p.size ≤ 1000000) := Lib.hid (fun p hp => Nat.le_trans (lparts_small s p hp) hs)
  clear hr
  go_wp2_with fail
  refine (ends_any _ _ hsm).mono ?_
  rintro e w2 ⟨rfl, hb2⟩
  cases he : endsB ((lparts s).getD ((lparts s).length - 1) ⟨#[]⟩) with
  | false =>
    have HE := Lib.hid (looseB_name he)
    clear he
    go_wp2_with fail
    go_ret2
    exact ⟨loose_ret HE.out.symm, chain hb hb2⟩
  | true =>
    have HE := Lib.hid he
    clear he
    go_wp2_with fail
    refine (join_parts (lparts s) g c _ _ rfl hp (by omega) (HR.out.below hb2) HS.out).mono ?_
    rintro e w3 ⟨rfl, hb3⟩
    cases hj : joinP (lparts s) with
    | none =>
      have HJ := Lib.hid (looseB_bad HE.out hj)
      clear hj
      unfold joinRet
      go_wp2_with fail
      go_ret2
      exact ⟨loose_ret HJ.out.symm, chain (chain hb hb2) hb3⟩
    | some a =>
      have HJ := Lib.hid (looseB_good HE.out hj)
      clear hj
      unfold joinRet
      go_wp2_with fail
      go_ret2
      exact ⟨loose_ret (o := (a, 2)) HJ.out.symm, chain (chain hb hb2) hb3⟩

theorem loose_example : looseB { data := #[48, 120, 55, 102, 46, 49] } = (2130706433, 2) := by kernel_rfl

set_option maxHeartbeats 400000 in
theorem lives_any (w : World) : Calls Tryd.prog 11 #[] w fun e w' => e = .returned (.bool true) ∧ Below w.heap.size w w' := by
  go_enter Tryd.func11, Tryd.ntmps11
  go_wp2_with fail
  refine (loose_any { data := #[48, 120, 55, 102, 46, 49] } _ (by decide)).mono ?_
  rintro e w1 ⟨rfl, hb⟩
  rw [loose_example]
  unfold looseRet
  go_wp2_with fail
  go_ret
  exact ⟨rfl, hb⟩
end Go.Proofs.YtebcgfgfcjgdiaaDoor

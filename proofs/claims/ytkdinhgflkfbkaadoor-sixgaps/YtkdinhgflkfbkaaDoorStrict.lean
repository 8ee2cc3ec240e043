/- Contracts of four.Of and four.Strict: the address of four bytes, and of a strict text. -/
import Derived.Test.YtkdinhgflkfbkaaDoorNumbers
import Derived.Test.YtkdinhgflkfbkaaDoorStrRows
import Derived.OpenShut
namespace Go.Proofs.YtkdinhgflkfbkaaDoor
open Go.RowKit
set_option linter.unusedVariables false

def arr4 (a b c d : Nat) : Value := .agg #[.int .u8 (a : Int), .int .u8 (b : Int), .int .u8 (c : Int), .int .u8 (d : Int)]
theorem or_low (X c : Nat) (hX : X < 16777216) (hc : c < 256) : bits .or .u32 ((X : Int) * 256) (c : Int) = ((X * 256 + c : Nat) : Int) := by
  rw [bits_join .u32 32 (by decide) (fun n h0 h1 => by rw [IntKind.wrap_u32]; omega) 8 ((X : Int) * 256) c (by omega) (by omega) (by omega) (by omega) (by omega) (by omega)]
  omega
/-- The first k of four bytes, as a number. -/
def ofTo (a b c d : Nat) : Nat → Nat
  | 0 => 0
  | 1 => a
  | 2 => a * 256 + b
  | 3 => (a * 256 + b) * 256 + c
  | _ => ((a * 256 + b) * 256 + c) * 256 + d
set_option maxRecDepth 100000 in
set_option maxHeartbeats 1000000 in
theorem of_any (a b c d : Nat) (w : World) (ha : a < 256) (hb : b < 256) (hc : c < 256) (hd : d < 256) :
    Calls Tryd.prog 49 #[arr4 a b c d] w fun e w' => e = .returned (.int .u32 (((a * 256 + b) * 256 + c) * 256 + d : Nat)) ∧ Below w.heap.size w w' := by
  unfold arr4
  have i0 : ∀ w : World, (Instr.index 70 (.agg #[.int .u8 (a : Int), .int .u8 (b : Int), .int .u8 (c : Int), .int .u8 (d : Int)]) (.int .i64 0)).run Tryd.prog w = .ok (.int .u8 (a : Int)) w := fun _ => by kernel_rfl
  have i1 : ∀ w : World, (Instr.index 70 (.agg #[.int .u8 (a : Int), .int .u8 (b : Int), .int .u8 (c : Int), .int .u8 (d : Int)]) (.int .i64 1)).run Tryd.prog w = .ok (.int .u8 (b : Int)) w := fun _ => by kernel_rfl
  have i2 : ∀ w : World, (Instr.index 70 (.agg #[.int .u8 (a : Int), .int .u8 (b : Int), .int .u8 (c : Int), .int .u8 (d : Int)]) (.int .i64 2)).run Tryd.prog w = .ok (.int .u8 (c : Int)) w := fun _ => by kernel_rfl
  have i3 : ∀ w : World, (Instr.index 70 (.agg #[.int .u8 (a : Int), .int .u8 (b : Int), .int .u8 (c : Int), .int .u8 (d : Int)]) (.int .i64 3)).run Tryd.prog w = .ok (.int .u8 (d : Int)) w := fun _ => by kernel_rfl
  go_enter Tryd.func49, Tryd.ntmps49
  go_wp2
  go_loop [3, 7] (fun t i => ∃ k X : Nat, k ≤ 4 ∧ i = .int .i64 k ∧ t = .int .u32 (X : Int) ∧ X < 256 ^ k ∧ Hid (X = ofTo a b c d k)) (fun _ i => 4 - (intOf i).toNat)
  case atStart => exact ⟨0, 0, Nat.zero_le _, rfl, rfl, by decide, Lib.hid rfl⟩
  case round =>
    obtain ⟨k, X, hk, rfl, rfl, hX, HX⟩ := hrel
    have hk5 : k = 0 ∨ k = 1 ∨ k = 2 ∨ k = 3 ∨ k = 4 := by omega
    rcases hk5 with rfl | rfl | rfl | rfl | rfl
    · have hXb : X < 16777216 := Nat.lt_of_lt_of_le hX (by decide)
      go_wp2
      exact ⟨⟨1, X * 256 + a, by omega, rfl, by rw [or_low X a hXb ha], by simp at hX ⊢; omega, Lib.hid (by rw [HX.out]; simp [ofTo])⟩, by decide⟩
    · have hXb : X < 16777216 := Nat.lt_of_lt_of_le hX (by decide)
      go_wp2
      exact ⟨⟨2, X * 256 + b, by omega, rfl, by rw [or_low X b hXb hb], by simp at hX ⊢; omega, Lib.hid (by rw [HX.out]; simp [ofTo])⟩, by decide⟩
    · have hXb : X < 16777216 := Nat.lt_of_lt_of_le hX (by decide)
      go_wp2
      exact ⟨⟨3, X * 256 + c, by omega, rfl, by rw [or_low X c hXb hc], by simp at hX ⊢; omega, Lib.hid (by rw [HX.out]; simp [ofTo])⟩, by decide⟩
    · have hXb : X < 16777216 := Nat.lt_of_lt_of_le hX (by decide)
      go_wp2
      exact ⟨⟨4, X * 256 + d, by omega, rfl, by rw [or_low X d hXb hd], by simp at hX ⊢; omega, Lib.hid (by rw [HX.out]; simp [ofTo])⟩, by decide⟩
    · go_wp2
      go_ret
      exact ⟨by have := HX.out; rw [this]; rfl, (Below.refl _ _).alloc (Nat.le_refl _) _⟩

/-- A part of a strict text. -/
def octet (p : ByteArray) : Option Nat :=
  match numB p 10 with
  | none => none
  | some n => if 255 < n then none else if 1 < p.size ∧ byteOf p 0 = 48 then none else some n
theorem octet_lt (p : ByteArray) (n : Nat) (h : octet p = some n) : n < 256 := by
  unfold octet at h
  split at h
  · cases h
  · split at h
    · cases h
    · split at h
      · cases h
      · have := Option.some.inj h; omega
/-- The number of the first k parts. -/
def octTo (l : List ByteArray) : Nat → Option Nat
  | 0 => some 0
  | k + 1 => match octTo l k with
    | none => none
    | some m => match octet (l.getD k ⟨#[]⟩) with
      | none => none
      | some n => some (m * 256 + n)
theorem octTo_none (l : List ByteArray) (k : Nat) (h : octTo l k = none) : ∀ m, octTo l (k + m) = none
  | 0 => h
  | m + 1 => by rw [← Nat.add_assoc, octTo, octTo_none l k h m]
theorem octTo_dead {l : List ByteArray} {k n : Nat} (hk : k ≤ n) (h : octTo l k = none) : octTo l n = none := by
  have := octTo_none l k h (n - k)
  rwa [show k + (n - k) = n by omega] at this
theorem octTo_step {l : List ByteArray} {k m n : Nat} (h : octTo l k = some m) (hn : octet (l.getD k ⟨#[]⟩) = some n) : octTo l (k + 1) = some (m * 256 + n) := by
  rw [octTo, h]
  simp only [hn]
theorem octTo_stop {l : List ByteArray} {k m : Nat} (h : octTo l k = some m) (hn : octet (l.getD k ⟨#[]⟩) = none) : octTo l (k + 1) = none := by
  rw [octTo, h]
  simp only [hn]
theorem octTo_lt (l : List ByteArray) : ∀ k m, octTo l k = some m → m < 256 ^ k
  | 0, m, h => by simp [octTo] at h; omega
  | k + 1, m, h => by
    rw [octTo] at h
    cases hk : octTo l k with
    | none => rw [hk] at h; cases h
    | some j =>
      have := octTo_lt l k j hk
      rw [hk] at h
      simp only at h
      split at h
      · cases h
      · rename_i n hn
        have h2 := octet_lt _ _ hn
        have := Option.some.inj h
        rw [Nat.pow_succ]
        omega
/-- A strict text's address. -/
def strictB (s : ByteArray) : Option Nat := if (pieces s 46).length = 4 then octTo (pieces s 46) 4 else none
theorem strictB_lt (s : ByteArray) (a : Nat) (h : strictB s = some a) : a < 4294967296 := by
  unfold strictB at h
  split at h
  · exact octTo_lt _ 4 a h
  · cases h
def strictRet (o : Option Nat) : Value := .tuple #[.int .u32 ((o.getD 0 : Nat) : Int), .bool o.isSome]
theorem strict_ret {o p : Option Nat} (h : o = p) : Ending.returned (strictRet o) = .returned (strictRet p) := by rw [h]

set_option maxRecDepth 100000 in
set_option maxHeartbeats 4000000 in
theorem strict_any (s : ByteArray) (w : World) (hs : s.size ≤ 1000000) :
    Calls Tryd.prog 37 #[.string s] w fun e w' => e = .returned (strictRet (strictB s)) ∧ Below w.heap.size w w' := by
  have hp := pieces_pos s 46
  have hpl := pieces_len s 46
  go_enter Tryd.func37, Tryd.ntmps37
  go_wp2_with fail
  refine (split_row s 46 _ hs).mono ?_
  rintro e w1 ⟨g, c, rfl, hg, hr, hb⟩
  have hc1 := hr.cap
  have hc2 := hr.capm
  unfold maxLen at hc2
  have hlt := hr.lt
  have HR := Lib.hid hr
  clear hr
  by_cases h4 : (pieces s 46).length = 4
  · have HS : Hid (strictB s = octTo (pieces s 46) 4) := Lib.hid (by unfold strictB; rw [if_pos h4])
    have HM := Lib.hid (fun k => Nat.le_trans (getD_small (pieces_small s 46) k) hs)
    generalize pieces s 46 = l at *
    rw [h4]
    rw [h4] at HR
    clear h4 hp hpl
    go_wp2_with fail
    go_loopw [17] (fun i wr => ∃ k a0 a1 a2 a3 : Nat, k ≤ 4 ∧ i = .int .i64 k ∧ wr = w1.alloc (.cells #[.int .u8 (a0 : Int), .int .u8 (a1 : Int), .int .u8 (a2 : Int), .int .u8 (a3 : Int)] 70) ∧ a0 < 256 ∧ a1 < 256 ∧ a2 < 256 ∧ a3 < 256 ∧ Hid (octTo l k = some (ofTo a0 a1 a2 a3 k))) (fun i _ => 4 - (intOf i).toNat)
    case atStart => exact ⟨0, 0, 0, 0, 0, by decide, rfl, rfl, by decide, by decide, by decide, by decide, Lib.hid rfl⟩
    case round =>
      obtain ⟨k, a0, a1, a2, a3, hk, rfl, rfl, hb0, hb1, hb2, hb3, HK⟩ := hrel
      have hk5 : k = 0 ∨ k = 1 ∨ k = 2 ∨ k = 3 ∨ k = 4 := by omega
      rcases hk5 with rfl | rfl | rfl | rfl | rfl
      · have hcell : ∀ o, (w1.alloc o).cell? ⟨g, 0, none⟩ = some (.string (l.getD 0 ⟨#[]⟩)) := fun o => by rw [World.cell?_alloc_lt _ _ _ hlt]; exact HR.out.cells 0 (by decide)
        have hsm := HM.out 0
        obtain ⟨p, hp⟩ : ∃ p, l.getD 0 ⟨#[]⟩ = p := ⟨_, rfl⟩
        rw [hp] at hcell hsm
        have HP := Lib.hid hp
        clear hp
        go_wp2_with fail
        refine (number_10 p _ hsm).mono ?_
        rintro e w2 ⟨rfl, rfl⟩
        cases hq : numB p 10 with
        | none =>
          have HD : Hid (strictB s = none) := Lib.hid (by rw [HS.out]; exact octTo_dead (k := 1) (by decide) (octTo_stop HK.out (by rw [HP.out]; unfold octet; rw [hq])))
          clear hq
          unfold numRet
          go_wp2_with fail
          go_ret2
          exact ⟨strict_ret HD.out.symm, hb.alloc hb.size _⟩
        | some n =>
          have HQ := Lib.hid hq
          have hn : n ≤ 1099511627776 := by
            unfold numB at hq
            split at hq
            · cases hq
            · exact numTo_le _ _ _ _ hq
          clear hq
          unfold numRet
          by_cases h255 : 255 < n
          · have HD : Hid (strictB s = none) := Lib.hid (by rw [HS.out]; exact octTo_dead (k := 1) (by decide) (octTo_stop HK.out (by rw [HP.out]; unfold octet; rw [HQ.out]; simp only [if_pos h255])))
            go_wp2_with fail
            go_ret2
            exact ⟨strict_ret HD.out.symm, hb.alloc hb.size _⟩
          · have hw8 : IntKind.u8.wrap (n : Int) = (n : Int) := by rw [IntKind.wrap_u8]; omega
            by_cases h1 : 1 < p.size
            · by_cases hz : byteOf p 0 = 48
              · have HD : Hid (strictB s = none) := Lib.hid (by rw [HS.out]; exact octTo_dead (k := 1) (by decide) (octTo_stop HK.out (by rw [HP.out]; unfold octet; rw [HQ.out]; simp only [if_neg h255, if_pos (show 1 < p.size ∧ byteOf p 0 = 48 from ⟨h1, hz⟩)])))
                rw [byteOf_eq p 0 (by omega)] at hz
                go_wp2_with fail
                go_ret2
                exact ⟨strict_ret HD.out.symm, hb.alloc hb.size _⟩
              · have HT : Hid (octTo l 1 = some (ofTo a0 a1 a2 a3 0 * 256 + n)) := Lib.hid (octTo_step HK.out (by rw [HP.out]; unfold octet; rw [HQ.out]; simp only [if_neg h255, if_neg (show ¬ (1 < p.size ∧ byteOf p 0 = 48) from fun h => hz h.2)]))
                rw [byteOf_eq p 0 (by omega)] at hz
                have hzb : (((p[0]).toNat : Int) == 48) = false := by simp; omega
                go_wp2_with fail
                go_roundw
                case rel => exact ⟨1, n, a1, a2, a3, by decide, rfl, rfl, by omega, by omega, by omega, by omega, Lib.hid (by rw [HT.out]; simp [ofTo])⟩
                case measure => simp [intOf]
            · have HT : Hid (octTo l 1 = some (ofTo a0 a1 a2 a3 0 * 256 + n)) := Lib.hid (octTo_step HK.out (by rw [HP.out]; unfold octet; rw [HQ.out]; simp only [if_neg h255, if_neg (show ¬ (1 < p.size ∧ byteOf p 0 = 48) from fun h => h1 h.1)]))
              go_wp2_with fail
              go_roundw
              case rel => exact ⟨1, n, a1, a2, a3, by decide, rfl, rfl, by omega, by omega, by omega, by omega, Lib.hid (by rw [HT.out]; simp [ofTo])⟩
              case measure => simp [intOf]
      · have hcell : ∀ o, (w1.alloc o).cell? ⟨g, 1, none⟩ = some (.string (l.getD 1 ⟨#[]⟩)) := fun o => by rw [World.cell?_alloc_lt _ _ _ hlt]; exact HR.out.cells 1 (by decide)
        have hsm := HM.out 1
        obtain ⟨p, hp⟩ : ∃ p, l.getD 1 ⟨#[]⟩ = p := ⟨_, rfl⟩
        rw [hp] at hcell hsm
        have HP := Lib.hid hp
        clear hp
        go_wp2_with fail
        refine (number_10 p _ hsm).mono ?_
        rintro e w2 ⟨rfl, rfl⟩
        cases hq : numB p 10 with
        | none =>
          have HD : Hid (strictB s = none) := Lib.hid (by rw [HS.out]; exact octTo_dead (k := 2) (by decide) (octTo_stop HK.out (by rw [HP.out]; unfold octet; rw [hq])))
          clear hq
          unfold numRet
          go_wp2_with fail
          go_ret2
          exact ⟨strict_ret HD.out.symm, hb.alloc hb.size _⟩
        | some n =>
          have HQ := Lib.hid hq
          have hn : n ≤ 1099511627776 := by
            unfold numB at hq
            split at hq
            · cases hq
            · exact numTo_le _ _ _ _ hq
          clear hq
          unfold numRet
          by_cases h255 : 255 < n
          · have HD : Hid (strictB s = none) := Lib.hid (by rw [HS.out]; exact octTo_dead (k := 2) (by decide) (octTo_stop HK.out (by rw [HP.out]; unfold octet; rw [HQ.out]; simp only [if_pos h255])))
            go_wp2_with fail
            go_ret2
            exact ⟨strict_ret HD.out.symm, hb.alloc hb.size _⟩
          · have hw8 : IntKind.u8.wrap (n : Int) = (n : Int) := by rw [IntKind.wrap_u8]; omega
            by_cases h1 : 1 < p.size
            · by_cases hz : byteOf p 0 = 48
              · have HD : Hid (strictB s = none) := Lib.hid (by rw [HS.out]; exact octTo_dead (k := 2) (by decide) (octTo_stop HK.out (by rw [HP.out]; unfold octet; rw [HQ.out]; simp only [if_neg h255, if_pos (show 1 < p.size ∧ byteOf p 0 = 48 from ⟨h1, hz⟩)])))
                rw [byteOf_eq p 0 (by omega)] at hz
                go_wp2_with fail
                go_ret2
                exact ⟨strict_ret HD.out.symm, hb.alloc hb.size _⟩
              · have HT : Hid (octTo l 2 = some (ofTo a0 a1 a2 a3 1 * 256 + n)) := Lib.hid (octTo_step HK.out (by rw [HP.out]; unfold octet; rw [HQ.out]; simp only [if_neg h255, if_neg (show ¬ (1 < p.size ∧ byteOf p 0 = 48) from fun h => hz h.2)]))
                rw [byteOf_eq p 0 (by omega)] at hz
                have hzb : (((p[0]).toNat : Int) == 48) = false := by simp; omega
                go_wp2_with fail
                go_roundw
                case rel => exact ⟨2, a0, n, a2, a3, by decide, rfl, rfl, by omega, by omega, by omega, by omega, Lib.hid (by rw [HT.out]; simp [ofTo])⟩
                case measure => simp [intOf]
            · have HT : Hid (octTo l 2 = some (ofTo a0 a1 a2 a3 1 * 256 + n)) := Lib.hid (octTo_step HK.out (by rw [HP.out]; unfold octet; rw [HQ.out]; simp only [if_neg h255, if_neg (show ¬ (1 < p.size ∧ byteOf p 0 = 48) from fun h => h1 h.1)]))
              go_wp2_with fail
              go_roundw
              case rel => exact ⟨2, a0, n, a2, a3, by decide, rfl, rfl, by omega, by omega, by omega, by omega, Lib.hid (by rw [HT.out]; simp [ofTo])⟩
              case measure => simp [intOf]
      · have hcell : ∀ o, (w1.alloc o).cell? ⟨g, 2, none⟩ = some (.string (l.getD 2 ⟨#[]⟩)) := fun o => by rw [World.cell?_alloc_lt _ _ _ hlt]; exact HR.out.cells 2 (by decide)
        have hsm := HM.out 2
        obtain ⟨p, hp⟩ : ∃ p, l.getD 2 ⟨#[]⟩ = p := ⟨_, rfl⟩
        rw [hp] at hcell hsm
        have HP := Lib.hid hp
        clear hp
        go_wp2_with fail
        refine (number_10 p _ hsm).mono ?_
        rintro e w2 ⟨rfl, rfl⟩
        cases hq : numB p 10 with
        | none =>
          have HD : Hid (strictB s = none) := Lib.hid (by rw [HS.out]; exact octTo_dead (k := 3) (by decide) (octTo_stop HK.out (by rw [HP.out]; unfold octet; rw [hq])))
          clear hq
          unfold numRet
          go_wp2_with fail
          go_ret2
          exact ⟨strict_ret HD.out.symm, hb.alloc hb.size _⟩
        | some n =>
          have HQ := Lib.hid hq
          have hn : n ≤ 1099511627776 := by
            unfold numB at hq
            split at hq
            · cases hq
            · exact numTo_le _ _ _ _ hq
          clear hq
          unfold numRet
          by_cases h255 : 255 < n
          · have HD : Hid (strictB s = none) := Lib.hid (by rw [HS.out]; exact octTo_dead (k := 3) (by decide) (octTo_stop HK.out (by rw [HP.out]; unfold octet; rw [HQ.out]; simp only [if_pos h255])))
            go_wp2_with fail
            go_ret2
            exact ⟨strict_ret HD.out.symm, hb.alloc hb.size _⟩
          · have hw8 : IntKind.u8.wrap (n : Int) = (n : Int) := by rw [IntKind.wrap_u8]; omega
            by_cases h1 : 1 < p.size
            · by_cases hz : byteOf p 0 = 48
              · have HD : Hid (strictB s = none) := Lib.hid (by rw [HS.out]; exact octTo_dead (k := 3) (by decide) (octTo_stop HK.out (by rw [HP.out]; unfold octet; rw [HQ.out]; simp only [if_neg h255, if_pos (show 1 < p.size ∧ byteOf p 0 = 48 from ⟨h1, hz⟩)])))
                rw [byteOf_eq p 0 (by omega)] at hz
                go_wp2_with fail
                go_ret2
                exact ⟨strict_ret HD.out.symm, hb.alloc hb.size _⟩
              · have HT : Hid (octTo l 3 = some (ofTo a0 a1 a2 a3 2 * 256 + n)) := Lib.hid (octTo_step HK.out (by rw [HP.out]; unfold octet; rw [HQ.out]; simp only [if_neg h255, if_neg (show ¬ (1 < p.size ∧ byteOf p 0 = 48) from fun h => hz h.2)]))
                rw [byteOf_eq p 0 (by omega)] at hz
                have hzb : (((p[0]).toNat : Int) == 48) = false := by simp; omega
                go_wp2_with fail
                go_roundw
                case rel => exact ⟨3, a0, a1, n, a3, by decide, rfl, rfl, by omega, by omega, by omega, by omega, Lib.hid (by rw [HT.out]; simp [ofTo])⟩
                case measure => simp [intOf]
            · have HT : Hid (octTo l 3 = some (ofTo a0 a1 a2 a3 2 * 256 + n)) := Lib.hid (octTo_step HK.out (by rw [HP.out]; unfold octet; rw [HQ.out]; simp only [if_neg h255, if_neg (show ¬ (1 < p.size ∧ byteOf p 0 = 48) from fun h => h1 h.1)]))
              go_wp2_with fail
              go_roundw
              case rel => exact ⟨3, a0, a1, n, a3, by decide, rfl, rfl, by omega, by omega, by omega, by omega, Lib.hid (by rw [HT.out]; simp [ofTo])⟩
              case measure => simp [intOf]
      · have hcell : ∀ o, (w1.alloc o).cell? ⟨g, 3, none⟩ = some (.string (l.getD 3 ⟨#[]⟩)) := fun o => by rw [World.cell?_alloc_lt _ _ _ hlt]; exact HR.out.cells 3 (by decide)
        have hsm := HM.out 3
        obtain ⟨p, hp⟩ : ∃ p, l.getD 3 ⟨#[]⟩ = p := ⟨_, rfl⟩
        rw [hp] at hcell hsm
        have HP := Lib.hid hp
        clear hp
        go_wp2_with fail
        refine (number_10 p _ hsm).mono ?_
        rintro e w2 ⟨rfl, rfl⟩
        cases hq : numB p 10 with
        | none =>
          have HD : Hid (strictB s = none) := Lib.hid (by rw [HS.out]; exact octTo_dead (k := 4) (by decide) (octTo_stop HK.out (by rw [HP.out]; unfold octet; rw [hq])))
          clear hq
          unfold numRet
          go_wp2_with fail
          go_ret2
          exact ⟨strict_ret HD.out.symm, hb.alloc hb.size _⟩
        | some n =>
          have HQ := Lib.hid hq
          have hn : n ≤ 1099511627776 := by
            unfold numB at hq
            split at hq
            · cases hq
            · exact numTo_le _ _ _ _ hq
          clear hq
          unfold numRet
          by_cases h255 : 255 < n
          · have HD : Hid (strictB s = none) := Lib.hid (by rw [HS.out]; exact octTo_dead (k := 4) (by decide) (octTo_stop HK.out (by rw [HP.out]; unfold octet; rw [HQ.out]; simp only [if_pos h255])))
            go_wp2_with fail
            go_ret2
            exact ⟨strict_ret HD.out.symm, hb.alloc hb.size _⟩
          · have hw8 : IntKind.u8.wrap (n : Int) = (n : Int) := by rw [IntKind.wrap_u8]; omega
            by_cases h1 : 1 < p.size
            · by_cases hz : byteOf p 0 = 48
              · have HD : Hid (strictB s = none) := Lib.hid (by rw [HS.out]; exact octTo_dead (k := 4) (by decide) (octTo_stop HK.out (by rw [HP.out]; unfold octet; rw [HQ.out]; simp only [if_neg h255, if_pos (show 1 < p.size ∧ byteOf p 0 = 48 from ⟨h1, hz⟩)])))
                rw [byteOf_eq p 0 (by omega)] at hz
                go_wp2_with fail
                go_ret2
                exact ⟨strict_ret HD.out.symm, hb.alloc hb.size _⟩
              · have HT : Hid (octTo l 4 = some (ofTo a0 a1 a2 a3 3 * 256 + n)) := Lib.hid (octTo_step HK.out (by rw [HP.out]; unfold octet; rw [HQ.out]; simp only [if_neg h255, if_neg (show ¬ (1 < p.size ∧ byteOf p 0 = 48) from fun h => hz h.2)]))
                rw [byteOf_eq p 0 (by omega)] at hz
                have hzb : (((p[0]).toNat : Int) == 48) = false := by simp; omega
                go_wp2_with fail
                go_roundw
                case rel => exact ⟨4, a0, a1, a2, n, by decide, rfl, rfl, by omega, by omega, by omega, by omega, Lib.hid (by rw [HT.out]; simp [ofTo])⟩
                case measure => simp [intOf]
            · have HT : Hid (octTo l 4 = some (ofTo a0 a1 a2 a3 3 * 256 + n)) := Lib.hid (octTo_step HK.out (by rw [HP.out]; unfold octet; rw [HQ.out]; simp only [if_neg h255, if_neg (show ¬ (1 < p.size ∧ byteOf p 0 = 48) from fun h => h1 h.1)]))
              go_wp2_with fail
              go_roundw
              case rel => exact ⟨4, a0, a1, a2, n, by decide, rfl, rfl, by omega, by omega, by omega, by omega, Lib.hid (by rw [HT.out]; simp [ofTo])⟩
              case measure => simp [intOf]
      · go_wp2_with fail
        refine (of_any a0 a1 a2 a3 _ hb0 hb1 hb2 hb3).mono ?_
        rintro e w2 ⟨rfl, hbo⟩
        go_wp2_with fail
        go_ret2
        exact ⟨strict_ret (o := some _) (by rw [HS.out, HK.out]; rfl), chain (hb.alloc hb.size _) hbo⟩
  · have HS : Hid (strictB s = none) := Lib.hid (by unfold strictB; rw [if_neg h4])
    generalize pieces s 46 = l at *
    have hlb : ((l.length : Int) != 4) = true := by simp; omega
    go_wp2_with fail
    go_ret2
    exact ⟨strict_ret HS.out.symm, hb⟩
end Go.Proofs.YtkdinhgflkfbkaaDoor

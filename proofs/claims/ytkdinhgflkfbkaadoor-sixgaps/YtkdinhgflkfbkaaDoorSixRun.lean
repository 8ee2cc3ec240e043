/- Contracts of six.Run, six.mapped and six.printed. -/
import Derived.Test.YtkdinhgflkfbkaaDoorHexes
import Derived.Test.YtkdinhgflkfbkaaDoorEqArr
namespace Go.Proofs.YtkdinhgflkfbkaaDoor
open Go.RowKit
set_option linter.unusedVariables false

/-- What the landed Run holds behind k groups: where the longest row begins, how long it is, how many zeros stand last. -/
def ownTo (gs : List Nat) : Nat → Nat × Nat × Nat
  | 0 => (0, 0, 0)
  | k + 1 => if gs.getD k 0 = 0 then (if (ownTo gs k).2.1 < (ownTo gs k).2.2 + 1 then (k - (ownTo gs k).2.2, (ownTo gs k).2.2 + 1, (ownTo gs k).2.2 + 1) else ((ownTo gs k).1, (ownTo gs k).2.1, (ownTo gs k).2.2 + 1)) else ((ownTo gs k).1, (ownTo gs k).2.1, 0)
def ownRun (gs : List Nat) : Nat × Nat := if (ownTo gs 8).2.1 < 2 then (0, 0) else ((ownTo gs 8).1, (ownTo gs 8).2.1)
theorem zl_congr {gs hs : List Nat} (h : ∀ i, gs.getD i 0 = 0 ↔ hs.getD i 0 = 0) : ∀ f i, zl gs f i = zl hs f i
  | 0, _ => rfl
  | f + 1, i => by
    rw [zl, zl, zl_congr h f (i + 1)]
    by_cases h0 : gs.getD i 0 = 0
    · rw [if_pos h0, if_pos ((h i).1 h0)]
    · rw [if_neg h0, if_neg (fun h1 => h0 ((h i).2 h1))]
theorem runTo_congr {gs hs : List Nat} (h : ∀ i, gs.getD i 0 = 0 ↔ hs.getD i 0 = 0) : ∀ k, runTo gs k = runTo hs k
  | 0 => rfl
  | k + 1 => by
    have e : zrun gs k = zrun hs k := zl_congr h _ _
    rw [runTo, runTo, runTo_congr h k, e]
theorem ownTo_congr {gs hs : List Nat} (h : ∀ i, gs.getD i 0 = 0 ↔ hs.getD i 0 = 0) : ∀ k, ownTo gs k = ownTo hs k
  | 0 => rfl
  | k + 1 => by
    rw [ownTo, ownTo, ownTo_congr h k]
    by_cases h0 : gs.getD k 0 = 0
    · rw [if_pos h0, if_pos ((h k).1 h0)]
    · rw [if_neg h0, if_neg (fun h1 => h0 ((h k).2 h1))]
def bit (b : Bool) : Nat := if b then 0 else 1
theorem run_bits : ∀ b0 b1 b2 b3 b4 b5 b6 b7 : Bool, ownRun [bit b0, bit b1, bit b2, bit b3, bit b4, bit b5, bit b6, bit b7] = runB [bit b0, bit b1, bit b2, bit b3, bit b4, bit b5, bit b6, bit b7] := by decide +kernel
theorem own_run (gs : List Nat) (h8 : gs.length = 8) : ownRun gs = runB gs := by
  obtain ⟨x0, x1, x2, x3, x4, x5, x6, x7, rfl⟩ := list8 gs h8
  have hb : ∀ x : Nat, x = 0 ↔ bit (decide (x = 0)) = 0 := by
    intro x
    unfold bit
    by_cases h : x = 0
    · simp [h]
    · simp [h]
  have h : ∀ i, [x0, x1, x2, x3, x4, x5, x6, x7].getD i 0 = 0 ↔ [bit (decide (x0 = 0)), bit (decide (x1 = 0)), bit (decide (x2 = 0)), bit (decide (x3 = 0)), bit (decide (x4 = 0)), bit (decide (x5 = 0)), bit (decide (x6 = 0)), bit (decide (x7 = 0))].getD i 0 = 0 := by
    intro i
    match i with
    | 0 => exact hb x0
    | 1 => exact hb x1
    | 2 => exact hb x2
    | 3 => exact hb x3
    | 4 => exact hb x4
    | 5 => exact hb x5
    | 6 => exact hb x6
    | 7 => exact hb x7
    | i + 8 => exact Iff.rfl
  unfold ownRun runB
  rw [ownTo_congr h, runTo_congr h]
  exact run_bits _ _ _ _ _ _ _ _
theorem own_ret {gs : List Nat} {A M N : Nat} (h8 : gs.length = 8) (h : ownTo gs 8 = (A, M, N)) : runB gs = if M < 2 then (0, 0) else (A, M) := by
  rw [← own_run gs h8]
  unfold ownRun
  rw [h]

set_option maxRecDepth 100000 in
set_option maxHeartbeats 2000000 in
theorem sixRun_any (gs : List Nat) (w : World) (h8 : gs.length = 8) (hlt : ∀ x ∈ gs, x < 65536) :
    Calls Tryd.prog 15 #[arr8 gs] w fun e w' => e = .returned (runRet (runB gs)) ∧ Below w.heap.size w w' := by
  have H8 := Lib.hid h8
  obtain ⟨x0, x1, x2, x3, x4, x5, x6, x7, hgs⟩ := list8 gs h8
  have hA := Arr8.new w 24 x0 x1 x2 x3 x4 x5 x6 x7
  have hb : Below w.heap.size w (w.alloc (.cells #[.int .u16 (x0 : Int), .int .u16 (x1 : Int), .int .u16 (x2 : Int), .int .u16 (x3 : Int), .int .u16 (x4 : Int), .int .u16 (x5 : Int), .int .u16 (x6 : Int), .int .u16 (x7 : Int)] 24)) := (Below.refl _ _).alloc (Nat.le_refl _) _
  rw [← hgs] at hA
  rw [show arr8 gs = .agg #[.int .u16 (x0 : Int), .int .u16 (x1 : Int), .int .u16 (x2 : Int), .int .u16 (x3 : Int), .int .u16 (x4 : Int), .int .u16 (x5 : Int), .int .u16 (x6 : Int), .int .u16 (x7 : Int)] by rw [hgs]; rfl]
  clear hgs hlt h8
  go_enter Tryd.func15, Tryd.ntmps15
  go_wp2_with fail
  generalize w.alloc (.cells #[.int .u16 (x0 : Int), .int .u16 (x1 : Int), .int .u16 (x2 : Int), .int .u16 (x3 : Int), .int .u16 (x4 : Int), .int .u16 (x5 : Int), .int .u16 (x6 : Int), .int .u16 (x7 : Int)] 24) = W at *
  have HA := Lib.hid hA
  clear hA
  go_loop [4, 5, 6, 8] (fun a m n i => ∃ k A M N : Nat, k ≤ 8 ∧ i = .int .i64 k ∧ a = .int .i64 (A : Int) ∧ m = .int .i64 (M : Int) ∧ n = .int .i64 (N : Int) ∧ A ≤ 8 ∧ M ≤ 8 ∧ N ≤ k ∧ Hid (ownTo gs k = (A, M, N))) (fun _ _ _ i => 8 - (intOf i).toNat)
  case atStart => exact ⟨0, 0, 0, 0, by decide, rfl, rfl, rfl, rfl, by decide, by decide, by decide, Lib.hid rfl⟩
  case round =>
    obtain ⟨k, A, M, N, hk, rfl, rfl, rfl, rfl, hA8, hM8, hN8, HK⟩ := hrel
    by_cases hk8 : k < 8
    · have hcell := HA.out.cells k hk8
      obtain ⟨x, ex⟩ : ∃ x, gs.getD k 0 = x := ⟨_, rfl⟩
      rw [ex] at hcell
      have HX := Lib.hid ex
      clear ex
      by_cases h0 : x = 0
      · have hx0 : ((x : Int) != 0) = false := by simp; omega
        by_cases hM : M < N + 1
        · have HT : Hid (ownTo gs (k + 1) = (k - N, N + 1, N + 1)) := Lib.hid (by rw [ownTo, HX.out, if_pos h0, HK.out]; simp only [if_pos hM])
          clear h0
          go_wp2_with fail
          go_round
          case rel => exact ⟨k + 1, k - N, N + 1, N + 1, by omega, by go_num, by congr 1; omega, by go_num, by go_num, by omega, by omega, by omega, HT⟩
          case measure => simp [intOf]; omega
        · have HT : Hid (ownTo gs (k + 1) = (A, M, N + 1)) := Lib.hid (by rw [ownTo, HX.out, if_pos h0, HK.out]; simp only [if_neg hM])
          clear h0
          go_wp2_with fail
          go_round
          case rel => exact ⟨k + 1, A, M, N + 1, by omega, by go_num, rfl, rfl, by go_num, by omega, by omega, by omega, HT⟩
          case measure => simp [intOf]; omega
      · have hx0 : ((x : Int) != 0) = true := by simp; omega
        have HT : Hid (ownTo gs (k + 1) = (A, M, 0)) := Lib.hid (by rw [ownTo, HX.out, if_neg h0, HK.out])
        clear h0
        go_wp2_with fail
        go_round
        case rel => exact ⟨k + 1, A, M, 0, by omega, by go_num, rfl, rfl, rfl, by omega, by omega, by omega, HT⟩
        case measure => simp [intOf]; omega
    · obtain rfl : k = 8 := by omega
      by_cases hM2 : M < 2
      · have HR : Hid (runB gs = (0, 0)) := Lib.hid (by rw [own_ret H8.out HK.out, if_pos hM2])
        go_wp2_with fail
        go_ret2
        exact ⟨run_ret (o := (0, 0)) HR.out.symm, hb⟩
      · have HR : Hid (runB gs = (A, M)) := Lib.hid (by rw [own_ret H8.out HK.out, if_neg hM2])
        go_wp2_with fail
        go_ret2
        exact ⟨run_ret (o := (A, M)) HR.out.symm, hb⟩

theorem eq8_mapped (x0 x1 x2 x3 x4 x5 x6 x7 : Nat) (W : World) : (Op.equalIn 10000 24 (.agg #[.int .u16 (x0 : Int), .int .u16 (x1 : Int), .int .u16 (x2 : Int), .int .u16 (x3 : Int), .int .u16 (x4 : Int), .int .u16 (x5 : Int), .int .u16 (x6 : Int), .int .u16 (x7 : Int)]) (.agg #[.int .u16 0, .int .u16 0, .int .u16 0, .int .u16 0, .int .u16 0, .int .u16 65535, .int .u16 (x6 : Int), .int .u16 (x7 : Int)])).run Tryd.prog W = .ok (mappedB [x0, x1, x2, x3, x4, x5, x6, x7]) W := by
  obtain ⟨i, hi⟩ : ∃ i, Tryd.prog.info? 23 = some i := ⟨_, rfl⟩
  have := run_eq_ints W (k := .u16) Tryd.underlying24 (by kernel_rfl) Tryd.underlying23 hi (by kernel_rfl) [(x0 : Int), x1, x2, x3, x4, x5, x6, x7] [(0 : Int), 0, 0, 0, 0, 65535, x6, x7] rfl rfl
  rw [show decide ([(x0 : Int), x1, x2, x3, x4, x5, x6, x7] = [(0 : Int), 0, 0, 0, 0, 65535, x6, x7]) = mappedB [x0, x1, x2, x3, x4, x5, x6, x7] by
    rw [Bool.eq_iff_iff]
    simp [mappedB, zer]
    omega] at this
  exact this
set_option maxHeartbeats 1000000 in
theorem mapped_any (gs : List Nat) (w : World) (h8 : gs.length = 8) (hlt : ∀ x ∈ gs, x < 65536) :
    Calls Tryd.prog 28 #[arr8 gs] w fun e w' => e = .returned (.bool (mappedB gs)) ∧ Below w.heap.size w w' := by
  obtain ⟨x0, x1, x2, x3, x4, x5, x6, x7, rfl⟩ := list8 gs h8
  have q := eq8_mapped x0 x1 x2 x3 x4 x5 x6 x7
  have hb : Below w.heap.size w (w.alloc (.cells #[.int .u16 (x0 : Int), .int .u16 (x1 : Int), .int .u16 (x2 : Int), .int .u16 (x3 : Int), .int .u16 (x4 : Int), .int .u16 (x5 : Int), .int .u16 (x6 : Int), .int .u16 (x7 : Int)] 24)) := (Below.refl _ _).alloc (Nat.le_refl _) _
  rw [arr8_eq]
  generalize mappedB [x0, x1, x2, x3, x4, x5, x6, x7] = m at *
  clear hlt h8
  go_enter Tryd.func28, Tryd.ntmps28
  go_wp2_with fail
  go_ret
  exact ⟨rfl, hb⟩

set_option maxRecDepth 100000 in
set_option maxHeartbeats 2000000 in
theorem printed_any (gs : List Nat) (F T : Nat) (w : World) (h8 : gs.length = 8) (hlt : ∀ x ∈ gs, x < 65536) (hF : F ≤ T) (hT : T ≤ 8) (hbru : BruIs w) :
    Calls Tryd.prog 30 #[arr8 gs, .int .i64 (F : Int), .int .i64 (T : Int)] w fun e w' => e = .returned (.string (rowS ((gs.drop F).take (T - F)))) ∧ Below w.heap.size w w' := by
  have H8 := Lib.hid h8
  have HLT := Lib.hid hlt
  obtain ⟨x0, x1, x2, x3, x4, x5, x6, x7, hgs⟩ := list8 gs h8
  have hA := Arr8.new w 24 x0 x1 x2 x3 x4 x5 x6 x7
  have hb : Below w.heap.size w (w.alloc (.cells #[.int .u16 (x0 : Int), .int .u16 (x1 : Int), .int .u16 (x2 : Int), .int .u16 (x3 : Int), .int .u16 (x4 : Int), .int .u16 (x5 : Int), .int .u16 (x6 : Int), .int .u16 (x7 : Int)] 24)) := (Below.refl _ _).alloc (Nat.le_refl _) _
  have HB := Lib.hid (hbru.below hb)
  rw [← hgs] at hA
  rw [show arr8 gs = .agg #[.int .u16 (x0 : Int), .int .u16 (x1 : Int), .int .u16 (x2 : Int), .int .u16 (x3 : Int), .int .u16 (x4 : Int), .int .u16 (x5 : Int), .int .u16 (x6 : Int), .int .u16 (x7 : Int)] by rw [hgs]; rfl]
  clear hgs hlt h8 hbru
  obtain ⟨L, hL⟩ : ∃ L, (gs.drop F).take (T - F) = L := ⟨_, rfl⟩
  have hLn : L.length = T - F := by rw [← hL]; simp [H8.out]; omega
  have hLt : ∀ x ∈ L, x < 65536 := fun x hx => HLT.out x (List.mem_of_mem_drop (List.mem_of_mem_take (by rw [hL]; exact hx)))
  rw [hL]
  have HL := Lib.hid hL
  have HLn := Lib.hid hLn
  have HLt := Lib.hid hLt
  clear hL hLn hLt
  obtain ⟨n, hn, en⟩ : ∃ n : Nat, T - F = n ∧ (T : Int) - (F : Int) = (n : Int) := ⟨_, rfl, by omega⟩
  have hnw : IntKind.i64.wrap (n : Int) = (n : Int) := by rw [IntKind.wrap_i64]; omega
  have hn8 : n ≤ 8 := by omega
  have hFn : F + n ≤ 8 := by omega
  rw [hn] at HLn
  clear hn
  go_enter Tryd.func30, Tryd.ntmps30
  go_wp2_with fail
  generalize w.alloc (.cells #[.int .u16 (x0 : Int), .int .u16 (x1 : Int), .int .u16 (x2 : Int), .int .u16 (x3 : Int), .int .u16 (x4 : Int), .int .u16 (x5 : Int), .int .u16 (x6 : Int), .int .u16 (x7 : Int)] 24) = W at *
  have HA := Lib.hid hA
  clear hA
  go_loopw [7, 12] (fun t i wr => ∃ k : Nat, k ≤ n ∧ i = .int .i64 k ∧ t = .string (joinTo (L.map gS) { data := #[58] } k) ∧ Below W.heap.size W wr) (fun _ i _ => n - (intOf i).toNat)
  case atStart => exact ⟨0, Nat.zero_le _, rfl, rfl, Below.refl _ _⟩
  case round =>
    obtain ⟨k, hk, rfl, rfl, hbel⟩ := hrel
    by_cases hkn : k < n
    · have hcell := (HA.out.below hbel).cells (F + k) (by omega)
      have hx : gs.getD (F + k) 0 < 65536 := by
        rw [List.getD_eq_getElem?_getD, List.getElem?_eq_getElem (by rw [H8.out]; omega)]
        exact HLT.out _ (List.getElem_mem _)
      have hLk : L.getD k 0 = gs.getD (F + k) 0 := by
        rw [← HL.out, List.getD_eq_getElem?_getD, List.getD_eq_getElem?_getD, List.getElem?_take, if_pos (by omega), List.getElem?_drop]
      obtain ⟨x, ex⟩ : ∃ x, gs.getD (F + k) 0 = x := ⟨_, rfl⟩
      rw [ex] at hcell hx hLk
      clear ex
      have hmap : (L.map gS).getD k { data := #[] } = gS x := by
        rw [List.getD_eq_getElem?_getD, List.getElem?_map, List.getElem?_eq_getElem (by rw [HLn.out]; exact hkn)]
        rw [List.getD_eq_getElem?_getD, List.getElem?_eq_getElem (by rw [HLn.out]; exact hkn)] at hLk
        rw [← hLk]
        rfl
      have hsz := joinTo_small L HLt.out k
      have hg4 := gS_size x hx
      have HJ : Hid (joinTo (L.map gS) { data := #[58] } (k + 1) = (if 0 < k then joinTo (L.map gS) { data := #[58] } k ++ { data := #[58] } else joinTo (L.map gS) { data := #[58] } k) ++ gS x) := Lib.hid (by rw [joinTo, hmap])
      clear hmap hLk
      have hFk : (F : Int) + (k : Int) < 8 := by omega
      have hbr := Lib.hid (HB.out.below hbel)
      generalize joinTo (L.map gS) { data := #[58] } k = J at *
      by_cases h0 : 0 < k
      · rw [if_pos h0] at HJ
        go_wp2_with fail
        refine (digits_any x _ hx hbr.out).mono ?_
        rintro e w2 ⟨rfl, hb2⟩
        generalize gS x = G at *
        go_wp2_with fail
        go_roundw
        case rel => exact ⟨k + 1, by omega, by go_num, by rw [HJ.out], chain hbel hb2⟩
        case measure => simp [intOf]; omega
      · rw [if_neg h0] at HJ
        have hk0 : ¬ (0 : Int) < (k : Int) := by omega
        go_wp2_with fail
        refine (digits_any x _ hx hbr.out).mono ?_
        rintro e w2 ⟨rfl, hb2⟩
        generalize gS x = G at *
        go_wp2_with fail
        go_roundw
        case rel => exact ⟨k + 1, by omega, by go_num, by rw [HJ.out], chain hbel hb2⟩
        case measure => simp [intOf]; omega
    · obtain rfl : k = n := by omega
      have HR : Hid (rowS L = joinTo (L.map gS) { data := #[58] } k) := Lib.hid (by unfold rowS; rw [HLn.out])
      go_wp2_with fail
      go_ret
      exact ⟨by rw [HR.out]; rfl, chain hb hbel⟩
end Go.Proofs.YtkdinhgflkfbkaaDoor

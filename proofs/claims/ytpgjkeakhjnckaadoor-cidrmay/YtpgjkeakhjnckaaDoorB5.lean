/- Texts that belong together, one behind the other: SixRun, SixPrint, SixBytesOwn, AddrFour, RefAddrUnmap, AddrMay, AddrMap, AddrUnmap, SixMath, RefAddrParse, SixTexts. -/
import Derived.Test.YtpgjkeakhjnckaaDoorB4
import Derived.Deep.RegionHeld3
import Derived.WalkSmall
import Derived.RegionTactic
import Derived.BigRegion
import Derived.Deep.Cut
/- Contracts of six.Run, six.mapped and six.printed. -/
namespace Go.Proofs.YtpgjkeakhjnckaaDoor
open Go.RowKit
set_option linter.unusedVariables false
set_option maxRecDepth 20000

/-- What the landed Run holds behind k groups: where the longest row begins, how long it is, how many zeros stand last. -/
def ownTo (gs : List Nat) : Nat → Nat × Nat × Nat
  | 0 => (0, 0, 0)
  | k + 1 => if gs.getD k 0 = 0 then (if (ownTo gs k).2.1 < (ownTo gs k).2.2 + 1 then (k - (ownTo gs k).2.2, (ownTo gs k).2.2 + 1, (ownTo gs k).2.2 + 1) else ((ownTo gs k).1, (ownTo gs k).2.1, (ownTo gs k).2.2 + 1)) else ((ownTo gs k).1, (ownTo gs k).2.1, 0)
def ownRun (gs : List Nat) : Nat × Nat := if (ownTo gs 8).2.1 < 2 then (0, 0) else ((ownTo gs 8).1, (ownTo gs 8).2.1)
theorem zl_congr {gs hs : List Nat} (h : ∀ i, gs.getD i 0 = 0 ↔ hs.getD i 0 = 0) : ∀ f i, zl gs f i = zl hs f i
  | 0, _ => rfl
  | f + 1, i => by
    rw [zl, zl, zl_congr h f (i + 1)]
    by_cases h0 : gs.getD i 0 = 0
    · rw [if_pos h0, if_pos ((h i).1 h0)]
    · rw [if_neg h0, if_neg (fun h1 => h0 ((h i).2 h1))]
theorem runTo_congr {gs hs : List Nat} (h : ∀ i, gs.getD i 0 = 0 ↔ hs.getD i 0 = 0) : ∀ k, runTo gs k = runTo hs k
  | 0 => rfl
  | k + 1 => by
    have e : zrun gs k = zrun hs k := zl_congr h _ _
    rw [runTo, runTo, runTo_congr h k, e]
theorem ownTo_congr {gs hs : List Nat} (h : ∀ i, gs.getD i 0 = 0 ↔ hs.getD i 0 = 0) : ∀ k, ownTo gs k = ownTo hs k
  | 0 => rfl
  | k + 1 => by
    rw [ownTo, ownTo, ownTo_congr h k]
    by_cases h0 : gs.getD k 0 = 0
    · rw [if_pos h0, if_pos ((h k).1 h0)]
    · rw [if_neg h0, if_neg (fun h1 => h0 ((h k).2 h1))]
def bit (b : Bool) : Nat := if b then 0 else 1
theorem run_bits : ∀ b0 b1 b2 b3 b4 b5 b6 b7 : Bool, ownRun [bit b0, bit b1, bit b2, bit b3, bit b4, bit b5, bit b6, bit b7] = runB [bit b0, bit b1, bit b2, bit b3, bit b4, bit b5, bit b6, bit b7] := by decide +kernel
theorem own_run (gs : List Nat) (h8 : gs.length = 8) : ownRun gs = runB gs := by
  obtain ⟨x0, x1, x2, x3, x4, x5, x6, x7, rfl⟩ := list8 gs h8
  have hb : ∀ x : Nat, x = 0 ↔ bit (decide (x = 0)) = 0 := by
    intro x
    unfold bit
    by_cases h : x = 0
    · simp [h]
    · simp [h]
  have h : ∀ i, [x0, x1, x2, x3, x4, x5, x6, x7].getD i 0 = 0 ↔ [bit (decide (x0 = 0)), bit (decide (x1 = 0)), bit (decide (x2 = 0)), bit (decide (x3 = 0)), bit (decide (x4 = 0)), bit (decide (x5 = 0)), bit (decide (x6 = 0)), bit (decide (x7 = 0))].getD i 0 = 0 := by
    intro i
    match i with
    | 0 => exact hb x0
    | 1 => exact hb x1
    | 2 => exact hb x2
    | 3 => exact hb x3
    | 4 => exact hb x4
    | 5 => exact hb x5
    | 6 => exact hb x6
    | 7 => exact hb x7
    | i + 8 => exact Iff.rfl
  unfold ownRun runB
  rw [ownTo_congr h, runTo_congr h]
  exact run_bits _ _ _ _ _ _ _ _
theorem own_ret {gs : List Nat} {A M N : Nat} (h8 : gs.length = 8) (h : ownTo gs 8 = (A, M, N)) : runB gs = if M < 2 then (0, 0) else (A, M) := by
  rw [← own_run gs h8]
  unfold ownRun
  rw [h]

set_option maxRecDepth 100000 in
set_option maxHeartbeats 2000000 in
theorem sixRun_any (gs : List Nat) (w : World) (h8 : gs.length = 8) (hlt : ∀ x ∈ gs, x < 65536) :
    Calls Tryd.prog 82 #[arr8 gs] w fun e w' => e = .returned (runRet (runB gs)) ∧ Below w.heap.size w w' := by
  have H8 := Lib.hid h8
  obtain ⟨x0, x1, x2, x3, x4, x5, x6, x7, hgs⟩ := list8 gs h8
  have hA := Arr8.new w 66 x0 x1 x2 x3 x4 x5 x6 x7
  have hb : Below w.heap.size w (w.alloc (.cells #[.int .u16 (x0 : Int), .int .u16 (x1 : Int), .int .u16 (x2 : Int), .int .u16 (x3 : Int), .int .u16 (x4 : Int), .int .u16 (x5 : Int), .int .u16 (x6 : Int), .int .u16 (x7 : Int)] 66)) := (Below.refl _ _).alloc (Nat.le_refl _) _
  rw [← hgs] at hA
  rw [show arr8 gs = .agg #[.int .u16 (x0 : Int), .int .u16 (x1 : Int), .int .u16 (x2 : Int), .int .u16 (x3 : Int), .int .u16 (x4 : Int), .int .u16 (x5 : Int), .int .u16 (x6 : Int), .int .u16 (x7 : Int)] by rw [hgs]; rfl]
  clear hgs hlt h8
  go_enter Tryd.func82, Tryd.ntmps82
  go_wp2_with fail
  generalize w.alloc (.cells #[.int .u16 (x0 : Int), .int .u16 (x1 : Int), .int .u16 (x2 : Int), .int .u16 (x3 : Int), .int .u16 (x4 : Int), .int .u16 (x5 : Int), .int .u16 (x6 : Int), .int .u16 (x7 : Int)] 66) = W at *
  have HA := Lib.hid hA
  clear hA
  go_loop [4, 5, 6, 8] (fun a m n i => ∃ k A M N : Nat, k ≤ 8 ∧ i = .int .i64 k ∧ a = .int .i64 (A : Int) ∧ m = .int .i64 (M : Int) ∧ n = .int .i64 (N : Int) ∧ A ≤ 8 ∧ M ≤ 8 ∧ N ≤ k ∧ Hid (ownTo gs k = (A, M, N))) (fun _ _ _ i => 8 - (intOf i).toNat)
  case atStart => exact ⟨0, 0, 0, 0, by decide, rfl, rfl, rfl, rfl, by decide, by decide, by decide, Lib.hid rfl⟩
  case round =>
    obtain ⟨k, A, M, N, hk, rfl, rfl, rfl, rfl, hA8, hM8, hN8, HK⟩ := hrel
    by_cases hk8 : k < 8
    · have hcell := HA.out.cells k hk8
      obtain ⟨x, ex⟩ : ∃ x, gs.getD k 0 = x := ⟨_, rfl⟩
      rw [ex] at hcell
      have HX := Lib.hid ex
      clear ex
      by_cases h0 : x = 0
      · have hx0 : ((x : Int) != 0) = false := by simp; omega
        by_cases hM : M < N + 1
        · have HT : Hid (ownTo gs (k + 1) = (k - N, N + 1, N + 1)) := Lib.hid (by rw [ownTo, HX.out, if_pos h0, HK.out]; simp only [if_pos hM])
          clear h0
          go_wp2_with fail
          go_round
          case rel => exact ⟨k + 1, k - N, N + 1, N + 1, by omega, by go_num, by congr 1; omega, by go_num, by go_num, by omega, by omega, by omega, HT⟩
          case measure => simp [intOf]; omega
        · have HT : Hid (ownTo gs (k + 1) = (A, M, N + 1)) := Lib.hid (by rw [ownTo, HX.out, if_pos h0, HK.out]; simp only [if_neg hM])
          clear h0
          go_wp2_with fail
          go_round
          case rel => exact ⟨k + 1, A, M, N + 1, by omega, by go_num, rfl, rfl, by go_num, by omega, by omega, by omega, HT⟩
          case measure => simp [intOf]; omega
      · have hx0 : ((x : Int) != 0) = true := by simp; omega
        have HT : Hid (ownTo gs (k + 1) = (A, M, 0)) := Lib.hid (by rw [ownTo, HX.out, if_neg h0, HK.out])
        clear h0
        go_wp2_with fail
        go_round
        case rel => exact ⟨k + 1, A, M, 0, by omega, by go_num, rfl, rfl, rfl, by omega, by omega, by omega, HT⟩
        case measure => simp [intOf]; omega
    · obtain rfl : k = 8 := by omega
      by_cases hM2 : M < 2
      · have HR : Hid (runB gs = (0, 0)) := Lib.hid (by rw [own_ret H8.out HK.out, if_pos hM2])
        go_wp2_with fail
        go_ret2
        exact ⟨run_ret (o := (0, 0)) HR.out.symm, hb⟩
      · have HR : Hid (runB gs = (A, M)) := Lib.hid (by rw [own_ret H8.out HK.out, if_neg hM2])
        go_wp2_with fail
        go_ret2
        exact ⟨run_ret (o := (A, M)) HR.out.symm, hb⟩

theorem eq8_mapped (x0 x1 x2 x3 x4 x5 x6 x7 : Nat) (W : World) : (Op.equalIn 10000 66 (.agg #[.int .u16 (x0 : Int), .int .u16 (x1 : Int), .int .u16 (x2 : Int), .int .u16 (x3 : Int), .int .u16 (x4 : Int), .int .u16 (x5 : Int), .int .u16 (x6 : Int), .int .u16 (x7 : Int)]) (.agg #[.int .u16 0, .int .u16 0, .int .u16 0, .int .u16 0, .int .u16 0, .int .u16 65535, .int .u16 (x6 : Int), .int .u16 (x7 : Int)])).run Tryd.prog W = .ok (mappedB [x0, x1, x2, x3, x4, x5, x6, x7]) W := by
  obtain ⟨i, hi⟩ : ∃ i, Tryd.prog.info? 65 = some i := ⟨_, rfl⟩
  have := run_eq_ints W (k := .u16) Tryd.underlying66 (by kernel_rfl) Tryd.underlying65 hi (by kernel_rfl) [(x0 : Int), x1, x2, x3, x4, x5, x6, x7] [(0 : Int), 0, 0, 0, 0, 65535, x6, x7] rfl rfl
  rw [show decide ([(x0 : Int), x1, x2, x3, x4, x5, x6, x7] = [(0 : Int), 0, 0, 0, 0, 65535, x6, x7]) = mappedB [x0, x1, x2, x3, x4, x5, x6, x7] by
    rw [Bool.eq_iff_iff]
    simp [mappedB, zer]
    omega] at this
  exact this
set_option maxHeartbeats 1000000 in
theorem mapped_any (gs : List Nat) (w : World) (h8 : gs.length = 8) (hlt : ∀ x ∈ gs, x < 65536) :
    Calls Tryd.prog 81 #[arr8 gs] w fun e w' => e = .returned (.bool (mappedB gs)) ∧ Below w.heap.size w w' := by
  obtain ⟨x0, x1, x2, x3, x4, x5, x6, x7, rfl⟩ := list8 gs h8
  have q := eq8_mapped x0 x1 x2 x3 x4 x5 x6 x7
  have hb : Below w.heap.size w (w.alloc (.cells #[.int .u16 (x0 : Int), .int .u16 (x1 : Int), .int .u16 (x2 : Int), .int .u16 (x3 : Int), .int .u16 (x4 : Int), .int .u16 (x5 : Int), .int .u16 (x6 : Int), .int .u16 (x7 : Int)] 66)) := (Below.refl _ _).alloc (Nat.le_refl _) _
  rw [arr8_eq]
  generalize mappedB [x0, x1, x2, x3, x4, x5, x6, x7] = m at *
  clear hlt h8
  go_enter Tryd.func81, Tryd.ntmps81
  go_wp2_with fail
  go_ret
  exact ⟨rfl, hb⟩

set_option maxRecDepth 100000 in
set_option maxHeartbeats 2000000 in
theorem printed_any (gs : List Nat) (F T : Nat) (w : World) (h8 : gs.length = 8) (hlt : ∀ x ∈ gs, x < 65536) (hF : F ≤ T) (hT : T ≤ 8) (hbru : BruIs w) :
    Calls Tryd.prog 83 #[arr8 gs, .int .i64 (F : Int), .int .i64 (T : Int)] w fun e w' => e = .returned (.string (rowS ((gs.drop F).take (T - F)))) ∧ Below w.heap.size w w' := by
  have H8 := Lib.hid h8
  have HLT := Lib.hid hlt
  obtain ⟨x0, x1, x2, x3, x4, x5, x6, x7, hgs⟩ := list8 gs h8
  have hA := Arr8.new w 66 x0 x1 x2 x3 x4 x5 x6 x7
  have hb : Below w.heap.size w (w.alloc (.cells #[.int .u16 (x0 : Int), .int .u16 (x1 : Int), .int .u16 (x2 : Int), .int .u16 (x3 : Int), .int .u16 (x4 : Int), .int .u16 (x5 : Int), .int .u16 (x6 : Int), .int .u16 (x7 : Int)] 66)) := (Below.refl _ _).alloc (Nat.le_refl _) _
  have HB := Lib.hid (hbru.below hb)
  rw [← hgs] at hA
  rw [show arr8 gs = .agg #[.int .u16 (x0 : Int), .int .u16 (x1 : Int), .int .u16 (x2 : Int), .int .u16 (x3 : Int), .int .u16 (x4 : Int), .int .u16 (x5 : Int), .int .u16 (x6 : Int), .int .u16 (x7 : Int)] by rw [hgs]; rfl]
  clear hgs hlt h8 hbru
  obtain ⟨L, hL⟩ : ∃ L, (gs.drop F).take (T - F) = L := ⟨_, rfl⟩
  have hLn : L.length = T - F := by rw [← hL]; simp [H8.out]; omega
  have hLt : ∀ x ∈ L, x < 65536 := fun x hx => HLT.out x (List.mem_of_mem_drop (List.mem_of_mem_take (by rw [hL]; exact hx)))
  rw [hL]
  have HL := Lib.hid hL
  have HLn := Lib.hid hLn
  have HLt := Lib.hid hLt
  clear hL hLn hLt
  obtain ⟨n, hn, en⟩ : ∃ n : Nat, T - F = n ∧ (T : Int) - (F : Int) = (n : Int) := ⟨_, rfl, by omega⟩
  have hnw : IntKind.i64.wrap (n : Int) = (n : Int) := by rw [IntKind.wrap_i64]; omega
  have hn8 : n ≤ 8 := by omega
  have hFn : F + n ≤ 8 := by omega
  rw [hn] at HLn
  clear hn
  go_enter Tryd.func83, Tryd.ntmps83
  go_wp2_with fail
  generalize w.alloc (.cells #[.int .u16 (x0 : Int), .int .u16 (x1 : Int), .int .u16 (x2 : Int), .int .u16 (x3 : Int), .int .u16 (x4 : Int), .int .u16 (x5 : Int), .int .u16 (x6 : Int), .int .u16 (x7 : Int)] 66) = W at *
  have HA := Lib.hid hA
  clear hA
  go_loopw [7, 12] (fun t i wr => ∃ k : Nat, k ≤ n ∧ i = .int .i64 k ∧ t = .string (joinTo (L.map gS) { data := #[58] } k) ∧ Below W.heap.size W wr) (fun _ i _ => n - (intOf i).toNat)
  case atStart => exact ⟨0, Nat.zero_le _, rfl, rfl, Below.refl _ _⟩
  case round =>
    obtain ⟨k, hk, rfl, rfl, hbel⟩ := hrel
    by_cases hkn : k < n
    · have hcell := (HA.out.below hbel).cells (F + k) (by omega)
      have hx : gs.getD (F + k) 0 < 65536 := by
        rw [List.getD_eq_getElem?_getD, List.getElem?_eq_getElem (by rw [H8.out]; omega)]
        exact HLT.out _ (List.getElem_mem _)
      have hLk : L.getD k 0 = gs.getD (F + k) 0 := by
        rw [← HL.out, List.getD_eq_getElem?_getD, List.getD_eq_getElem?_getD, List.getElem?_take, if_pos (by omega), List.getElem?_drop]
      obtain ⟨x, ex⟩ : ∃ x, gs.getD (F + k) 0 = x := ⟨_, rfl⟩
      rw [ex] at hcell hx hLk
      clear ex
      have hmap : (L.map gS).getD k { data := #[] } = gS x := by
        rw [List.getD_eq_getElem?_getD, List.getElem?_map, List.getElem?_eq_getElem (by rw [HLn.out]; exact hkn)]
        rw [List.getD_eq_getElem?_getD, List.getElem?_eq_getElem (by rw [HLn.out]; exact hkn)] at hLk
        rw [← hLk]
        rfl
      have hsz := joinTo_small L HLt.out k
      have hg4 := gS_size x hx
      have HJ : Hid (joinTo (L.map gS) { data := #[58] } (k + 1) = (if 0 < k then joinTo (L.map gS) { data := #[58] } k ++ { data := #[58] } else joinTo (L.map gS) { data := #[58] } k) ++ gS x) := Lib.hid (by rw [joinTo, hmap])
      clear hmap hLk
      have hFk : (F : Int) + (k : Int) < 8 := by omega
      have hbr := Lib.hid (HB.out.below hbel)
      generalize joinTo (L.map gS) { data := #[58] } k = J at *
      by_cases h0 : 0 < k
      · rw [if_pos h0] at HJ
        go_wp2_with fail
        refine (digits_any x _ hx hbr.out).mono ?_
        rintro e w2 ⟨rfl, hb2⟩
        generalize gS x = G at *
        go_wp2_with fail
        go_roundw
        case rel => exact ⟨k + 1, by omega, by go_num, by rw [HJ.out], chain hbel hb2⟩
        case measure => simp [intOf]; omega
      · rw [if_neg h0] at HJ
        have hk0 : ¬ (0 : Int) < (k : Int) := by omega
        go_wp2_with fail
        refine (digits_any x _ hx hbr.out).mono ?_
        rintro e w2 ⟨rfl, hb2⟩
        generalize gS x = G at *
        go_wp2_with fail
        go_roundw
        case rel => exact ⟨k + 1, by omega, by go_num, by rw [HJ.out], chain hbel hb2⟩
        case measure => simp [intOf]; omega
    · obtain rfl : k = n := by omega
      have HR : Hid (rowS L = joinTo (L.map gS) { data := #[58] } k) := Lib.hid (by unfold rowS; rw [HLn.out])
      go_wp2_with fail
      go_ret
      exact ⟨by rw [HR.out]; rfl, chain hb hbel⟩
end Go.Proofs.YtpgjkeakhjnckaaDoor
/- The contract of six.Print. -/
namespace Go.Proofs.YtpgjkeakhjnckaaDoor
open Go.RowKit
set_option linter.unusedVariables false
set_option maxRecDepth 20000

/-- What the walks ask of the library's own variables: the table of powers of ten, 16's zeros, some number at MaxLen. -/
structure Tabs (w : World) : Prop where
  pow : Lib.TabIs Tryd.prog w "internal/strconv.uint64pow10" .u64 Lib.pow10Tab
  bru : BruIs w
  max : ∃ m, w.cell? ⟨0, 0, none⟩ = some (.int .i64 m)
theorem gPow10 : Tryd.prog.globalNamed "internal/strconv.uint64pow10" = some 1 := by kernel_rfl
theorem cell_lt {w : World} {g o : Nat} {v : Value} (h : w.cell? ⟨g, o, none⟩ = some v) : g < w.heap.size := by
  rcases Nat.lt_or_ge g w.heap.size with h2 | h2
  · exact h2
  · simp [World.cell?, Array.getElem?_eq_none h2] at h
theorem Tabs.below {w w' : World} (h : Tabs w) (hb : Below w.heap.size w w') : Tabs w' := by
  refine ⟨?_, h.bru.below hb, ?_⟩
  · have hc := h.pow.cell gPow10 0 (by rw [Lib.pow10Tab_length]; decide)
    exact var?_below hb gPow10 (cell_lt hc) h.pow
  · obtain ⟨m, hm⟩ := h.max
    exact ⟨m, by rw [hb.cell (p := ⟨0, 0, none⟩) (cell_lt hm)]; exact hm⟩

/-- What a part of the groups is printed as. -/
def PartFact (gs : List Nat) (f t : Int) (X : ByteArray) : Prop := ∃ F T : Nat, f = (F : Int) ∧ t = (T : Int) ∧ gs.length = 8 ∧ (∀ x ∈ gs, x < 65536) ∧ F ≤ T ∧ T ≤ 8 ∧ rowS ((gs.drop F).take (T - F)) = X
theorem part_held {gs hs : List Nat} {B : Nat} (v : Value) (f t : Int) (X : ByteArray) (W w : World) (hv : Hid (arr8 gs = v)) (h : Hid (PartFact gs f t X)) (hA : Hid (Tabs w ∧ Below W.heap.size W w ∧ Arr8 w B hs)) :
    Calls Tryd.prog 83 #[v, .int .i64 f, .int .i64 t] w fun e w' => e = .returned (.string X) ∧ Hid (Tabs w' ∧ Below W.heap.size W w' ∧ Arr8 w' B hs) := by
  obtain rfl := hv.out
  obtain ⟨F, T, rfl, rfl, h1, h2, h3, h4, rfl⟩ := h.out
  refine (printed_any gs F T w h1 h2 h3 h4 hA.out.1.bru).mono ?_
  rintro e w' ⟨rfl, hb⟩
  exact ⟨rfl, Lib.hid ⟨hA.out.1.below hb, chain hA.out.2.1 hb, hA.out.2.2.below hb⟩⟩

set_option maxRecDepth 100000 in
set_option maxHeartbeats 4000000 in
theorem sixPrint_any (gs : List Nat) (w : World) (h8 : gs.length = 8) (hlt : ∀ x ∈ gs, x < 65536) (ht : Tabs w) :
    Calls Tryd.prog 62 #[arr8 gs] w fun e w' => e = .returned (.string (printB gs)) ∧ Below w.heap.size w w' := by
  have hlt2 := hlt
  obtain ⟨x0, x1, x2, x3, x4, x5, x6, x7, hgs⟩ := list8 gs h8
  have hA := Arr8.new w 66 x0 x1 x2 x3 x4 x5 x6 x7
  have hb : Below w.heap.size w (w.alloc (.cells #[.int .u16 (x0 : Int), .int .u16 (x1 : Int), .int .u16 (x2 : Int), .int .u16 (x3 : Int), .int .u16 (x4 : Int), .int .u16 (x5 : Int), .int .u16 (x6 : Int), .int .u16 (x7 : Int)] 66)) := (Below.refl _ _).alloc (Nat.le_refl _) _
  have ha : arr8 gs = .agg #[.int .u16 (x0 : Int), .int .u16 (x1 : Int), .int .u16 (x2 : Int), .int .u16 (x3 : Int), .int .u16 (x4 : Int), .int .u16 (x5 : Int), .int .u16 (x6 : Int), .int .u16 (x7 : Int)] := by rw [hgs]; rfl
  have HT := Lib.hid ht
  have HM := Lib.hid (fun w => mapped_any gs w h8 hlt)
  have HRn := Lib.hid (fun w => sixRun_any gs w h8 hlt)
  have HV := Lib.hid ha
  rw [ha] at HM HRn
  rw [ha]
  go_enter Tryd.func62, Tryd.ntmps62
  go_wp2_with fail
  generalize w.alloc (.cells #[.int .u16 (x0 : Int), .int .u16 (x1 : Int), .int .u16 (x2 : Int), .int .u16 (x3 : Int), .int .u16 (x4 : Int), .int .u16 (x5 : Int), .int .u16 (x6 : Int), .int .u16 (x7 : Int)] 66) = W at *
  refine (HM.out _).mono ?_
  rintro e w1 ⟨rfl, hb1⟩
  have hA1 := hA.below hb1
  obtain ⟨c0, c1, c2, c3, c4, c5, c6, c7⟩ := hA1.all
  have HA := Lib.hid hA1
  clear hA hA1
  have hx6 : x6 < 65536 := hlt x6 (by rw [hgs]; simp)
  have hx7 : x7 < 65536 := hlt x7 (by rw [hgs]; simp)
  have HG := Lib.hid hgs
  have HLT := Lib.hid hlt
  have H8 := Lib.hid h8
  have b1 := chain hb hb1
  clear hlt hlt2 hgs h8 ha ht
  cases hm : mappedB gs with
  | true =>
    have HP : Hid (printB gs = ofL [58, 58, 102, 102, 102, 102, 58] ++ text4 (x6 / 256) (x6 % 256) (x7 / 256) (x7 % 256)) := Lib.hid (by unfold printB; rw [hm, if_pos rfl, HG.out]; rfl)
    obtain ⟨N, hN, eN⟩ : ∃ N : Nat, N = num4 (x6 / 256) (x6 % 256) (x7 / 256) (x7 % 256) ∧ (x6 : Int) * 65536 + (x7 : Int) = (N : Int) := ⟨_, rfl, by unfold num4; omega⟩
    have hNl : N ≤ 4294967295 := by omega
    have q1 : IntKind.u32.wrap ((x6 : Int) * 65536) = (x6 : Int) * 65536 := by rw [IntKind.wrap_u32]; omega
    have q2 : bits .or .u32 ((x6 : Int) * 65536) (x7 : Int) = (N : Int) := by
      rw [bits_join .u32 32 (by decide) (fun n h0 h1 => by rw [IntKind.wrap_u32]; omega) 16 ((x6 : Int) * 65536) x7 (by omega) (by omega) (by omega) (by omega) (by omega) (by omega)]
      omega
    have HC := Lib.hid (fun w h => print_any (x6 / 256) (x6 % 256) (x7 / 256) (x7 % 256) N w (by omega) (by omega) (by omega) (by omega) hN h)
    have hz := text4_size (x6 / 256) (x6 % 256) (x7 / 256) (x7 % 256) (by omega) (by omega) (by omega) (by omega)
    generalize text4 (x6 / 256) (x6 % 256) (x7 / 256) (x7 % 256) = T at *
    clear hm hN
    go_wp2_with fail
    refine (HC.out _ (fun w' hb' => (HT.out.below (chain b1 hb')).pow)).mono ?_
    rintro e w2 ⟨rfl, hb2⟩
    go_wp2_with fail
    go_ret
    exact ⟨str_ret (by rw [HP.out]; rfl), chain b1 hb2⟩
  | false =>
    have HM0 := Lib.hid hm
    clear hm
    have hrl := runTo_le gs 8 (Nat.le_refl _)
    obtain ⟨⟨A, M⟩, hAM⟩ : ∃ p, runB gs = p := ⟨_, rfl⟩
    rw [hAM] at HRn
    have hAM2 : A + M ≤ 8 := by
      have e : runTo gs 8 = (A, M) := hAM
      rw [e] at hrl
      exact hrl
    have HAM := Lib.hid hAM
    clear hrl hAM
    go_wp2_with fail
    refine (HRn.out _).mono ?_
    rintro e w2 ⟨rfl, hb2⟩
    have hA2 := HA.out.below hb2
    have b2 := chain b1 hb2
    have HT2 := Lib.hid (HT.out.below b2)
    clear c0 c1 c2 c3 c4 c5 c6 c7 HA
    obtain ⟨c0, c1, c2, c3, c4, c5, c6, c7⟩ := hA2.all
    have HA2 := Lib.hid hA2
    clear hA2
    unfold runRet
    by_cases hM : M = 0
    · have HP : Hid (printB gs = rowS ((gs.drop 0).take (8 - 0))) := Lib.hid (by unfold printB; rw [HM0.out, HAM.out]; simp [hM]; rw [List.take_of_length_le (by rw [H8.out]; exact Nat.le_refl _)])
      have hMb : ((M : Int) == 0) = true := by simp; omega
      clear hM
      go_wp2_with fail
      have HQ := Lib.hid (printed_any gs 0 8 w2 H8.out HLT.out (by decide) (by decide) HT2.out.bru)
      rw [HV.out] at HQ
      refine HQ.out.mono ?_
      rintro e w3 ⟨rfl, hb3⟩
      go_wp2_with fail
      go_ret
      exact ⟨by rw [HP.out]; rfl, chain b2 hb3⟩
    · have HP : Hid (printB gs = rowS (gs.take A) ++ ofL [58, 58] ++ rowS (gs.drop (A + M))) := Lib.hid (by unfold printB; rw [HM0.out, HAM.out]; simp [hM])
      have hMb : ((M : Int) == 0) = false := by simp; omega
      obtain ⟨K, hK, eK⟩ : ∃ K : Nat, A + M = K ∧ (A : Int) + (M : Int) = (K : Int) := ⟨_, rfl, by omega⟩
      have hK8 : K ≤ 8 := by omega
      have hA8 : A ≤ 8 := by omega
      rw [hK] at HP
      clear hM hK hAM2
      have kw : IntKind.i64.wrap (K : Int) = (K : Int) := by rw [IntKind.wrap_i64]; omega
      obtain ⟨X, hX⟩ : ∃ X, rowS (gs.take A) = X := ⟨_, rfl⟩
      obtain ⟨Y, hY⟩ : ∃ Y, rowS (gs.drop K) = Y := ⟨_, rfl⟩
      have hXz : X.size ≤ 40 := by
        rw [← hX]
        have h1 := rowS_small (gs.take A) (fun x hx => HLT.out x (List.mem_of_mem_take hx))
        have h2 : (gs.take A).length ≤ 8 := by simp; omega
        omega
      have hYz : Y.size ≤ 40 := by
        rw [← hY]
        have h1 := rowS_small (gs.drop K) (fun x hx => HLT.out x (List.mem_of_mem_drop hx))
        have h2 : (gs.drop K).length ≤ 8 := by have := H8.out; simp; omega
        omega
      rw [hX, hY] at HP
      have F1 : Hid (PartFact gs 0 (A : Int) X) := Lib.hid ⟨0, A, rfl, rfl, H8.out, HLT.out, Nat.zero_le _, hA8, by rw [List.drop_zero, Nat.sub_zero]; exact hX⟩
      have F2 : Hid (PartFact gs (K : Int) 8 Y) := Lib.hid ⟨K, 8, rfl, rfl, H8.out, HLT.out, hK8, Nat.le_refl _, by rw [List.take_of_length_le (by have := H8.out; simp; omega)]; exact hY⟩
      have hA3 : Hid (Tabs w2.drew ∧ Below w.heap.size w w2.drew ∧ Arr8 w2.drew w.heap.size [x0, x1, x2, x3, x4, x5, x6, x7]) := Lib.hid ⟨HT2.out.below (Below.refl _ _).drew, b2.drew, HA2.out.below (Below.refl _ _).drew⟩
      clear hX hY
      go_wp2_with fail
      go_region_with (first
        | (go_at_call 83; refine (part_held (gs := gs) (hs := [x0, x1, x2, x3, x4, x5, x6, x7]) (B := w.heap.size) _ _ _ _ _ _ (by with_reducible assumption) (by with_reducible assumption) (by with_reducible assumption)).mono ?_; rintro e w3 ⟨rfl, hA4⟩; obtain ⟨k0, k1, k2, k3, k4, k5, k6, k7⟩ := hA4.out.2.2.all))
      all_goals
        go_wp2_with fail
        go_ret
        exact ⟨str_ret (by rw [HP.out]; rfl), hA4.out.2.1⟩
end Go.Proofs.YtpgjkeakhjnckaaDoor
/- Contracts of six.Bytes and six.Of. -/
namespace Go.Proofs.YtpgjkeakhjnckaaDoor
open Go.RowKit
set_option linter.unusedVariables false
set_option maxRecDepth 20000

/-- Sixteen bytes, stored one by one. -/
def store16 (W : World) (R : Nat) (y0 y1 y2 y3 y4 y5 y6 y7 y8 y9 y10 y11 y12 y13 y14 y15 : Nat) : World := ((((((((((((((((W.setCell ⟨R, 0, none⟩ (.int .u8 ((y0 : Nat) : Int))).setCell ⟨R, 1, none⟩ (.int .u8 ((y1 : Nat) : Int))).setCell ⟨R, 2, none⟩ (.int .u8 ((y2 : Nat) : Int))).setCell ⟨R, 3, none⟩ (.int .u8 ((y3 : Nat) : Int))).setCell ⟨R, 4, none⟩ (.int .u8 ((y4 : Nat) : Int))).setCell ⟨R, 5, none⟩ (.int .u8 ((y5 : Nat) : Int))).setCell ⟨R, 6, none⟩ (.int .u8 ((y6 : Nat) : Int))).setCell ⟨R, 7, none⟩ (.int .u8 ((y7 : Nat) : Int))).setCell ⟨R, 8, none⟩ (.int .u8 ((y8 : Nat) : Int))).setCell ⟨R, 9, none⟩ (.int .u8 ((y9 : Nat) : Int))).setCell ⟨R, 10, none⟩ (.int .u8 ((y10 : Nat) : Int))).setCell ⟨R, 11, none⟩ (.int .u8 ((y11 : Nat) : Int))).setCell ⟨R, 12, none⟩ (.int .u8 ((y12 : Nat) : Int))).setCell ⟨R, 13, none⟩ (.int .u8 ((y13 : Nat) : Int))).setCell ⟨R, 14, none⟩ (.int .u8 ((y14 : Nat) : Int))).setCell ⟨R, 15, none⟩ (.int .u8 ((y15 : Nat) : Int)))
theorem store16_arr {W : World} {R : Nat} {l : List Nat} (y0 y1 y2 y3 y4 y5 y6 y7 y8 y9 y10 y11 y12 y13 y14 y15 : Nat) (h : ArrI .u8 16 W R l) : ArrI .u8 16 (store16 W R y0 y1 y2 y3 y4 y5 y6 y7 y8 y9 y10 y11 y12 y13 y14 y15) R [y0, y1, y2, y3, y4, y5, y6, y7, y8, y9, y10, y11, y12, y13, y14, y15] := by
  obtain ⟨z0, z1, z2, z3, z4, z5, z6, z7, z8, z9, z10, z11, z12, z13, z14, z15, rfl⟩ := list16 l h.len
  exact ((((((((((((((((h.set (i := 0) (by decide) y0).set (i := 1) (by decide) y1).set (i := 2) (by decide) y2).set (i := 3) (by decide) y3).set (i := 4) (by decide) y4).set (i := 5) (by decide) y5).set (i := 6) (by decide) y6).set (i := 7) (by decide) y7).set (i := 8) (by decide) y8).set (i := 9) (by decide) y9).set (i := 10) (by decide) y10).set (i := 11) (by decide) y11).set (i := 12) (by decide) y12).set (i := 13) (by decide) y13).set (i := 14) (by decide) y14).set (i := 15) (by decide) y15)
theorem store16_below {w W : World} {R : Nat} (y0 y1 y2 y3 y4 y5 y6 y7 y8 y9 y10 y11 y12 y13 y14 y15 : Nat) (h : Below w.heap.size w W) (hR : w.heap.size ≤ R) : Below w.heap.size w (store16 W R y0 y1 y2 y3 y4 y5 y6 y7 y8 y9 y10 y11 y12 y13 y14 y15) :=
  ((((((((((((((((h.setCell (p := ⟨R, 0, none⟩) hR _).setCell (p := ⟨R, 1, none⟩) hR _).setCell (p := ⟨R, 2, none⟩) hR _).setCell (p := ⟨R, 3, none⟩) hR _).setCell (p := ⟨R, 4, none⟩) hR _).setCell (p := ⟨R, 5, none⟩) hR _).setCell (p := ⟨R, 6, none⟩) hR _).setCell (p := ⟨R, 7, none⟩) hR _).setCell (p := ⟨R, 8, none⟩) hR _).setCell (p := ⟨R, 9, none⟩) hR _).setCell (p := ⟨R, 10, none⟩) hR _).setCell (p := ⟨R, 11, none⟩) hR _).setCell (p := ⟨R, 12, none⟩) hR _).setCell (p := ⟨R, 13, none⟩) hR _).setCell (p := ⟨R, 14, none⟩) hR _).setCell (p := ⟨R, 15, none⟩) hR _)
theorem ArrI.all16 {w : World} {B : Nat} {y0 y1 y2 y3 y4 y5 y6 y7 y8 y9 y10 y11 y12 y13 y14 y15 : Nat} (h : ArrI .u8 16 w B [y0, y1, y2, y3, y4, y5, y6, y7, y8, y9, y10, y11, y12, y13, y14, y15]) :
    w.cell? ⟨B, 0, none⟩ = some (.int .u8 (y0 : Int)) ∧ w.cell? ⟨B, 1, none⟩ = some (.int .u8 (y1 : Int)) ∧ w.cell? ⟨B, 2, none⟩ = some (.int .u8 (y2 : Int)) ∧ w.cell? ⟨B, 3, none⟩ = some (.int .u8 (y3 : Int)) ∧ w.cell? ⟨B, 4, none⟩ = some (.int .u8 (y4 : Int)) ∧ w.cell? ⟨B, 5, none⟩ = some (.int .u8 (y5 : Int)) ∧ w.cell? ⟨B, 6, none⟩ = some (.int .u8 (y6 : Int)) ∧ w.cell? ⟨B, 7, none⟩ = some (.int .u8 (y7 : Int)) ∧ w.cell? ⟨B, 8, none⟩ = some (.int .u8 (y8 : Int)) ∧ w.cell? ⟨B, 9, none⟩ = some (.int .u8 (y9 : Int)) ∧ w.cell? ⟨B, 10, none⟩ = some (.int .u8 (y10 : Int)) ∧ w.cell? ⟨B, 11, none⟩ = some (.int .u8 (y11 : Int)) ∧ w.cell? ⟨B, 12, none⟩ = some (.int .u8 (y12 : Int)) ∧ w.cell? ⟨B, 13, none⟩ = some (.int .u8 (y13 : Int)) ∧ w.cell? ⟨B, 14, none⟩ = some (.int .u8 (y14 : Int)) ∧ w.cell? ⟨B, 15, none⟩ = some (.int .u8 (y15 : Int)) :=
  ⟨h.cells 0 (by decide), h.cells 1 (by decide), h.cells 2 (by decide), h.cells 3 (by decide), h.cells 4 (by decide), h.cells 5 (by decide), h.cells 6 (by decide), h.cells 7 (by decide), h.cells 8 (by decide), h.cells 9 (by decide), h.cells 10 (by decide), h.cells 11 (by decide), h.cells 12 (by decide), h.cells 13 (by decide), h.cells 14 (by decide), h.cells 15 (by decide)⟩
theorem ArrI.lives16 {w : World} {B : Nat} {l : List Nat} (h : ArrI .u8 16 w B l) :
    w.frozen? ⟨B, 0, none⟩ = false ∧ w.frozen? ⟨B, 1, none⟩ = false ∧ w.frozen? ⟨B, 2, none⟩ = false ∧ w.frozen? ⟨B, 3, none⟩ = false ∧ w.frozen? ⟨B, 4, none⟩ = false ∧ w.frozen? ⟨B, 5, none⟩ = false ∧ w.frozen? ⟨B, 6, none⟩ = false ∧ w.frozen? ⟨B, 7, none⟩ = false ∧ w.frozen? ⟨B, 8, none⟩ = false ∧ w.frozen? ⟨B, 9, none⟩ = false ∧ w.frozen? ⟨B, 10, none⟩ = false ∧ w.frozen? ⟨B, 11, none⟩ = false ∧ w.frozen? ⟨B, 12, none⟩ = false ∧ w.frozen? ⟨B, 13, none⟩ = false ∧ w.frozen? ⟨B, 14, none⟩ = false ∧ w.frozen? ⟨B, 15, none⟩ = false :=
  ⟨h.live 0 (by decide), h.live 1 (by decide), h.live 2 (by decide), h.live 3 (by decide), h.live 4 (by decide), h.live 5 (by decide), h.live 6 (by decide), h.live 7 (by decide), h.live 8 (by decide), h.live 9 (by decide), h.live 10 (by decide), h.live 11 (by decide), h.live 12 (by decide), h.live 13 (by decide), h.live 14 (by decide), h.live 15 (by decide)⟩
theorem zeros16 : (#[.int .u8 0, .int .u8 0, .int .u8 0, .int .u8 0, .int .u8 0, .int .u8 0, .int .u8 0, .int .u8 0, .int .u8 0, .int .u8 0, .int .u8 0, .int .u8 0, .int .u8 0, .int .u8 0, .int .u8 0, .int .u8 0] : Array Value).toList = (List.replicate 16 0).map fun x => Value.int .u8 ((x : Nat) : Int) := rfl

set_option maxRecDepth 100000 in
set_option maxHeartbeats 2000000 in
theorem sixBytes_any (gs : List Nat) (w : World) (h8 : gs.length = 8) (hlt : ∀ x ∈ gs, x < 65536) :
    Calls Tryd.prog 76 #[arr8 gs] w fun e w' => e = .returned (arr16 (byL gs)) ∧ Below w.heap.size w w' := by
  obtain ⟨x0, x1, x2, x3, x4, x5, x6, x7, hgs⟩ := list8 gs h8
  have ha : arr8 gs = .agg #[.int .u16 (x0 : Int), .int .u16 (x1 : Int), .int .u16 (x2 : Int), .int .u16 (x3 : Int), .int .u16 (x4 : Int), .int .u16 (x5 : Int), .int .u16 (x6 : Int), .int .u16 (x7 : Int)] := by rw [hgs]; rfl
  have hA := Arr8.new w 66 x0 x1 x2 x3 x4 x5 x6 x7
  rw [← hgs] at hA
  have b1 : Below w.heap.size w (w.alloc (.cells #[.int .u16 (x0 : Int), .int .u16 (x1 : Int), .int .u16 (x2 : Int), .int .u16 (x3 : Int), .int .u16 (x4 : Int), .int .u16 (x5 : Int), .int .u16 (x6 : Int), .int .u16 (x7 : Int)] 66)) := (Below.refl _ _).alloc (Nat.le_refl _) _
  have b2 := b1.alloc b1.size (.cells #[.int .u8 0, .int .u8 0, .int .u8 0, .int .u8 0, .int .u8 0, .int .u8 0, .int .u8 0, .int .u8 0, .int .u8 0, .int .u8 0, .int .u8 0, .int .u8 0, .int .u8 0, .int .u8 0, .int .u8 0, .int .u8 0] 22)
  have b3 := b2.alloc b2.size (.cells #[.int .u8 0, .int .u8 0, .int .u8 0, .int .u8 0, .int .u8 0, .int .u8 0, .int .u8 0, .int .u8 0, .int .u8 0, .int .u8 0, .int .u8 0, .int .u8 0, .int .u8 0, .int .u8 0, .int .u8 0, .int .u8 0] 22)
  have hR := ArrI.of (w.alloc (.cells #[.int .u16 (x0 : Int), .int .u16 (x1 : Int), .int .u16 (x2 : Int), .int .u16 (x3 : Int), .int .u16 (x4 : Int), .int .u16 (x5 : Int), .int .u16 (x6 : Int), .int .u16 (x7 : Int)] 66)) #[.int .u8 0, .int .u8 0, .int .u8 0, .int .u8 0, .int .u8 0, .int .u8 0, .int .u8 0, .int .u8 0, .int .u8 0, .int .u8 0, .int .u8 0, .int .u8 0, .int .u8 0, .int .u8 0, .int .u8 0, .int .u8 0] 22 (List.replicate 16 0) zeros16 (n := 16) rfl
  have hP := ArrI.of ((w.alloc (.cells #[.int .u16 (x0 : Int), .int .u16 (x1 : Int), .int .u16 (x2 : Int), .int .u16 (x3 : Int), .int .u16 (x4 : Int), .int .u16 (x5 : Int), .int .u16 (x6 : Int), .int .u16 (x7 : Int)] 66)).alloc (.cells #[.int .u8 0, .int .u8 0, .int .u8 0, .int .u8 0, .int .u8 0, .int .u8 0, .int .u8 0, .int .u8 0, .int .u8 0, .int .u8 0, .int .u8 0, .int .u8 0, .int .u8 0, .int .u8 0, .int .u8 0, .int .u8 0] 22)) #[.int .u8 0, .int .u8 0, .int .u8 0, .int .u8 0, .int .u8 0, .int .u8 0, .int .u8 0, .int .u8 0, .int .u8 0, .int .u8 0, .int .u8 0, .int .u8 0, .int .u8 0, .int .u8 0, .int .u8 0, .int .u8 0] 22 (List.replicate 16 0) zeros16 (n := 16) rfl
  have hA2 := (hA.below ((Below.refl _ _).alloc (Nat.le_refl _) (.cells #[.int .u8 0, .int .u8 0, .int .u8 0, .int .u8 0, .int .u8 0, .int .u8 0, .int .u8 0, .int .u8 0, .int .u8 0, .int .u8 0, .int .u8 0, .int .u8 0, .int .u8 0, .int .u8 0, .int .u8 0, .int .u8 0] 22))).below ((Below.refl _ _).alloc (Nat.le_refl _) (.cells #[.int .u8 0, .int .u8 0, .int .u8 0, .int .u8 0, .int .u8 0, .int .u8 0, .int .u8 0, .int .u8 0, .int .u8 0, .int .u8 0, .int .u8 0, .int .u8 0, .int .u8 0, .int .u8 0, .int .u8 0, .int .u8 0] 22))
  have hR2 := hR.below ((Below.refl _ _).alloc (Nat.le_refl _) (.cells #[.int .u8 0, .int .u8 0, .int .u8 0, .int .u8 0, .int .u8 0, .int .u8 0, .int .u8 0, .int .u8 0, .int .u8 0, .int .u8 0, .int .u8 0, .int .u8 0, .int .u8 0, .int .u8 0, .int .u8 0, .int .u8 0] 22))
  have e1 : (w.alloc (.cells #[.int .u16 (x0 : Int), .int .u16 (x1 : Int), .int .u16 (x2 : Int), .int .u16 (x3 : Int), .int .u16 (x4 : Int), .int .u16 (x5 : Int), .int .u16 (x6 : Int), .int .u16 (x7 : Int)] 66)).heap.size = w.heap.size + 1 := by simp
  have e2 : ((w.alloc (.cells #[.int .u16 (x0 : Int), .int .u16 (x1 : Int), .int .u16 (x2 : Int), .int .u16 (x3 : Int), .int .u16 (x4 : Int), .int .u16 (x5 : Int), .int .u16 (x6 : Int), .int .u16 (x7 : Int)] 66)).alloc (.cells #[.int .u8 0, .int .u8 0, .int .u8 0, .int .u8 0, .int .u8 0, .int .u8 0, .int .u8 0, .int .u8 0, .int .u8 0, .int .u8 0, .int .u8 0, .int .u8 0, .int .u8 0, .int .u8 0, .int .u8 0, .int .u8 0] 22)).heap.size = w.heap.size + 1 + 1 := by simp
  rw [e1] at hR2
  rw [e2] at hP
  rw [ha]
  have H8 := Lib.hid h8
  have HLT := Lib.hid hlt
  clear ha hgs h8 hlt hA hR b1 b2
  go_enter Tryd.func76, Tryd.ntmps76
  go_wp2_with fail
  generalize (((w.alloc (.cells #[.int .u16 (x0 : Int), .int .u16 (x1 : Int), .int .u16 (x2 : Int), .int .u16 (x3 : Int), .int .u16 (x4 : Int), .int .u16 (x5 : Int), .int .u16 (x6 : Int), .int .u16 (x7 : Int)] 66)).alloc (.cells #[.int .u8 0, .int .u8 0, .int .u8 0, .int .u8 0, .int .u8 0, .int .u8 0, .int .u8 0, .int .u8 0, .int .u8 0, .int .u8 0, .int .u8 0, .int .u8 0, .int .u8 0, .int .u8 0, .int .u8 0, .int .u8 0] 22)).alloc (.cells #[.int .u8 0, .int .u8 0, .int .u8 0, .int .u8 0, .int .u8 0, .int .u8 0, .int .u8 0, .int .u8 0, .int .u8 0, .int .u8 0, .int .u8 0, .int .u8 0, .int .u8 0, .int .u8 0, .int .u8 0, .int .u8 0] 22)) = W at *
  clear e1 e2
  have HA := Lib.hid hA2
  have HR := Lib.hid hR2
  have HP := Lib.hid hP
  clear hA2 hR2 hP
  go_loopw [5] (fun i wr => ∃ (k : Nat) (l : List Nat), k ≤ 8 ∧ i = .int .i64 k ∧ Hid (Arr8 wr w.heap.size gs) ∧ Hid (ArrI .u8 16 wr (w.heap.size + 1) (List.replicate 16 0)) ∧ Hid (ArrI .u8 16 wr (w.heap.size + 1 + 1) l) ∧ Hid (l = byL (gs.take k) ++ List.replicate (16 - 2 * k) 0) ∧ Below w.heap.size w wr) (fun i _ => 8 - (intOf i).toNat)
  case atStart => exact ⟨0, _, by decide, rfl, HA, HR, HP, Lib.hid rfl, b3⟩
  case round =>
    obtain ⟨k, l, hk, rfl, HA2, HR2, HP2, HL, hbel⟩ := hrel
    by_cases hk8 : k < 8
    · have hcell := HA2.out.cells k hk8
      have hx : gs.getD k 0 < 65536 := by
        rw [List.getD_eq_getElem?_getD, List.getElem?_eq_getElem (by rw [H8.out]; exact hk8)]
        exact HLT.out _ (List.getElem_mem _)
      have et : gs.take (k + 1) = gs.take k ++ [gs.getD k 0] := by
        rw [List.take_add_one, List.getD_eq_getElem?_getD, List.getElem?_eq_getElem (by rw [H8.out]; exact hk8)]; rfl
      obtain ⟨x, ex⟩ : ∃ x, gs.getD k 0 = x := ⟨_, rfl⟩
      rw [ex] at hcell hx et
      obtain ⟨c, hc, ec⟩ : ∃ c : Nat, 2 * k = c ∧ (2 : Int) * (k : Int) = (c : Int) := ⟨_, rfl, by omega⟩
      obtain ⟨hi, hhi, ehi⟩ : ∃ hi : Nat, x / 256 = hi ∧ (x : Int) / 256 = (hi : Int) := ⟨_, rfl, by omega⟩
      obtain ⟨lo, hlo⟩ : ∃ lo : Nat, x % 256 = lo := ⟨_, rfl⟩
      have whi : IntKind.u8.wrap (hi : Int) = (hi : Int) := by rw [IntKind.wrap_u8]; omega
      have wlo : IntKind.u8.wrap (x : Int) = (lo : Int) := by rw [IntKind.wrap_u8]; omega
      have hc15 : c + 1 < 16 := by omega
      have c0 : (0 : Int) ≤ (c : Int) := by omega
      have c1 : (c : Int) < 16 := by omega
      have c2 : (c : Int) + 1 < 16 := by omega
      have c3 : (0 : Int) ≤ (c : Int) + 1 := by omega
      have k0 : (0 : Int) ≤ (k : Int) := by omega
      have k1 : (k : Int) < 8 := by omega
      have hp0 := HP2.out.cells c (by omega)
      have hp1 := HP2.out.cells (c + 1) (by omega)
      have hl0 := HP2.out.live c (by omega)
      have hl1 := HP2.out.live (c + 1) (by omega)
      generalize l.getD c 0 = o0 at hp0
      generalize l.getD (c + 1) 0 = o1 at hp1
      have HS := Lib.hid ((HP2.out.set (i := c) (by omega) hi).set (i := c + 1) (by omega) lo)
      have HE : Hid (((l.set c hi).set (c + 1) lo) = byL (gs.take (k + 1)) ++ List.replicate (16 - 2 * (k + 1)) 0) := Lib.hid (by
        rw [HL.out, et, byL_snoc, ← hc, ← hhi, ← hlo]
        exact set_two _ k _ _ hk8 (by rw [byL_len, List.length_take, H8.out]; omega))
      clear ex et hc hhi hlo
      go_wp2_with fail
      go_region
      go_wp2_with fail
      go_roundw
      case rel => exact ⟨k + 1, (l.set c hi).set (c + 1) lo, by omega, by go_num, Lib.hid (((HA2.out.other (by omega) _).other (by omega) _).below (Below.refl _ _).drew), Lib.hid (((HR2.out.other (by omega) _).other (by omega) _).below (Below.refl _ _).drew), Lib.hid (HS.out.below (Below.refl _ _).drew), HE, ((hbel.setCell (p := ⟨w.heap.size + 1 + 1, c, none⟩) (by show w.heap.size ≤ w.heap.size + 1 + 1; omega) _).setCell (p := ⟨w.heap.size + 1 + 1, c + 1, none⟩) (by show w.heap.size ≤ w.heap.size + 1 + 1; omega) _).drew⟩
      case measure => simp [intOf]; omega
    · obtain rfl : k = 8 := by omega
      have hll : l = byL gs := by rw [HL.out, List.take_of_length_le (by rw [H8.out]; exact Nat.le_refl _)]; simp
      subst hll
      have hP8 := HP2.out
      obtain ⟨y0, y1, y2, y3, y4, y5, y6, y7, y8, y9, y10, y11, y12, y13, y14, y15, hy⟩ := list16 (byL gs) hP8.len
      rw [hy] at hP8
      have HY := Lib.hid hy
      obtain ⟨c0, c1, c2, c3, c4, c5, c6, c7, c8, c9, c10, c11, c12, c13, c14, c15⟩ := hP8.all16
      obtain ⟨r0, r1, r2, r3, r4, r5, r6, r7, r8, r9, r10, r11, r12, r13, r14, r15⟩ := (show ArrI .u8 16 wr (w.heap.size + 1) [0, 0, 0, 0, 0, 0, 0, 0, 0, 0, 0, 0, 0, 0, 0, 0] from HR2.out).all16
      obtain ⟨f0, f1, f2, f3, f4, f5, f6, f7, f8, f9, f10, f11, f12, f13, f14, f15⟩ := HR2.out.lives16
      have E1 := Lib.hid (store16_arr y0 y1 y2 y3 y4 y5 y6 y7 y8 y9 y10 y11 y12 y13 y14 y15 HR2.out)
      have E2 := Lib.hid (store16_below y0 y1 y2 y3 y4 y5 y6 y7 y8 y9 y10 y11 y12 y13 y14 y15 hbel (show w.heap.size ≤ w.heap.size + 1 by omega))
      clear hP8 hy
      go_wp2_with fail
      change bodyPost _ _ _ _ _ (store16 wr (w.heap.size + 1) y0 y1 y2 y3 y4 y5 y6 y7 y8 y9 y10 y11 y12 y13 y14 y15)
      generalize store16 wr (w.heap.size + 1) y0 y1 y2 y3 y4 y5 y6 y7 y8 y9 y10 y11 y12 y13 y14 y15 = W at *
      clear c0 c1 c2 c3 c4 c5 c6 c7 c8 c9 c10 c11 c12 c13 c14 c15 r0 r1 r2 r3 r4 r5 r6 r7 r8 r9 r10 r11 r12 r13 r14 r15 f0 f1 f2 f3 f4 f5 f6 f7 f8 f9 f10 f11 f12 f13 f14 f15
      obtain ⟨r0, r1, r2, r3, r4, r5, r6, r7, r8, r9, r10, r11, r12, r13, r14, r15⟩ := E1.out.all16
      refine bodyPost_ret (v := arr16 [y0, y1, y2, y3, y4, y5, y6, y7, y8, y9, y10, y11, y12, y13, y14, y15]) (by simp [results, Tryd.results76, go_sem, r0, r1, r2, r3, r4, r5, r6, r7, r8, r9, r10, r11, r12, r13, r14, r15, arr16]) rfl ⟨by rw [HY.out], E2.out⟩

theorem zeros8u : (#[.int .u16 0, .int .u16 0, .int .u16 0, .int .u16 0, .int .u16 0, .int .u16 0, .int .u16 0, .int .u16 0] : Array Value).toList = (List.replicate 8 0).map fun x => Value.int .u16 ((x : Nat) : Int) := rfl

set_option maxRecDepth 100000 in
set_option maxHeartbeats 2000000 in
theorem sixOf_any (bs : List Nat) (w : World) (h16 : bs.length = 16) (hlt : ∀ x ∈ bs, x < 256) :
    Calls Tryd.prog 63 #[arr16 bs] w fun e w' => e = .returned (arr8 (grL bs 8)) ∧ Below w.heap.size w w' := by
  obtain ⟨y0, y1, y2, y3, y4, y5, y6, y7, y8, y9, y10, y11, y12, y13, y14, y15, hbs⟩ := list16 bs h16
  have ha : arr16 bs = .agg #[.int .u8 (y0 : Int), .int .u8 (y1 : Int), .int .u8 (y2 : Int), .int .u8 (y3 : Int), .int .u8 (y4 : Int), .int .u8 (y5 : Int), .int .u8 (y6 : Int), .int .u8 (y7 : Int), .int .u8 (y8 : Int), .int .u8 (y9 : Int), .int .u8 (y10 : Int), .int .u8 (y11 : Int), .int .u8 (y12 : Int), .int .u8 (y13 : Int), .int .u8 (y14 : Int), .int .u8 (y15 : Int)] := by rw [hbs]; rfl
  have hB := ArrI.of w #[.int .u8 (y0 : Int), .int .u8 (y1 : Int), .int .u8 (y2 : Int), .int .u8 (y3 : Int), .int .u8 (y4 : Int), .int .u8 (y5 : Int), .int .u8 (y6 : Int), .int .u8 (y7 : Int), .int .u8 (y8 : Int), .int .u8 (y9 : Int), .int .u8 (y10 : Int), .int .u8 (y11 : Int), .int .u8 (y12 : Int), .int .u8 (y13 : Int), .int .u8 (y14 : Int), .int .u8 (y15 : Int)] 22 bs (k := .u8) (n := 16) (by rw [hbs]; rfl) h16
  have b1 : Below w.heap.size w (w.alloc (.cells #[.int .u8 (y0 : Int), .int .u8 (y1 : Int), .int .u8 (y2 : Int), .int .u8 (y3 : Int), .int .u8 (y4 : Int), .int .u8 (y5 : Int), .int .u8 (y6 : Int), .int .u8 (y7 : Int), .int .u8 (y8 : Int), .int .u8 (y9 : Int), .int .u8 (y10 : Int), .int .u8 (y11 : Int), .int .u8 (y12 : Int), .int .u8 (y13 : Int), .int .u8 (y14 : Int), .int .u8 (y15 : Int)] 22)) := (Below.refl _ _).alloc (Nat.le_refl _) _
  have b2 := b1.alloc b1.size (.cells #[.int .u16 0, .int .u16 0, .int .u16 0, .int .u16 0, .int .u16 0, .int .u16 0, .int .u16 0, .int .u16 0] 66)
  have b3 := b2.alloc b2.size (.cells #[.int .u16 0, .int .u16 0, .int .u16 0, .int .u16 0, .int .u16 0, .int .u16 0, .int .u16 0, .int .u16 0] 66)
  have hR := Arr8.zero (w.alloc (.cells #[.int .u8 (y0 : Int), .int .u8 (y1 : Int), .int .u8 (y2 : Int), .int .u8 (y3 : Int), .int .u8 (y4 : Int), .int .u8 (y5 : Int), .int .u8 (y6 : Int), .int .u8 (y7 : Int), .int .u8 (y8 : Int), .int .u8 (y9 : Int), .int .u8 (y10 : Int), .int .u8 (y11 : Int), .int .u8 (y12 : Int), .int .u8 (y13 : Int), .int .u8 (y14 : Int), .int .u8 (y15 : Int)] 22)) 66
  have hP := Arr8.zero ((w.alloc (.cells #[.int .u8 (y0 : Int), .int .u8 (y1 : Int), .int .u8 (y2 : Int), .int .u8 (y3 : Int), .int .u8 (y4 : Int), .int .u8 (y5 : Int), .int .u8 (y6 : Int), .int .u8 (y7 : Int), .int .u8 (y8 : Int), .int .u8 (y9 : Int), .int .u8 (y10 : Int), .int .u8 (y11 : Int), .int .u8 (y12 : Int), .int .u8 (y13 : Int), .int .u8 (y14 : Int), .int .u8 (y15 : Int)] 22)).alloc (.cells #[.int .u16 0, .int .u16 0, .int .u16 0, .int .u16 0, .int .u16 0, .int .u16 0, .int .u16 0, .int .u16 0] 66)) 66
  have hB2 := (hB.below ((Below.refl _ _).alloc (Nat.le_refl _) (.cells #[.int .u16 0, .int .u16 0, .int .u16 0, .int .u16 0, .int .u16 0, .int .u16 0, .int .u16 0, .int .u16 0] 66))).below ((Below.refl _ _).alloc (Nat.le_refl _) (.cells #[.int .u16 0, .int .u16 0, .int .u16 0, .int .u16 0, .int .u16 0, .int .u16 0, .int .u16 0, .int .u16 0] 66))
  have hR2 := hR.below ((Below.refl _ _).alloc (Nat.le_refl _) (.cells #[.int .u16 0, .int .u16 0, .int .u16 0, .int .u16 0, .int .u16 0, .int .u16 0, .int .u16 0, .int .u16 0] 66))
  have e1 : (w.alloc (.cells #[.int .u8 (y0 : Int), .int .u8 (y1 : Int), .int .u8 (y2 : Int), .int .u8 (y3 : Int), .int .u8 (y4 : Int), .int .u8 (y5 : Int), .int .u8 (y6 : Int), .int .u8 (y7 : Int), .int .u8 (y8 : Int), .int .u8 (y9 : Int), .int .u8 (y10 : Int), .int .u8 (y11 : Int), .int .u8 (y12 : Int), .int .u8 (y13 : Int), .int .u8 (y14 : Int), .int .u8 (y15 : Int)] 22)).heap.size = w.heap.size + 1 := by simp
  have e2 : ((w.alloc (.cells #[.int .u8 (y0 : Int), .int .u8 (y1 : Int), .int .u8 (y2 : Int), .int .u8 (y3 : Int), .int .u8 (y4 : Int), .int .u8 (y5 : Int), .int .u8 (y6 : Int), .int .u8 (y7 : Int), .int .u8 (y8 : Int), .int .u8 (y9 : Int), .int .u8 (y10 : Int), .int .u8 (y11 : Int), .int .u8 (y12 : Int), .int .u8 (y13 : Int), .int .u8 (y14 : Int), .int .u8 (y15 : Int)] 22)).alloc (.cells #[.int .u16 0, .int .u16 0, .int .u16 0, .int .u16 0, .int .u16 0, .int .u16 0, .int .u16 0, .int .u16 0] 66)).heap.size = w.heap.size + 1 + 1 := by simp
  rw [e1] at hR2
  rw [e2] at hP
  rw [ha]
  have H16 := Lib.hid h16
  have HLT := Lib.hid hlt
  clear ha hbs h16 hlt hB hR b1 b2
  go_enter Tryd.func63, Tryd.ntmps63
  go_wp2_with fail
  generalize (((w.alloc (.cells #[.int .u8 (y0 : Int), .int .u8 (y1 : Int), .int .u8 (y2 : Int), .int .u8 (y3 : Int), .int .u8 (y4 : Int), .int .u8 (y5 : Int), .int .u8 (y6 : Int), .int .u8 (y7 : Int), .int .u8 (y8 : Int), .int .u8 (y9 : Int), .int .u8 (y10 : Int), .int .u8 (y11 : Int), .int .u8 (y12 : Int), .int .u8 (y13 : Int), .int .u8 (y14 : Int), .int .u8 (y15 : Int)] 22)).alloc (.cells #[.int .u16 0, .int .u16 0, .int .u16 0, .int .u16 0, .int .u16 0, .int .u16 0, .int .u16 0, .int .u16 0] 66)).alloc (.cells #[.int .u16 0, .int .u16 0, .int .u16 0, .int .u16 0, .int .u16 0, .int .u16 0, .int .u16 0, .int .u16 0] 66)) = W at *
  clear e1 e2
  have HB := Lib.hid hB2
  have HR := Lib.hid hR2
  have HP := Lib.hid hP
  clear hB2 hR2 hP
  go_loopw [5] (fun i wr => ∃ (k : Nat) (l : List Nat), k ≤ 8 ∧ i = .int .i64 k ∧ Hid (ArrI .u8 16 wr w.heap.size bs) ∧ Hid (Arr8 wr (w.heap.size + 1) [0, 0, 0, 0, 0, 0, 0, 0]) ∧ Hid (Arr8 wr (w.heap.size + 1 + 1) l) ∧ Hid (l = grL bs k ++ List.replicate (8 - k) 0) ∧ Below w.heap.size w wr) (fun i _ => 8 - (intOf i).toNat)
  case atStart => exact ⟨0, _, by decide, rfl, HB, HR, HP, Lib.hid rfl, b3⟩
  case round =>
    obtain ⟨k, l, hk, rfl, HB2, HR2, HP2, HL, hbel⟩ := hrel
    by_cases hk8 : k < 8
    · have hg : ∀ j, bs.getD j 0 < 256 := by
        intro j
        rw [List.getD_eq_getElem?_getD]
        cases hj : bs[j]? with
        | none => exact Nat.zero_lt_succ _
        | some v => exact HLT.out v (List.mem_of_getElem? hj)
      obtain ⟨c, hc, ec⟩ : ∃ c : Nat, 2 * k = c ∧ (2 : Int) * (k : Int) = (c : Int) := ⟨_, rfl, by omega⟩
      have hc0 := HB2.out.cells c (by omega)
      have hc1 := HB2.out.cells (c + 1) (by omega)
      have hh := hg c
      have hl := hg (c + 1)
      obtain ⟨x, ex⟩ : ∃ x, bs.getD c 0 = x := ⟨_, rfl⟩
      obtain ⟨y, ey⟩ : ∃ y, bs.getD (c + 1) 0 = y := ⟨_, rfl⟩
      rw [ex] at hc0 hh
      rw [ey] at hc1 hl
      have hc15 : c + 1 < 16 := by omega
      have k1 : (k : Int) < 8 := by omega
      have c1 : (c : Int) < 16 := by omega
      have c2 : (c : Int) + 1 < 16 := by omega
      have q1 : IntKind.u16.wrap ((x : Int) * 256) = (x : Int) * 256 := by rw [IntKind.wrap_u16]; omega
      have q2 : bits .or .u16 ((x : Int) * 256) (y : Int) = ((x * 256 + y : Nat) : Int) := by
        rw [bits_join .u16 16 (by decide) (fun n h0 h1 => by rw [IntKind.wrap_u16]; omega) 8 ((x : Int) * 256) y (by omega) (by omega) (by omega) (by omega) (by omega) (by omega)]
        omega
      have hp0 := HP2.out.cells k hk8
      have hl0 := HP2.out.live k hk8
      obtain ⟨v, hv⟩ : ∃ v, x * 256 + y = v := ⟨_, rfl⟩
      rw [hv] at q2
      have HS := Lib.hid (HP2.out.set hk8 v)
      have HE : Hid (l.set k v = grL bs (k + 1) ++ List.replicate (8 - (k + 1)) 0) := Lib.hid (by
        rw [HL.out, grL, hc, ex, ey, hv]
        exact set_one _ k _ hk8 (grL_len bs k))
      generalize l.getD k 0 = o0 at hp0
      clear hg ex ey hc hv
      go_wp2_with fail
      go_region
      go_wp2_with fail
      go_roundw
      case rel => exact ⟨k + 1, l.set k v, by omega, by go_num, Lib.hid ((HB2.out.other (by omega) _).below (Below.refl _ _).drew), Lib.hid ((HR2.out.other (by omega) _).below (Below.refl _ _).drew), Lib.hid (HS.out.below (Below.refl _ _).drew), HE, (hbel.setCell (p := ⟨w.heap.size + 1 + 1, k, none⟩) (by show w.heap.size ≤ w.heap.size + 1 + 1; omega) _).drew⟩
      case measure => simp [intOf]; omega
    · obtain rfl : k = 8 := by omega
      have hll : l = grL bs 8 := by rw [HL.out]; simp
      subst hll
      have hP8 := HP2.out
      obtain ⟨x0, x1, x2, x3, x4, x5, x6, x7, hx⟩ := list8 (grL bs 8) hP8.len
      rw [hx] at hP8
      have HX := Lib.hid hx
      obtain ⟨c0, c1, c2, c3, c4, c5, c6, c7⟩ := hP8.all
      obtain ⟨r0, r1, r2, r3, r4, r5, r6, r7⟩ := HR2.out.all
      obtain ⟨f0, f1, f2, f3, f4, f5, f6, f7⟩ := HR2.out.lives
      have E1 := Lib.hid (store8_arr x0 x1 x2 x3 x4 x5 x6 x7 HR2.out)
      have E2 := Lib.hid (store8_below x0 x1 x2 x3 x4 x5 x6 x7 hbel (show w.heap.size ≤ w.heap.size + 1 by omega))
      clear hP8 hx
      go_wp2_with fail
      change bodyPost _ _ _ _ _ (store8 wr (w.heap.size + 1) x0 x1 x2 x3 x4 x5 x6 x7)
      generalize store8 wr (w.heap.size + 1) x0 x1 x2 x3 x4 x5 x6 x7 = W at *
      clear c0 c1 c2 c3 c4 c5 c6 c7 r0 r1 r2 r3 r4 r5 r6 r7 f0 f1 f2 f3 f4 f5 f6 f7
      obtain ⟨r0, r1, r2, r3, r4, r5, r6, r7⟩ := E1.out.all
      refine bodyPost_ret (v := arr8 [x0, x1, x2, x3, x4, x5, x6, x7]) (by simp [results, Tryd.results63, go_sem, r0, r1, r2, r3, r4, r5, r6, r7, arr8]) rfl ⟨by rw [HX.out], E2.out⟩
end Go.Proofs.YtpgjkeakhjnckaaDoor
/- Contracts of addr.Four, addr.mapped, addr.Of4, addr.Of6. -/
namespace Go.Proofs.YtpgjkeakhjnckaaDoor
open Go.RowKit
set_option linter.unusedVariables false
set_option maxRecDepth 20000

theorem fourB_eq (bs : List Nat) : ((bs.getD 0 0 * 256 + bs.getD 1 0) * 256 + bs.getD 2 0) * 256 + bs.getD 3 0 = fourB bs := by
  simp [fourB, fourTo]
set_option maxRecDepth 100000 in
set_option maxHeartbeats 1000000 in
theorem addrFour_any (f : Int) (bs : List Nat) (w : World) (h16 : bs.length = 16) (hlt : ∀ x ∈ bs, x < 256) :
    Calls Tryd.prog 61 #[addrV f bs] w fun e w' => e = .returned (.int .u32 ((fourB bs : Nat) : Int)) ∧ Below w.heap.size w w' := by
  obtain ⟨cs, ecs, HA, HB⟩ := addr_boxed f bs w h16
  rw [ecs]
  have HO := fun W => Lib.hid (of_any (bs.getD 0 0) (bs.getD 1 0) (bs.getD 2 0) (bs.getD 3 0) W (byte_lt hlt 0) (byte_lt hlt 1) (byte_lt hlt 2) (byte_lt hlt 3))
  rw [fourB_eq] at HO
  generalize fourB bs = n at *
  clear ecs h16 hlt
  go_enter Tryd.func61, Tryd.ntmps61
  go_upto_region 1 with fail
  generalize (w.alloc (.cells cs 24)) = W at *
  have c0 : W.cell? ⟨w.heap.size, 1, none⟩ = some (.int .u8 ((bs.getD 0 0 : Nat) : Int)) := HA.out.cells 0 (by decide)
  have c1 : W.cell? ⟨w.heap.size, 2, none⟩ = some (.int .u8 ((bs.getD 1 0 : Nat) : Int)) := HA.out.cells 1 (by decide)
  have c2 : W.cell? ⟨w.heap.size, 3, none⟩ = some (.int .u8 ((bs.getD 2 0 : Nat) : Int)) := HA.out.cells 2 (by decide)
  have c3 : W.cell? ⟨w.heap.size, 4, none⟩ = some (.int .u8 ((bs.getD 3 0 : Nat) : Int)) := HA.out.cells 3 (by decide)
  generalize bs.getD 0 0 = a at *
  generalize bs.getD 1 0 = b at *
  generalize bs.getD 2 0 = c at *
  generalize bs.getD 3 0 = d at *
  unfold arr4 at HO
  go_wp2_with fail
  refine (HO W).out.mono ?_
  rintro e w1 ⟨rfl, hb1⟩
  go_wp2_with fail
  go_ret
  exact ⟨rfl, chain HB.out hb1⟩

/-- The bytes of the one that is unmapped to n. -/
def mapL (n : Nat) : List Nat := [0, 0, 0, 0, 0, 0, 0, 0, 0, 0, 255, 255, n / 16777216 % 256, n / 65536 % 256, n / 256 % 256, n % 256]
/-- An address of 32 bits. -/
theorem b4_list (n : Nat) (hn : n ≤ 4294967295) : b4 n = [n / 16777216 % 256, n / 65536 % 256, n / 256 % 256, n % 256, 0, 0, 0, 0, 0, 0, 0, 0, 0, 0, 0, 0] := b4_eq n
set_option maxRecDepth 100000 in
set_option maxHeartbeats 1000000 in
theorem addrOf4_any (n : Nat) (w : World) (hn : n ≤ 4294967295) :
    Calls Tryd.prog 52 #[.int .u32 (n : Int)] w fun e w' => e = .returned (addrV 4 (b4 n)) ∧ Below w.heap.size w w' := by
  have HE := Lib.hid (b4_eq n)
  have HBy := fun W => Lib.hid (bytes_any (n / 16777216 % 256) (n / 65536 % 256) (n / 256 % 256) (n % 256) n W (by omega) (by omega) (by omega) (by omega) (by unfold num4; omega))
  have HZ := Lib.hid (addr_zeroed w)
  have HB : Hid (Below w.heap.size w (w.alloc (.cells zA 24))) := Lib.hid ((Below.refl _ _).alloc (Nat.le_refl _) _)
  generalize n / 16777216 % 256 = a at *
  generalize n / 65536 % 256 = b at *
  generalize n / 256 % 256 = c at *
  generalize n % 256 = d at *
  unfold arr4 at HBy
  go_enter Tryd.func52, Tryd.ntmps52
  go_upto_region 1 with fail
  generalize (w.alloc (.cells zA 24)) = W at *
  go_wp2_with fail
  refine (HBy W).out.mono ?_
  rintro e w1 ⟨rfl, hb1⟩
  have HZ1 := Lib.hid ((HZ.out.below hb1).alloc (.cells #[.int .u8 (a : Int), .int .u8 (b : Int), .int .u8 (c : Int), .int .u8 (d : Int)] 80))
  have HB1 := Lib.hid (chain (chain HB.out hb1) ((Below.refl w1.heap.size w1).alloc (Nat.le_refl _) (.cells #[.int .u8 (a : Int), .int .u8 (b : Int), .int .u8 (c : Int), .int .u8 (d : Int)] 80)))
  clear HZ HB hb1 HBy
  have HLN : Hid ([a, b, c, d, 0, 0, 0, 0, 0, 0, 0, 0, 0, 0, 0, 0].length = 16) := Lib.hid rfl
  go_wp2_with (refine store_addr HZ1 _ _ HLN rfl rfl rfl rfl (fun W HW HA => ?_))
  refine bodyPost_ret (v := addrV 4 [a, b, c, d, 0, 0, 0, 0, 0, 0, 0, 0, 0, 0, 0, 0]) (results_addr Tryd.results52 rfl HA.out) rfl ⟨by rw [HE.out], by rw [HW.out]; exact below_cells (Nat.le_refl _) _ _ _ HB1.out⟩
set_option maxRecDepth 100000 in
set_option maxHeartbeats 1000000 in
theorem addrOf6_any (gs : List Nat) (w : World) (h8 : gs.length = 8) (hlt : ∀ x ∈ gs, x < 65536) :
    Calls Tryd.prog 54 #[arr8 gs] w fun e w' => e = .returned (addrV 6 (byL gs)) ∧ Below w.heap.size w w' := by
  have HBy := fun W => Lib.hid (sixBytes_any gs W h8 hlt)
  obtain ⟨x0, x1, x2, x3, x4, x5, x6, x7, hgs⟩ := list8 gs h8
  have ha : arr8 gs = .agg #[.int .u16 (x0 : Int), .int .u16 (x1 : Int), .int .u16 (x2 : Int), .int .u16 (x3 : Int), .int .u16 (x4 : Int), .int .u16 (x5 : Int), .int .u16 (x6 : Int), .int .u16 (x7 : Int)] := by rw [hgs]; rfl
  obtain ⟨y0, y1, y2, y3, y4, y5, y6, y7, y8, y9, y10, y11, y12, y13, y14, y15, hbs⟩ := list16 (byL gs) (by rw [byL_len, h8])
  have HZ := addr_zeroed (w.alloc (.cells #[.int .u16 (x0 : Int), .int .u16 (x1 : Int), .int .u16 (x2 : Int), .int .u16 (x3 : Int), .int .u16 (x4 : Int), .int .u16 (x5 : Int), .int .u16 (x6 : Int), .int .u16 (x7 : Int)] 66))
  rw [heap_alloc] at HZ
  have b1 : Below w.heap.size w (w.alloc (.cells #[.int .u16 (x0 : Int), .int .u16 (x1 : Int), .int .u16 (x2 : Int), .int .u16 (x3 : Int), .int .u16 (x4 : Int), .int .u16 (x5 : Int), .int .u16 (x6 : Int), .int .u16 (x7 : Int)] 66)) := (Below.refl _ _).alloc (Nat.le_refl _) _
  have HB := Lib.hid (b1.alloc b1.size (.cells zA 24))
  have hA := (Arr8.of8 w 66 x0 x1 x2 x3 x4 x5 x6 x7).below ((Below.refl _ _).alloc (Nat.le_refl _) (.cells zA 24))
  have HE := Lib.hid hbs
  rw [ha] at HBy ⊢
  rw [hbs] at HBy
  unfold arr16 at HBy
  have HZH := Lib.hid HZ
  clear HZ b1 ha hgs hbs h8 hlt
  go_enter Tryd.func54, Tryd.ntmps54
  go_upto_region 1 with fail
  generalize ((w.alloc (.cells #[.int .u16 (x0 : Int), .int .u16 (x1 : Int), .int .u16 (x2 : Int), .int .u16 (x3 : Int), .int .u16 (x4 : Int), .int .u16 (x5 : Int), .int .u16 (x6 : Int), .int .u16 (x7 : Int)] 66)).alloc (.cells zA 24)) = W at *
  obtain ⟨c0, c1, c2, c3, c4, c5, c6, c7⟩ := hA.all
  go_wp2_with fail
  refine (HBy W).out.mono ?_
  rintro e w1 ⟨rfl, hb1⟩
  have HZ1 := Lib.hid (HZH.out.below hb1)
  have HB1 := Lib.hid (chain HB.out hb1)
  clear HZH HB hb1 HBy hA c0 c1 c2 c3 c4 c5 c6 c7
  have HLN : Hid ([y0, y1, y2, y3, y4, y5, y6, y7, y8, y9, y10, y11, y12, y13, y14, y15].length = 16) := Lib.hid rfl
  go_wp2_with (refine store_addr HZ1 _ _ HLN rfl rfl rfl rfl (fun W HW HA => ?_))
  refine bodyPost_ret (v := addrV 6 [y0, y1, y2, y3, y4, y5, y6, y7, y8, y9, y10, y11, y12, y13, y14, y15]) (results_addr Tryd.results54 rfl HA.out) rfl ⟨by rw [HE.out], by rw [HW.out]; exact below_cells (by omega) _ _ _ HB1.out⟩
end Go.Proofs.YtpgjkeakhjnckaaDoor
/- Contract of the reference's Unmap of layer 4. -/
namespace Go.Proofs.YtpgjkeakhjnckaaDoor
open Go.RowKit
set_option linter.unusedVariables false
set_option maxRecDepth 20000

/-- Is it a mapped one? -/
def isMap (f : Int) (bs : List Nat) : Bool := f == 6 && mappedB (grL bs 8)
def unmapF (f : Int) (bs : List Nat) : Int := if isMap f bs then 4 else f
def unmapB (f : Int) (bs : List Nat) : List Nat := if isMap f bs then b4 ((grL bs 8).getD 6 0 * 65536 + (grL bs 8).getD 7 0) else bs
end Go.Proofs.YtpgjkeakhjnckaaDoor
/- Contract of addr.May. -/
namespace Go.Proofs.YtpgjkeakhjnckaaDoor
open Go.RowKit
set_option linter.unusedVariables false
set_option maxRecDepth 20000

theorem fourB_le' (bs : List Nat) (h : ∀ x ∈ bs, x < 256) : fourB bs ≤ 4294967295 := by
  have := fourTo_lt bs h 4
  have e : (256 : Nat) ^ 4 = 4294967296 := by decide
  unfold fourB
  omega
theorem may4 (bs : List Nat) (h16 : bs.length = 16) (hlt : ∀ x ∈ bs, x < 256) : decide ((4 : Int) = 4 ∧ bs = b4 (fourB bs)) = mayB 4 bs := by
  obtain ⟨y0, y1, y2, y3, y4, y5, y6, y7, y8, y9, y10, y11, y12, y13, y14, y15, rfl⟩ := list16 bs h16
  simp at hlt
  rw [b4_eq, ← fourB_eq]
  have e : mayB 4 [y0, y1, y2, y3, y4, y5, y6, y7, y8, y9, y10, y11, y12, y13, y14, y15] = decide (y4 = 0 ∧ y5 = 0 ∧ y6 = 0 ∧ y7 = 0 ∧ y8 = 0 ∧ y9 = 0 ∧ y10 = 0 ∧ y11 = 0 ∧ y12 = 0 ∧ y13 = 0 ∧ y14 = 0 ∧ y15 = 0) := by
    rw [Bool.eq_iff_iff]
    simp [mayB, zeroTo, fromN]
  rw [e]
  refine decide_eq_decide.2 ?_
  simp
  omega
theorem may6 (bs : List Nat) (h16 : bs.length = 16) : mayB 6 bs = true := by
  unfold mayB
  rw [show fromN 6 = 16 from rfl, zeroTo_end bs h16]
  rfl
theorem mayElse (f : Int) (bs : List Nat) (h16 : bs.length = 16) (h4 : f ≠ 4) (h6 : f ≠ 6) : decide (f = 0 ∧ bs = List.replicate 16 0) = mayB f bs := by
  by_cases h0 : f = 0
  · subst h0
    obtain ⟨y0, y1, y2, y3, y4, y5, y6, y7, y8, y9, y10, y11, y12, y13, y14, y15, rfl⟩ := list16 bs h16
    rw [Bool.eq_iff_iff]
    simp [mayB, zeroTo, fromN]
  · rw [decide_eq_false (fun h => h0 h.1)]
    unfold mayB
    simp [h0, h4, h6]
end Go.Proofs.YtpgjkeakhjnckaaDoor
/- Contracts of addr.Map, addr.Unmap. -/
namespace Go.Proofs.YtpgjkeakhjnckaaDoor
open Go.RowKit
set_option linter.unusedVariables false
set_option maxRecDepth 20000

theorem mapL_len (n : Nat) : (mapL n).length = 16 := rfl
theorem map_map8 (n : Nat) (hn : n ≤ 4294967295) : byL (map8 n) = mapL n := by
  unfold map8 byL mapL
  simp
  omega
end Go.Proofs.YtpgjkeakhjnckaaDoor
/- Contract of addr.Unmap. -/
namespace Go.Proofs.YtpgjkeakhjnckaaDoor
open Go.RowKit
set_option linter.unusedVariables false
set_option maxRecDepth 20000

/-- The number of the last four bytes. -/
def last4 (bs : List Nat) : Nat := ((bs.getD 12 0 * 256 + bs.getD 13 0) * 256 + bs.getD 14 0) * 256 + bs.getD 15 0
theorem last4_le (bs : List Nat) (h : ∀ x ∈ bs, x < 256) : last4 bs ≤ 4294967295 := by
  have h0 := byte_lt h 12
  have h1 := byte_lt h 13
  have h2 := byte_lt h 14
  have h3 := byte_lt h 15
  unfold last4
  omega
theorem last4_gr (bs : List Nat) : (grL bs 8).getD 6 0 * 65536 + (grL bs 8).getD 7 0 = last4 bs := by
  simp [grL, last4]
  omega
theorem mapped_mapL (bs : List Nat) (h16 : bs.length = 16) (hlt : ∀ x ∈ bs, x < 256) : decide (bs = mapL (last4 bs)) = mappedB (grL bs 8) := by
  obtain ⟨y0, y1, y2, y3, y4, y5, y6, y7, y8, y9, y10, y11, y12, y13, y14, y15, rfl⟩ := list16 bs h16
  simp at hlt
  rw [Bool.eq_iff_iff]
  simp [mapL, last4, grL, mappedB, zer]
  omega
end Go.Proofs.YtpgjkeakhjnckaaDoor
/- What is printed of an address of 128 bits is read as it was: plain facts on texts. -/
namespace Go.Proofs.YtpgjkeakhjnckaaDoor
open Go.RowKit
set_option linter.unusedVariables false
set_option maxRecDepth 20000

/-- Digits read one by one, as Number reads them. -/
def numL (b : Nat) : Nat → List UInt8 → Option Nat
  | n, [] => some n
  | n, c :: l => if b ≤ digC c.toNat then none else if most < n * b + digC c.toNat then none else numL b (n * b + digC c.toNat) l
theorem numL_append (b : Nat) (m : List UInt8) : ∀ (l : List UInt8) (n : Nat), numL b n (l ++ m) = match numL b n l with
    | none => none
    | some x => numL b x m
  | [], n => rfl
  | c :: l, n => by
    rw [List.cons_append, numL, numL]
    split
    · rfl
    · split
      · rfl
      · exact numL_append b m l _
theorem numTo_list (s : ByteArray) (b : Nat) : ∀ k, k ≤ s.size → numTo s b k = numL b 0 (s.data.toList.take k)
  | 0, _ => rfl
  | k + 1, h => by
    have hk : k < s.data.toList.length := by simp; omega
    rw [List.take_add_one, List.getElem?_eq_getElem hk, numL_append, ← numTo_list s b k (by omega), numTo]
    cases numTo s b k with
    | none => rfl
    | some n =>
      have e : byteOf s k = (s.data.toList[k]).toNat := by rw [byteOf_eq s k (by omega)]; rfl
      simp only [e, Option.toList, numL]
theorem numB_ofL (l : List UInt8) (b : Nat) (h : l ≠ []) : numB (ofL l) b = numL b 0 l := by
  unfold numB
  rw [ofL_size, if_neg (by intro h2; exact h (List.eq_nil_of_length_eq_zero h2)), numTo_list _ _ _ (by rw [ofL_size]; exact Nat.le_refl _), ofL_data, List.take_of_length_le (Nat.le_refl _)]
theorem groupL_num (n : Nat) (h : n ≤ most) : numL 16 0 (groupL n) = some n := by
  induction n using Nat.strongRecOn with
  | _ n ih =>
    by_cases h1 : n < 16
    · rw [groupL_one h1, numL, digC_hexc n h1, if_neg (by omega), if_neg (by omega), numL]
      simp
    · rw [groupL_more h1, numL_append, ih (n / 16) (by omega) (by omega)]
      simp only [numL]
      rw [digC_hexc _ (by omega), if_neg (by omega), if_neg (by omega)]
      congr 1
      omega
theorem groupL_ne (n : Nat) (h : n < 65536) : groupL n ≠ [] := by
  intro e
  have := (groupL_length n h).1
  rw [e] at this
  simp at this
theorem hexG_group (n : Nat) (h : n < 65536) : hexG (gS n) = some n := by
  unfold hexG gS
  rw [if_neg (by rw [ofL_size]; have := (groupL_length n h).2; omega), numB_ofL _ _ (groupL_ne n h), groupL_num n (by unfold most; omega)]
theorem groupL_mem (n : Nat) : ∀ c ∈ groupL n, c.toNat ≠ 58 := by
  have one : ∀ d, d < 16 → (hexc d).toNat ≠ 58 := by
    intro d hd
    rw [hexc_nat d hd]
    split <;> omega
  induction n using Nat.strongRecOn with
  | _ n ih =>
    by_cases h1 : n < 16
    · rw [groupL_one h1]
      intro c hc
      rw [List.mem_singleton] at hc
      rw [hc]
      exact one n h1
    · rw [groupL_more h1]
      intro c hc
      rcases List.mem_append.1 hc with h | h
      · exact ih (n / 16) (by omega) c h
      · rw [List.mem_singleton] at h
        rw [h]
        exact one _ (by omega)

/-- Groups with colons between, byte by byte. -/
def rowL : List Nat → List UInt8
  | [] => []
  | [x] => groupL x
  | x :: y :: r => groupL x ++ 58 :: rowL (y :: r)
theorem rowL_snoc (x : Nat) : ∀ l : List Nat, rowL (l ++ [x]) = (if 0 < l.length then rowL l ++ [58] else rowL l) ++ groupL x
  | [] => by simp [rowL]
  | [y] => by simp [rowL]
  | y :: z :: r => by
    have ih := rowL_snoc x (z :: r)
    rw [if_pos (by simp)] at ih
    rw [if_pos (by simp)]
    show rowL (y :: z :: (r ++ [x])) = _
    rw [rowL, rowL]
    have e : z :: (r ++ [x]) = (z :: r) ++ [x] := rfl
    rw [e, ih]
    simp
theorem rowS_list (l : List Nat) : (rowS l).data.toList = rowL l := by
  have key : ∀ n (l : List Nat), l.length = n → (joinB (l.map gS) { data := #[58] }).data.toList = rowL l := by
    intro n
    induction n with
    | zero =>
      intro l h
      have := List.eq_nil_of_length_eq_zero h
      subst this
      rfl
    | succ n ih =>
      intro l h
      obtain ⟨l', x, rfl⟩ : ∃ l' x, l = l' ++ [x] := ⟨l.dropLast, l.getLast (by intro e; rw [e] at h; simp at h), (List.dropLast_concat_getLast _).symm⟩
      have hl' : l'.length = n := by simp at h; exact h
      rw [List.map_append, List.map_cons, List.map_nil, joinB_snoc, rowL_snoc, data_append, List.length_map]
      have ih' := ih l' hl'
      by_cases h0 : 0 < l'.length
      · rw [if_pos h0, if_pos h0, data_append, ih']
        rfl
      · rw [if_neg h0, if_neg h0, ih']
        rfl
  have := key l.length l rfl
  unfold joinB at this
  rw [List.length_map] at this
  exact this
theorem rowS_ofL (l : List Nat) : rowS l = ofL (rowL l) := eq_ofL (rowS_list l)
theorem rowL_cut : ∀ l : List Nat, l ≠ [] → cutL 58 (rowL l) = l.map groupL
  | [], h => absurd rfl h
  | [x], _ => by rw [rowL, cutL_none 58 _ (groupL_mem x)]; rfl
  | x :: y :: r, _ => by
    rw [rowL, cutL_first 58 58 rfl _ _ (groupL_mem x), rowL_cut (y :: r) (by simp)]
    rfl
theorem rowL_ne (l : List Nat) (h : l ≠ []) (hlt : ∀ x ∈ l, x < 65536) : rowL l ≠ [] := by
  match l, h with
  | [x], _ => rw [rowL]; exact groupL_ne x (hlt x (by simp))
  | x :: y :: r, _ => rw [rowL]; simp
theorem grTo_row (l : List Nat) (dot : Bool) (hlt : ∀ x ∈ l, x < 65536) : ∀ k, k ≤ l.length → grTo (l.map gS) dot k = some (l.take k)
  | 0, _ => rfl
  | k + 1, h => by
    have hx : (l.map gS).getD k ⟨#[]⟩ = gS (l.getD k 0) := by
      rw [List.getD_eq_getElem?_getD, List.getD_eq_getElem?_getD, List.getElem?_map, List.getElem?_eq_getElem (by omega)]
      rfl
    have hl : l.getD k 0 < 65536 := by
      rw [List.getD_eq_getElem?_getD, List.getElem?_eq_getElem (by omega)]
      exact hlt _ (List.getElem_mem _)
    rw [grTo_hex (grTo_row l dot hlt k (by omega)) (by rw [hx]; exact hexG_group _ hl)]
    congr 1
    rw [List.take_add_one, List.getD_eq_getElem?_getD, List.getElem?_eq_getElem (by omega)]
    rfl
theorem groupsB_row (l : List Nat) (dot : Bool) (hlt : ∀ x ∈ l, x < 65536) : groupsB (ofL (rowL l)) dot = some l := by
  unfold groupsB
  by_cases h : l = []
  · subst h
    rw [if_pos (by rw [ofL_size]; rfl)]
  · have h2 : ¬ (ofL (rowL l)).size = 0 := by
      rw [ofL_size]
      intro e
      exact rowL_ne l h hlt (List.eq_nil_of_length_eq_zero e)
    have e : pieces (ofL (rowL l)) 58 = l.map gS := by
      rw [pieces_ofL, rowL_cut l h, List.map_map]
      rfl
    rw [if_neg h2, e, List.length_map, grTo_row l dot hlt _ (Nat.le_refl _), List.take_of_length_le (Nat.le_refl _)]

/-- No two colons stand side by side. -/
def noGap : List UInt8 → Prop
  | x :: y :: r => ¬ (x.toNat = 58 ∧ y.toNat = 58) ∧ noGap (y :: r)
  | _ => True
theorem noGap_at : ∀ (l : List UInt8) (j : Nat), noGap l → ¬ ((l.getD j 0).toNat = 58 ∧ (l.getD (j + 1) 0).toNat = 58)
  | [], j, _ => by simp
  | [x], 0, _ => by simp
  | [x], j + 1, _ => by simp
  | x :: y :: r, 0, h => by simpa using h.1
  | x :: y :: r, j + 1, h => by
    have := noGap_at (y :: r) j h.2
    simpa using this
theorem noGap_plain : ∀ l : List UInt8, (∀ c ∈ l, c.toNat ≠ 58) → noGap l
  | [], _ => trivial
  | [x], _ => trivial
  | x :: y :: r, h => ⟨fun h2 => h x (by simp) h2.1, noGap_plain (y :: r) (fun c hc => h c (by simp [hc]))⟩
/-- One text without colons, a colon, another text that begins with none. -/
theorem noGap_join : ∀ (a b : List UInt8), (∀ c ∈ a, c.toNat ≠ 58) → noGap b → (∃ c r, b = c :: r ∧ c.toNat ≠ 58) → a ≠ [] → noGap (a ++ 58 :: b)
  | [], b, _, _, _, h => absurd rfl h
  | [x], b, ha, hb, ⟨c, r, e, hc⟩, _ => by
    subst e
    exact ⟨fun h => ha x (by simp) h.1, fun h => hc h.2, hb⟩
  | x :: y :: r, b, ha, hb, he, _ => ⟨fun h => ha x (by simp) h.1, noGap_join (y :: r) b (fun c hc => ha c (by simp [hc])) hb he (by simp)⟩
theorem rowL_head : ∀ (l : List Nat), l ≠ [] → (∀ x ∈ l, x < 65536) → ∃ c r, rowL l = c :: r ∧ c.toNat ≠ 58
  | [], h, _ => absurd rfl h
  | [x], _, hlt => by
    rw [rowL]
    cases hg : groupL x with
    | nil => exact absurd hg (groupL_ne x (hlt x (by simp)))
    | cons c r => exact ⟨c, r, rfl, groupL_mem x c (by rw [hg]; simp)⟩
  | x :: y :: r, _, hlt => by
    rw [rowL]
    cases hg : groupL x with
    | nil => exact absurd hg (groupL_ne x (hlt x (by simp)))
    | cons c t => exact ⟨c, t ++ 58 :: rowL (y :: r), rfl, groupL_mem x c (by rw [hg]; simp)⟩
theorem rowL_gap : ∀ (l : List Nat), (∀ x ∈ l, x < 65536) → noGap (rowL l)
  | [], _ => trivial
  | [x], _ => by rw [rowL]; exact noGap_plain _ (groupL_mem x)
  | x :: y :: r, hlt => by
    rw [rowL]
    exact noGap_join _ _ (groupL_mem x) (rowL_gap (y :: r) (fun z hz => hlt z (by simp [hz]))) (rowL_head (y :: r) (by simp) (fun z hz => hlt z (by simp [hz]))) (groupL_ne x (hlt x (by simp)))
theorem rowL_last : ∀ (l : List Nat), (∀ x ∈ l, x < 65536) → l ≠ [] → ((rowL l).getD ((rowL l).length - 1) 0).toNat ≠ 58
  | [], _, h => absurd rfl h
  | [x], hlt, _ => by
    rw [rowL]
    have h0 := (groupL_length x (hlt x (by simp))).1
    rw [List.getD_eq_getElem?_getD, List.getElem?_eq_getElem (by omega)]
    exact groupL_mem x _ (List.getElem_mem _)
  | x :: y :: r, hlt, _ => by
    have ih := rowL_last (y :: r) (fun z hz => hlt z (by simp [hz])) (by simp)
    have hn : 0 < (rowL (y :: r)).length := List.length_pos_iff.2 (rowL_ne (y :: r) (by simp) (fun z hz => hlt z (by simp [hz])))
    rw [rowL]
    have e : (groupL x ++ 58 :: rowL (y :: r)).getD ((groupL x ++ 58 :: rowL (y :: r)).length - 1) 0 = (rowL (y :: r)).getD ((rowL (y :: r)).length - 1) 0 := by
      rw [List.getD_eq_getElem?_getD, List.getD_eq_getElem?_getD, List.length_append, List.length_cons, List.getElem?_append_right (by omega), show (groupL x).length + ((rowL (y :: r)).length + 1) - 1 - (groupL x).length = ((rowL (y :: r)).length - 1) + 1 by omega, List.getElem?_cons_succ]
    rw [e]
    exact ih

theorem gapTo_none_of (s : ByteArray) : ∀ k, (∀ j, j < k → ¬ (byteOf s j = 58 ∧ byteOf s (j + 1) = 58)) → gapTo s k = none
  | 0, _ => rfl
  | k + 1, h => by rw [gapTo, gapTo_none_of s k (fun j hj => h j (by omega))]; simp only [if_neg (h k (by omega))]
theorem gapB_none_of (l : List UInt8) (h : noGap l) : gapB (ofL l) = none :=
  gapTo_none_of _ _ (fun j _ => by rw [byteOf_ofL, byteOf_ofL]; exact noGap_at l j h)
theorem gapB_some_of (a b : List UInt8) (ha : noGap a) (hl : a = [] ∨ (a.getD (a.length - 1) 0).toNat ≠ 58) : gapB (ofL (a ++ 58 :: 58 :: b)) = some a.length := by
  unfold gapB
  apply gapTo_found (k := a.length + 1) (by rw [ofL_size]; simp)
  rw [gapTo, gapTo_none_of]
  · have e1 : byteOf (ofL (a ++ 58 :: 58 :: b)) a.length = 58 := by
      rw [byteOf_ofL, List.getD_eq_getElem?_getD, List.getElem?_append_right (Nat.le_refl _)]; simp
    have e2 : byteOf (ofL (a ++ 58 :: 58 :: b)) (a.length + 1) = 58 := by
      rw [byteOf_ofL, List.getD_eq_getElem?_getD, List.getElem?_append_right (by omega)]; simp
    simp only [e1, e2, and_self, if_true]
  · intro j hj
    rw [byteOf_ofL, byteOf_ofL]
    by_cases hj2 : j + 1 < a.length
    · have := noGap_at a j ha
      rw [List.getD_eq_getElem?_getD, List.getD_eq_getElem?_getD] at this ⊢
      rw [List.getElem?_append_left (by omega), List.getElem?_append_left hj2]
      exact this
    · have hj3 : j = a.length - 1 := by omega
      intro h
      rcases hl with hl | hl
      · subst hl; simp at hj
      · apply hl
        rw [← hj3]
        have := h.1
        rw [List.getD_eq_getElem?_getD, List.getElem?_append_left hj] at this
        rw [List.getD_eq_getElem?_getD]
        exact this

/-- What stands ahead of two colons and behind them, read. -/
theorem parse_merge (a b : List UInt8) (ha : noGap a) (hl : a = [] ∨ (a.getD (a.length - 1) 0).toNat ≠ 58) : parseB (ofL (a ++ 58 :: 58 :: b)) = mergeB (groupsB (ofL a) false) (groupsB (ofL b) true) := by
  unfold parseB
  rw [gapB_some_of a b ha hl]
  have e1 : (ofL (a ++ 58 :: 58 :: b)).extract 0 a.length = ofL a := eq_ofL (by rw [data_extract, ofL_data]; simp)
  have e2 : (ofL (a ++ 58 :: 58 :: b)).extract (a.length + 2) (ofL (a ++ 58 :: 58 :: b)).size = ofL b := eq_ofL (by
    rw [data_extract, ofL_data, ofL_size, show a ++ 58 :: 58 :: b = (a ++ [58, 58]) ++ b by simp, List.drop_append_of_le_length (by simp), List.drop_of_length_le (by simp)]
    simp
    exact List.take_of_length_le (by omega))
  simp only []
  rw [e1, e2]
theorem parse_plain (l : List UInt8) (h : noGap l) : parseB (ofL l) = match groupsB (ofL l) true with
    | none => none
    | some g => if g.length = 8 then some g else none := by
  unfold parseB
  rw [gapB_none_of l h]
  cases groupsB (ofL l) true <;> rfl

theorem zrun_zeros (gs : List Nat) : ∀ m i, zrun gs i = m → i + m ≤ 8 → ∀ j, i ≤ j → j < i + m → gs.getD j 0 = 0
  | 0, i, _, _, j, h1, h2 => by omega
  | m + 1, i, h, h8, j, h1, h2 => by
    by_cases h0 : gs.getD i 0 = 0
    · have e := zrun_zero (gs := gs) (i := i) (by omega) h0
      by_cases hj : j = i
      · rw [hj]; exact h0
      · exact zrun_zeros gs m (i + 1) (by omega) (by omega) j (by omega) (by omega)
    · have e := zrun_stop (gs := gs) (i := i) (.inr h0)
      omega
theorem runTo_zrun (gs : List Nat) : ∀ k, (runTo gs k).2 = 0 ∨ (2 ≤ (runTo gs k).2 ∧ (runTo gs k).2 = zrun gs (runTo gs k).1)
  | 0 => .inl rfl
  | k + 1 => by
    rw [runTo]
    split
    · rename_i h
      exact .inr ⟨h.1, rfl⟩
    · exact runTo_zrun gs k
/-- The groups ahead of a row of zeros, the zeros, the groups behind. -/
theorem run_split (gs : List Nat) (A K : Nat) (h8 : gs.length = 8) (hAK : A ≤ K) (hK : K ≤ 8) (hz : ∀ j, A ≤ j → j < K → gs.getD j 0 = 0) : gs.take A ++ List.replicate (K - A) 0 ++ gs.drop K = gs := by
  have e : List.replicate (K - A) 0 = (gs.drop A).take (K - A) := by
    apply List.ext_getElem
    · simp; omega
    · intro j h1 h2
      have hj : j < K - A := by simpa using h1
      have := hz (A + j) (by omega) (by omega)
      rw [List.getD_eq_getElem?_getD, List.getElem?_eq_getElem (by omega)] at this
      simp
      exact this.symm
  rw [e]
  have e2 : gs.drop K = (gs.drop A).drop (K - A) := by rw [List.drop_drop]; congr 1; omega
  rw [e2, List.append_assoc, List.take_append_drop, List.take_append_drop]

theorem parseB_len (s : ByteArray) (l : List Nat) (h : parseB s = some l) : l.length = 8 ∧ ∀ x ∈ l, x < 65536 := by
  unfold parseB at h
  cases hg : gapB s with
  | none =>
    rw [hg] at h
    simp only at h
    cases hq : groupsB s true with
    | none => rw [hq] at h; cases h
    | some g =>
      rw [hq] at h
      simp only at h
      split at h
      · have e := Option.some.inj h
        subst e
        exact ⟨by assumption, groupsB_lt _ _ _ hq⟩
      · cases h
  | some k =>
    rw [hg] at h
    simp only at h
    cases ha : groupsB (s.extract 0 k) false with
    | none => rw [ha] at h; cases h
    | some a =>
      cases hb : groupsB (s.extract (k + 2) s.size) true with
      | none => rw [ha, hb] at h; cases h
      | some b =>
        rw [ha, hb] at h
        change (if 7 < a.length + b.length then none else some (a ++ List.replicate (8 - a.length - b.length) 0 ++ b)) = some l at h
        split at h
        · cases h
        · have e := Option.some.inj h
          subst e
          refine ⟨by simp; omega, fun x hx => ?_⟩
          rcases List.mem_append.1 hx with hx | hx
          · rcases List.mem_append.1 hx with hx | hx
            · exact groupsB_lt _ _ _ ha x hx
            · have := List.eq_of_mem_replicate hx
              omega
          · exact groupsB_lt _ _ _ hb x hx
/-- What Parse answers, written out. -/
theorem parse_form (s : ByteArray) : ∃ (x0 x1 x2 x3 x4 x5 x6 x7 : Nat) (b : Bool), parseRet (parseB s) = .tuple #[.agg #[.int .u16 (x0 : Int), .int .u16 (x1 : Int), .int .u16 (x2 : Int), .int .u16 (x3 : Int), .int .u16 (x4 : Int), .int .u16 (x5 : Int), .int .u16 (x6 : Int), .int .u16 (x7 : Int)], .bool b] := by
  cases h : parseB s with
  | none => exact ⟨0, 0, 0, 0, 0, 0, 0, 0, false, rfl⟩
  | some l =>
    obtain ⟨x0, x1, x2, x3, x4, x5, x6, x7, rfl⟩ := list8 l (parseB_len s l h).1
    exact ⟨x0, x1, x2, x3, x4, x5, x6, x7, true, rfl⟩
theorem printB_small (gs : List Nat) (h8 : gs.length = 8) (hlt : ∀ x ∈ gs, x < 65536) : (printB gs).size ≤ 1000 := by
  unfold printB
  split
  · obtain ⟨x0, x1, x2, x3, x4, x5, x6, x7, rfl⟩ := list8 gs h8
    have l6 : x6 < 65536 := hlt x6 (by simp)
    have l7 : x7 < 65536 := hlt x7 (by simp)
    have := text4_size (x6 / 256) (x6 % 256) (x7 / 256) (x7 % 256) (by omega) (by omega) (by omega) (by omega)
    rw [ByteArray.size_append, ofL_size]
    show 7 + (text4 (x6 / 256) (x6 % 256) (x7 / 256) (x7 % 256)).size ≤ 1000
    omega
  · split
    · have := rowS_small gs hlt
      omega
    · have h1 := rowS_small (gs.take (runB gs).1) (fun x hx => hlt x (List.mem_of_mem_take hx))
      have h2 := rowS_small (gs.drop ((runB gs).1 + (runB gs).2)) (fun x hx => hlt x (List.mem_of_mem_drop hx))
      have h3 : (gs.take (runB gs).1).length ≤ 8 := by simp; omega
      have h4 : (gs.drop ((runB gs).1 + (runB gs).2)).length ≤ 8 := by simp; omega
      rw [ByteArray.size_append, ByteArray.size_append, ofL_size]
      show _ + 2 + _ ≤ 1000
      omega
theorem hexG_dots (a b c d : Nat) (ha : a < 256) : hexG (text4 a b c d) = none := by
  unfold hexG
  split
  · rfl
  · have hl : (dec a).length < (dec a ++ 46 :: (dec b ++ 46 :: (dec c ++ 46 :: dec d))).length := by simp
    unfold text4
    apply num_bad0 _ 16 (dec a).length
    · rw [ofL_size]; exact hl
    · rw [byteOf_ofL, List.getD_eq_getElem?_getD, List.getElem?_append_right (Nat.le_refl _)]
      simp
      decide
theorem text4_mem (a b c d : Nat) : ∀ x ∈ dec a ++ 46 :: (dec b ++ 46 :: (dec c ++ 46 :: dec d)), x.toNat ≠ 58 := by
  intro x hx
  have hd : ∀ u, ∀ x ∈ dec u, x.toNat ≠ 58 := fun u x hx => by have := dec_mem u x hx; omega
  simp only [List.mem_append, List.mem_cons] at hx
  rcases hx with h | h | h | h | h | h | h
  · exact hd a x h
  · rw [h]; decide
  · exact hd b x h
  · rw [h]; decide
  · exact hd c x h
  · rw [h]; decide
  · exact hd d x h
theorem zer_at (gs : List Nat) : ∀ k, zer gs k = true → ∀ j, j < k → gs.getD j 0 = 0
  | 0, _, j, h => by omega
  | k + 1, h, j, hj => by
    rw [zer, Bool.and_eq_true, decide_eq_true_eq] at h
    by_cases e : j = k
    · rw [e]; exact h.2
    · exact zer_at gs k h.1 j (by omega)
/-- What is printed is read as it was. -/
theorem parse_print (gs : List Nat) (h8 : gs.length = 8) (hlt : ∀ x ∈ gs, x < 65536) : parseB (printB gs) = some gs := by
  unfold printB
  by_cases hm : mappedB gs = true
  · rw [if_pos hm]
    unfold mappedB at hm
    rw [Bool.and_eq_true, decide_eq_true_eq] at hm
    obtain ⟨x0, x1, x2, x3, x4, x5, x6, x7, rfl⟩ := list8 gs h8
    have z0 := zer_at _ 5 hm.1 0 (by decide)
    have z1 := zer_at _ 5 hm.1 1 (by decide)
    have z2 := zer_at _ 5 hm.1 2 (by decide)
    have z3 := zer_at _ 5 hm.1 3 (by decide)
    have z4 := zer_at _ 5 hm.1 4 (by decide)
    have z5 := hm.2
    simp at z0 z1 z2 z3 z4 z5
    subst z0 z1 z2 z3 z4 z5
    have l6 : x6 < 65536 := hlt x6 (by simp)
    have l7 : x7 < 65536 := hlt x7 (by simp)
    show parseB (ofL [58, 58, 102, 102, 102, 102, 58] ++ text4 (x6 / 256) (x6 % 256) (x7 / 256) (x7 % 256)) = _
    have e : ofL [58, 58, 102, 102, 102, 102, 58] ++ text4 (x6 / 256) (x6 % 256) (x7 / 256) (x7 % 256) = ofL ([] ++ 58 :: 58 :: ([102, 102, 102, 102] ++ 58 :: (dec (x6 / 256) ++ 46 :: (dec (x6 % 256) ++ 46 :: (dec (x7 / 256) ++ 46 :: dec (x7 % 256)))))) := eq_ofL (by
      rw [data_append, ofL_data, text4_data]; rfl)
    rw [e, parse_merge [] _ trivial (.inl rfl)]
    have g1 : groupsB (ofL []) false = some [] := rfl
    have g2 : groupsB (ofL ([102, 102, 102, 102] ++ 58 :: (dec (x6 / 256) ++ 46 :: (dec (x6 % 256) ++ 46 :: (dec (x7 / 256) ++ 46 :: dec (x7 % 256)))))) true = some [65535, x6, x7] := by
      unfold groupsB
      have hp : pieces (ofL ([102, 102, 102, 102] ++ 58 :: (dec (x6 / 256) ++ 46 :: (dec (x6 % 256) ++ 46 :: (dec (x7 / 256) ++ 46 :: dec (x7 % 256)))))) 58 = [ofL [102, 102, 102, 102], text4 (x6 / 256) (x6 % 256) (x7 / 256) (x7 % 256)] := by
        rw [pieces_ofL, cutL_first 58 58 rfl _ _ (by decide), cutL_none 58 _ (text4_mem _ _ _ _)]
        rfl
      rw [if_neg (by rw [ofL_size]; simp), hp]
      have k1 : grTo [ofL [102, 102, 102, 102], text4 (x6 / 256) (x6 % 256) (x7 / 256) (x7 % 256)] true 1 = some [65535] := grTo_hex (k := 0) (out := []) rfl (by
        show hexG (ofL [102, 102, 102, 102]) = some 65535
        unfold hexG
        rw [numB_ofL _ _ (by simp)]
        decide)
      have k2 := grTo_strict (v := num4 (x6 / 256) (x6 % 256) (x7 / 256) (x7 % 256)) k1 (hexG_dots _ _ _ _ (by omega)) (text4_strict _ _ _ _ _ (by omega) (by omega) (by omega) (by omega) rfl)
      show grTo _ true (1 + 1) = _
      rw [k2, if_pos ⟨rfl, by simp⟩]
      have v1 : num4 (x6 / 256) (x6 % 256) (x7 / 256) (x7 % 256) / 65536 = x6 := by unfold num4; omega
      have v2 : num4 (x6 / 256) (x6 % 256) (x7 / 256) (x7 % 256) % 65536 = x7 := by unfold num4; omega
      rw [v1, v2]
      rfl
    rw [g1, g2]
    rfl
  · rw [if_neg hm]
    by_cases h0 : (runB gs).2 = 0
    · rw [if_pos h0, rowS_ofL, parse_plain _ (rowL_gap gs hlt), groupsB_row gs true hlt]
      simp only [if_pos h8]
    · rw [if_neg h0]
      have hr := runTo_zrun gs 8
      have hle := runTo_le gs 8 (Nat.le_refl _)
      change (runB gs).2 = 0 ∨ (2 ≤ (runB gs).2 ∧ (runB gs).2 = zrun gs (runB gs).1) at hr
      change (runB gs).1 + (runB gs).2 ≤ 8 at hle
      generalize (runB gs).1 = A at *
      generalize (runB gs).2 = M at *
      rcases hr with hr | ⟨h2, hz⟩
      · exact absurd hr h0
      · have lt1 : ∀ x ∈ gs.take A, x < 65536 := fun x hx => hlt x (List.mem_of_mem_take hx)
        have lt2 : ∀ x ∈ gs.drop (A + M), x < 65536 := fun x hx => hlt x (List.mem_of_mem_drop hx)
        have e : rowS (gs.take A) ++ ofL [58, 58] ++ rowS (gs.drop (A + M)) = ofL (rowL (gs.take A) ++ 58 :: 58 :: rowL (gs.drop (A + M))) := eq_ofL (by
          rw [data_append, data_append, rowS_list, rowS_list, ofL_data]; simp)
        have hl : rowL (gs.take A) = [] ∨ ((rowL (gs.take A)).getD ((rowL (gs.take A)).length - 1) 0).toNat ≠ 58 := by
          by_cases hA : gs.take A = []
          · rw [hA]; exact .inl rfl
          · exact .inr (rowL_last _ lt1 hA)
        rw [e, parse_merge _ _ (rowL_gap _ lt1) hl, groupsB_row _ _ lt1, groupsB_row _ _ lt2]
        have n1 : (gs.take A).length = A := by simp; omega
        have n2 : (gs.drop (A + M)).length = 8 - (A + M) := by simp; omega
        show (if 7 < (gs.take A).length + (gs.drop (A + M)).length then none else _) = _
        rw [n1, n2, if_neg (by omega), show 8 - A - (8 - (A + M)) = A + M - A by omega, run_split gs A (A + M) h8 (by omega) hle (zrun_zeros gs M A hz.symm hle)]
end Go.Proofs.YtpgjkeakhjnckaaDoor
/- Contracts of the reference's Parse, Print of layer 4. -/
namespace Go.Proofs.YtpgjkeakhjnckaaDoor
open Go.RowKit
set_option linter.unusedVariables false
set_option maxRecDepth 20000

/-- The address of a text. -/
def parseA (s : ByteArray) : Option (Int × List Nat) := match strictB s with
  | some n => some (4, b4 n)
  | none => (parseB s).map fun gs => (6, byL gs)
def addrRet : Option (Int × List Nat) → Value
  | some (f, bs) => .tuple #[addrV f bs, .bool true]
  | none => .tuple #[addrV 0 (List.replicate 16 0), .bool false]
set_option maxRecDepth 100000 in
set_option maxHeartbeats 1000000 in
theorem refParseA_any (s : ByteArray) (w : World) (hs : s.size ≤ 100000) :
    Calls Tryd.prog 42 #[.string s] w fun e w' => e = .returned (addrRet (parseA s)) ∧ Below w.heap.size w w' := by
  have H2 := fun W => Lib.hid (refStrict_any s W (by omega))
  have H3 := fun W => Lib.hid (refParse_any s W hs)
  have HR := Lib.hid (AddrAt.of w 24 #[.int .i64 0, .int .u8 0, .int .u8 0, .int .u8 0, .int .u8 0, .int .u8 0, .int .u8 0, .int .u8 0, .int .u8 0, .int .u8 0, .int .u8 0, .int .u8 0, .int .u8 0, .int .u8 0, .int .u8 0, .int .u8 0, .int .u8 0] 0 (List.replicate 16 0) rfl (zero_addr 0))
  have B0 : Hid (Below w.heap.size w (w.alloc (.cells #[.int .i64 0, .int .u8 0, .int .u8 0, .int .u8 0, .int .u8 0, .int .u8 0, .int .u8 0, .int .u8 0, .int .u8 0, .int .u8 0, .int .u8 0, .int .u8 0, .int .u8 0, .int .u8 0, .int .u8 0, .int .u8 0, .int .u8 0] 24))) := Lib.hid ((Below.refl _ _).alloc (Nat.le_refl _) _)
  go_enter Tryd.func42, Tryd.ntmps42
  go_wp2_with fail
  generalize (w.alloc (.cells #[.int .i64 0, .int .u8 0, .int .u8 0, .int .u8 0, .int .u8 0, .int .u8 0, .int .u8 0, .int .u8 0, .int .u8 0, .int .u8 0, .int .u8 0, .int .u8 0, .int .u8 0, .int .u8 0, .int .u8 0, .int .u8 0, .int .u8 0] 24)) = W at *
  refine (H2 W).out.mono ?_
  rintro e w1 ⟨rfl, hb1⟩
  have HR1 := Lib.hid (HR.out.below hb1)
  have B1 := Lib.hid (chain B0.out hb1)
  clear HR B0 hb1 H2
  cases hq : strictB s with
  | some n =>
    have hn := strictB_lt s n hq
    have HO := Lib.hid (refOf4_any n w1 (by omega))
    have HE : Hid (parseA s = some (4, b4 n)) := Lib.hid (by simp [parseA, hq])
    clear H3 hq hn
    simp only [strictRet]
    go_wp2_with fail
    refine HO.out.mono ?_
    rintro e w2 ⟨rfl, hb2⟩
    have HR2 := Lib.hid (HR1.out.below hb2)
    have hbel := chain B1.out hb2
    have HLN := Lib.hid (b4_len n)
    clear HO HR1 B1 hb2
    go_wp2_with (refine store_addr HR2 _ _ HLN rfl rfl rfl rfl (fun W HW HA => ?_))
    refine bodyPost_ret (results_addr2 Tryd.results42 rfl HA.out) rfl ⟨by rw [HE.out]; rfl, by rw [HW.out]; exact below_cells (by omega) _ _ _ hbel⟩
  | none =>
    simp only [strictRet]
    go_wp2_with fail
    refine (H3 w1).out.mono ?_
    rintro e w2 ⟨rfl, hb2⟩
    have HR2 := Lib.hid (HR1.out.below hb2)
    have B2 := Lib.hid (chain B1.out hb2)
    clear H3 HR1 B1 hb2
    cases hp : parseB s with
    | some gs =>
      obtain ⟨hl, hlt⟩ := parseB_len s gs hp
      have HO := fun W => Lib.hid (refOf6_any gs W hl hlt)
      have HE : Hid (parseA s = some (6, byL gs)) := Lib.hid (by simp [parseA, hq, hp])
      have HLN : Hid ((byL gs).length = 16) := Lib.hid (by rw [byL_len, hl])
      obtain ⟨x0, x1, x2, x3, x4, x5, x6, x7, hgs⟩ := list8 gs hl
      have ha : arr8 gs = .agg #[.int .u16 (x0 : Int), .int .u16 (x1 : Int), .int .u16 (x2 : Int), .int .u16 (x3 : Int), .int .u16 (x4 : Int), .int .u16 (x5 : Int), .int .u16 (x6 : Int), .int .u16 (x7 : Int)] := by rw [hgs]; rfl
      rw [ha] at HO
      simp only [parseRet, Option.getD_some, Option.isSome_some, ha]
      have ba : Below w2.heap.size w2 (w2.alloc (.cells #[.int .u16 (x0 : Int), .int .u16 (x1 : Int), .int .u16 (x2 : Int), .int .u16 (x3 : Int), .int .u16 (x4 : Int), .int .u16 (x5 : Int), .int .u16 (x6 : Int), .int .u16 (x7 : Int)] 66)) := (Below.refl _ _).alloc (Nat.le_refl _) _
      have HR2a := Lib.hid (HR2.out.below ba)
      have B2a := Lib.hid (chain B2.out ba)
      clear hq hp hl hlt hgs ha HR2 B2 ba
      go_wp2_with fail
      generalize (w2.alloc (.cells #[.int .u16 (x0 : Int), .int .u16 (x1 : Int), .int .u16 (x2 : Int), .int .u16 (x3 : Int), .int .u16 (x4 : Int), .int .u16 (x5 : Int), .int .u16 (x6 : Int), .int .u16 (x7 : Int)] 66)) = W2 at *
      refine (HO W2).out.mono ?_
      rintro e w3 ⟨rfl, hb3⟩
      have HR3 := Lib.hid (HR2a.out.below hb3)
      have hbel := chain B2a.out hb3
      clear HO HR2a B2a hb3
      go_wp2_with (refine store_addr HR3 _ _ HLN rfl rfl rfl rfl (fun W HW HA => ?_))
      refine bodyPost_ret (results_addr2 Tryd.results42 rfl HA.out) rfl ⟨by rw [HE.out]; rfl, by rw [HW.out]; exact below_cells (by omega) _ _ _ hbel⟩
    | none =>
      have HE : Hid (parseA s = none) := Lib.hid (by simp [parseA, hq, hp])
      have HLN : Hid ((List.replicate 16 0).length = 16) := Lib.hid rfl
      have hz : arr8 [0, 0, 0, 0, 0, 0, 0, 0] = .agg #[.int .u16 0, .int .u16 0, .int .u16 0, .int .u16 0, .int .u16 0, .int .u16 0, .int .u16 0, .int .u16 0] := rfl
      simp only [parseRet, Option.getD_none, Option.isSome_none, hz]
      have ba : Below w2.heap.size w2 (w2.alloc (.cells #[.int .u16 0, .int .u16 0, .int .u16 0, .int .u16 0, .int .u16 0, .int .u16 0, .int .u16 0, .int .u16 0] 66)) := (Below.refl _ _).alloc (Nat.le_refl _) _
      have HR2a := Lib.hid (HR2.out.below ba)
      have B2a := Lib.hid (chain B2.out ba)
      clear hq hp hz HR2 B2 ba
      go_wp2_with (refine store_addr HR2a _ _ (f := 0) (bs := List.replicate 16 0) HLN rfl rfl rfl rfl (fun W HW HA => ?_))
      refine bodyPost_ret (results_addr2 Tryd.results42 rfl HA.out) rfl ⟨by rw [HE.out]; rfl, by rw [HW.out]; exact below_cells (by omega) _ _ _ B2a.out⟩

/-- What is printed of an address. -/
def printA (f : Int) (bs : List Nat) : ByteArray := if f = 4 then text4 (bs.getD 0 0) (bs.getD 1 0) (bs.getD 2 0) (bs.getD 3 0) else if f = 6 then printB (grL bs 8) else ⟨#[]⟩
theorem fourB_num (bs : List Nat) : fourB bs = num4 (bs.getD 0 0) (bs.getD 1 0) (bs.getD 2 0) (bs.getD 3 0) := by
  simp [fourB, fourTo, num4]
set_option maxRecDepth 100000 in
set_option maxHeartbeats 1000000 in
theorem refPrintA_any (f : Int) (bs : List Nat) (w : World) (h16 : bs.length = 16) (hlt : ∀ x ∈ bs, x < 256) :
    Calls Tryd.prog 46 #[addrV f bs] w fun e w' => e = .returned (.string (printA f bs)) ∧ Below w.heap.size w w' := by
  have HF := fun W => Lib.hid (refFour_any f bs W h16 hlt)
  have HG := fun W => Lib.hid (refGroups4_any f bs W h16 hlt)
  have HP4 := fun W => Lib.hid (refPrint_any (bs.getD 0 0) (bs.getD 1 0) (bs.getD 2 0) (bs.getD 3 0) (fourB bs) W (byte_lt hlt 0) (byte_lt hlt 1) (byte_lt hlt 2) (byte_lt hlt 3) (fourB_num bs))
  have HP6 := fun W => Lib.hid (refPrint6_any (grL bs 8) W (grL_len bs 8) (grL_lt bs hlt 8))
  obtain ⟨x0, x1, x2, x3, x4, x5, x6, x7, hgs⟩ := list8 (grL bs 8) (grL_len bs 8)
  have hg : arr8 (grL bs 8) = .agg #[.int .u16 (x0 : Int), .int .u16 (x1 : Int), .int .u16 (x2 : Int), .int .u16 (x3 : Int), .int .u16 (x4 : Int), .int .u16 (x5 : Int), .int .u16 (x6 : Int), .int .u16 (x7 : Int)] := by rw [hgs]; rfl
  rw [hg] at HP6 HG
  obtain ⟨y0, y1, y2, y3, y4, y5, y6, y7, y8, y9, y10, y11, y12, y13, y14, y15, hbs⟩ := list16 bs h16
  have ha : addrV f bs = .agg #[.int .i64 f, .int .u8 (y0 : Int), .int .u8 (y1 : Int), .int .u8 (y2 : Int), .int .u8 (y3 : Int), .int .u8 (y4 : Int), .int .u8 (y5 : Int), .int .u8 (y6 : Int), .int .u8 (y7 : Int), .int .u8 (y8 : Int), .int .u8 (y9 : Int), .int .u8 (y10 : Int), .int .u8 (y11 : Int), .int .u8 (y12 : Int), .int .u8 (y13 : Int), .int .u8 (y14 : Int), .int .u8 (y15 : Int)] := by rw [hbs]; rfl
  rw [ha]
  have hA := AddrAt.new w 24 f y0 y1 y2 y3 y4 y5 y6 y7 y8 y9 y10 y11 y12 y13 y14 y15
  rw [← hbs] at hA
  have HA := Lib.hid hA
  have B0 : Hid (Below w.heap.size w (w.alloc (.cells #[.int .i64 f, .int .u8 (y0 : Int), .int .u8 (y1 : Int), .int .u8 (y2 : Int), .int .u8 (y3 : Int), .int .u8 (y4 : Int), .int .u8 (y5 : Int), .int .u8 (y6 : Int), .int .u8 (y7 : Int), .int .u8 (y8 : Int), .int .u8 (y9 : Int), .int .u8 (y10 : Int), .int .u8 (y11 : Int), .int .u8 (y12 : Int), .int .u8 (y13 : Int), .int .u8 (y14 : Int), .int .u8 (y15 : Int)] 24))) := Lib.hid ((Below.refl _ _).alloc (Nat.le_refl _) _)
  clear ha hbs h16 hlt hg hgs hA
  by_cases h4 : f = 4
  · subst h4
    have HE : Hid (printA 4 bs = text4 (bs.getD 0 0) (bs.getD 1 0) (bs.getD 2 0) (bs.getD 3 0)) := Lib.hid (if_pos rfl)
    go_enter Tryd.func46, Tryd.ntmps46
    go_wp2_with (refine load_addr HA _ rfl rfl rfl ?_)
    generalize (w.alloc (.cells #[.int .i64 4, .int .u8 (y0 : Int), .int .u8 (y1 : Int), .int .u8 (y2 : Int), .int .u8 (y3 : Int), .int .u8 (y4 : Int), .int .u8 (y5 : Int), .int .u8 (y6 : Int), .int .u8 (y7 : Int), .int .u8 (y8 : Int), .int .u8 (y9 : Int), .int .u8 (y10 : Int), .int .u8 (y11 : Int), .int .u8 (y12 : Int), .int .u8 (y13 : Int), .int .u8 (y14 : Int), .int .u8 (y15 : Int)] 24)) = W at *
    refine (HF W).out.mono ?_
    rintro e w1 ⟨rfl, hb1⟩
    generalize fourB bs = n at *
    go_wp2_with fail
    refine (HP4 w1).out.mono ?_
    rintro e w2 ⟨rfl, hb2⟩
    go_wp2_with fail
    go_ret
    exact ⟨by rw [HE.out]; rfl, by first | exact chain (chain B0.out hb1) hb2 | exact chain hb1 hb2⟩
  · by_cases h6 : f = 6
    · subst h6
      have HE : Hid (printA 6 bs = printB (grL bs 8)) := Lib.hid rfl
      go_enter Tryd.func46, Tryd.ntmps46
      go_wp2_with (refine load_addr HA _ rfl rfl rfl ?_)
      generalize (w.alloc (.cells #[.int .i64 6, .int .u8 (y0 : Int), .int .u8 (y1 : Int), .int .u8 (y2 : Int), .int .u8 (y3 : Int), .int .u8 (y4 : Int), .int .u8 (y5 : Int), .int .u8 (y6 : Int), .int .u8 (y7 : Int), .int .u8 (y8 : Int), .int .u8 (y9 : Int), .int .u8 (y10 : Int), .int .u8 (y11 : Int), .int .u8 (y12 : Int), .int .u8 (y13 : Int), .int .u8 (y14 : Int), .int .u8 (y15 : Int)] 24)) = W at *
      refine (HG W).out.mono ?_
      rintro e w1 ⟨rfl, hb1⟩
      go_wp2_with fail
      refine (HP6 w1).out.mono ?_
      rintro e w2 ⟨rfl, hb2⟩
      go_wp2_with fail
      go_ret
      exact ⟨by rw [HE.out]; rfl, by first | exact chain (chain B0.out hb1) hb2 | exact chain hb1 hb2⟩
    · have HE : Hid (printA f bs = ⟨#[]⟩) := Lib.hid (by unfold printA; rw [if_neg h4, if_neg h6])
      go_enter Tryd.func46, Tryd.ntmps46
      go_wp2_with fail
      go_ret
      exact ⟨by rw [HE.out]; rfl, by first | exact B0.out | exact Below.refl _ _⟩
end Go.Proofs.YtpgjkeakhjnckaaDoor
/- Texts of addresses of 128 bits, put together of groups' texts: how they are read; plain facts. -/
namespace Go.Proofs.YtpgjkeakhjnckaaDoor
open Go.RowKit
set_option linter.unusedVariables false
set_option maxRecDepth 20000

/-- Texts with colons between. -/
def rowT : List (List UInt8) → List UInt8
  | [] => []
  | [t] => t
  | t :: u :: r => t ++ 58 :: rowT (u :: r)
theorem rowT_rowL : ∀ l : List Nat, rowL l = rowT (l.map groupL)
  | [] => rfl
  | [x] => rfl
  | x :: y :: r => by
    rw [rowL, rowT_rowL (y :: r)]
    rfl
/-- A text of a group: not empty, without colons. -/
def Plain6 (t : List UInt8) : Prop := t ≠ [] ∧ ∀ c ∈ t, c.toNat ≠ 58
theorem rowT_cut : ∀ ts : List (List UInt8), ts ≠ [] → (∀ t ∈ ts, ∀ c ∈ t, c.toNat ≠ 58) → cutL 58 (rowT ts) = ts
  | [], h, _ => absurd rfl h
  | [t], _, h => by rw [rowT, cutL_none 58 _ (h t (by simp))]
  | t :: u :: r, _, h => by rw [rowT, cutL_first 58 58 rfl _ _ (h t (by simp)), rowT_cut (u :: r) (by simp) (fun x hx => h x (by simp [hx]))]
theorem rowT_head : ∀ ts : List (List UInt8), ts ≠ [] → (∀ t ∈ ts, Plain6 t) → ∃ c r, rowT ts = c :: r ∧ c.toNat ≠ 58
  | [], h, _ => absurd rfl h
  | [t], _, h => by
    rw [rowT]
    cases ht : t with
    | nil => exact absurd ht (h t (by simp)).1
    | cons c r => exact ⟨c, r, rfl, (h t (by simp)).2 c (by rw [ht]; simp)⟩
  | t :: u :: r, _, h => by
    rw [rowT]
    cases ht : t with
    | nil => exact absurd ht (h t (by simp)).1
    | cons c z => exact ⟨c, z ++ 58 :: rowT (u :: r), rfl, (h t (by simp)).2 c (by rw [ht]; simp)⟩
theorem rowT_gap : ∀ ts : List (List UInt8), (∀ t ∈ ts, Plain6 t) → noGap (rowT ts)
  | [], _ => trivial
  | [t], h => by rw [rowT]; exact noGap_plain _ (h t (by simp)).2
  | t :: u :: r, h => by
    rw [rowT]
    exact noGap_join _ _ (h t (by simp)).2 (rowT_gap (u :: r) (fun x hx => h x (by simp [hx]))) (rowT_head (u :: r) (by simp) (fun x hx => h x (by simp [hx]))) (h t (by simp)).1
theorem rowT_ne (ts : List (List UInt8)) (h0 : ts ≠ []) (h : ∀ t ∈ ts, Plain6 t) : rowT ts ≠ [] := by
  obtain ⟨c, r, e, _⟩ := rowT_head ts h0 h
  rw [e]; simp
theorem rowT_last : ∀ ts : List (List UInt8), (∀ t ∈ ts, Plain6 t) → ts ≠ [] → ((rowT ts).getD ((rowT ts).length - 1) 0).toNat ≠ 58
  | [], _, h => absurd rfl h
  | [t], h, _ => by
    rw [rowT]
    have h0 : 0 < t.length := List.length_pos_iff.2 (h t (by simp)).1
    rw [List.getD_eq_getElem?_getD, List.getElem?_eq_getElem (by omega)]
    exact (h t (by simp)).2 _ (List.getElem_mem _)
  | t :: u :: r, h, _ => by
    have ih := rowT_last (u :: r) (fun z hz => h z (by simp [hz])) (by simp)
    have hn : 0 < (rowT (u :: r)).length := List.length_pos_iff.2 (rowT_ne (u :: r) (by simp) (fun z hz => h z (by simp [hz])))
    rw [rowT]
    have e : (t ++ 58 :: rowT (u :: r)).getD ((t ++ 58 :: rowT (u :: r)).length - 1) 0 = (rowT (u :: r)).getD ((rowT (u :: r)).length - 1) 0 := by
      rw [List.getD_eq_getElem?_getD, List.getD_eq_getElem?_getD, List.length_append, List.length_cons, List.getElem?_append_right (by omega), show t.length + ((rowT (u :: r)).length + 1) - 1 - t.length = ((rowT (u :: r)).length - 1) + 1 by omega, List.getElem?_cons_succ]
    rw [e]
    exact ih
/-- A colon behind a row of texts stays single. -/
theorem noGap_colon : ∀ l : List UInt8, noGap l → (l.getD (l.length - 1) 0).toNat ≠ 58 → l ≠ [] → noGap (l ++ [58])
  | [], _, _, h => absurd rfl h
  | [x], _, h, _ => ⟨fun h2 => h (by simpa using h2.1), trivial⟩
  | x :: y :: r, hg, h, _ => ⟨hg.1, noGap_colon (y :: r) hg.2 (by simpa using h) (by simp)⟩
theorem noGap_ahead (l : List UInt8) (hg : noGap l) (h : ∃ c r, l = c :: r ∧ c.toNat ≠ 58) : noGap (58 :: l) := by
  obtain ⟨c, r, rfl, hc⟩ := h
  exact ⟨fun h2 => hc h2.2, hg⟩

theorem pieces_cutL (l : List UInt8) : pieces (ofL l) 58 = (cutL 58 l).map ofL := pieces_ofL l 58
/-- A piece that is neither a group nor a strict text: there are no groups. -/
theorem groups_stuck (l : List UInt8) (dot : Bool) (ts : List (List UInt8)) (h0 : l ≠ []) (hc : cutL 58 l = ts) (t : List UInt8) (ht : t ∈ ts) (hx : hexG (ofL t) = none) (hs : strictB (ofL t) = none) : groupsB (ofL l) dot = none := by
  unfold groupsB
  rw [if_neg (by rw [ofL_size]; intro e; exact h0 (List.eq_nil_of_length_eq_zero e)), pieces_cutL, hc]
  obtain ⟨k, hk, rfl⟩ := List.getElem_of_mem ht
  have e : (ts.map ofL).getD k ⟨#[]⟩ = ofL ts[k] := by
    rw [List.getD_eq_getElem?_getD, List.getElem?_map, List.getElem?_eq_getElem hk]
    rfl
  apply grTo_dead (k := k + 1) (by rw [List.length_map]; omega)
  cases h : grTo (ts.map ofL) dot k with
  | none => rw [grTo, h]
  | some out => exact grTo_stop h (by rw [e]; exact hx) (by rw [e]; exact hs)
theorem hexG_nil : hexG (ofL []) = none := rfl
theorem strictB_plain (t : List UInt8) (h : ∀ c ∈ t, c.toNat ≠ 46) : strictB (ofL t) = none := by
  unfold strictB
  rw [pieces_ofL, cutL_none 46 t h]
  rfl
theorem strictB_nil : strictB (ofL []) = none := strictB_plain [] (by simp)
/-- Groups of texts that are all numbers. -/
theorem grTo_texts (ts : List (List UInt8)) (xs : List Nat) (dot : Bool) (hl : ts.length ≤ xs.length) (h : ∀ k (hk : k < ts.length), hexG (ofL ts[k]) = some (xs.getD k 0)) (us : List (List UInt8)) : ∀ k, k ≤ ts.length → grTo ((ts ++ us).map ofL) dot k = some (xs.take k)
  | 0, _ => by simp [grTo]
  | k + 1, hk => by
    have e : ((ts ++ us).map ofL).getD k ⟨#[]⟩ = ofL (ts[k]'(by omega)) := by
      rw [List.getD_eq_getElem?_getD, List.getElem?_map, List.getElem?_append_left (by omega), List.getElem?_eq_getElem (by omega)]
      rfl
    rw [grTo_hex (grTo_texts ts xs dot hl h us k (by omega)) (by rw [e]; exact h k (by omega))]
    congr 1
    rw [List.take_add_one, List.getD_eq_getElem?_getD, List.getElem?_eq_getElem (by omega)]
    rfl
theorem groups_texts (ts : List (List UInt8)) (xs : List Nat) (dot : Bool) (h0 : ts ≠ []) (hp : ∀ t ∈ ts, Plain6 t) (hl : ts.length = xs.length) (h : ∀ k (hk : k < ts.length), hexG (ofL ts[k]) = some (xs.getD k 0)) : groupsB (ofL (rowT ts)) dot = some xs := by
  unfold groupsB
  rw [if_neg (by rw [ofL_size]; intro e; exact rowT_ne ts h0 hp (List.eq_nil_of_length_eq_zero e)), pieces_cutL, rowT_cut ts h0 (fun t ht => (hp t ht).2), List.length_map]
  have := grTo_texts ts xs dot (by omega) h [] ts.length (Nat.le_refl _)
  rw [List.append_nil] at this
  rw [this, List.take_of_length_le (by omega)]

theorem rowT_snoc (x : List UInt8) : ∀ ts : List (List UInt8), rowT (ts ++ [x]) = (if 0 < ts.length then rowT ts ++ [58] else rowT ts) ++ x
  | [] => by simp [rowT]
  | [y] => by simp [rowT]
  | y :: z :: r => by
    have ih := rowT_snoc x (z :: r)
    rw [if_pos (by simp)] at ih
    rw [if_pos (by simp)]
    show rowT (y :: z :: (r ++ [x])) = _
    rw [rowT, rowT]
    have e : z :: (r ++ [x]) = (z :: r) ++ [x] := rfl
    rw [e, ih]
    simp
/-- What the reference's Join makes of texts. -/
theorem join_rowT (ts : List (List UInt8)) : (joinB (ts.map ofL) { data := #[58] }).data.toList = rowT ts := by
  have key : ∀ n (l : List (List UInt8)), l.length = n → (joinB (l.map ofL) { data := #[58] }).data.toList = rowT l := by
    intro n
    induction n with
    | zero =>
      intro l h
      have := List.eq_nil_of_length_eq_zero h
      subst this
      rfl
    | succ n ih =>
      intro l h
      obtain ⟨l', x, rfl⟩ : ∃ l' x, l = l' ++ [x] := ⟨l.dropLast, l.getLast (by intro e; rw [e] at h; simp at h), (List.dropLast_concat_getLast _).symm⟩
      have hl' : l'.length = n := by simp at h; exact h
      rw [List.map_append, List.map_cons, List.map_nil, joinB_snoc, rowT_snoc, data_append, List.length_map, ofL_data]
      have ih' := ih l' hl'
      by_cases h0 : 0 < l'.length
      · rw [if_pos h0, if_pos h0, data_append, ih']
      · rw [if_neg h0, if_neg h0, ih']
  exact key ts.length ts rfl

/-- A great digit. -/
def hexU (d : Nat) : UInt8 := if d < 10 then UInt8.ofNat (48 + d) else UInt8.ofNat (55 + d)
theorem hexU_nat (d : Nat) (h : d < 16) : (hexU d).toNat = if d < 10 then 48 + d else 55 + d := by
  unfold hexU
  split
  · rw [UInt8.toNat_ofNat', Nat.mod_eq_of_lt (by omega)]
  · rw [UInt8.toNat_ofNat', Nat.mod_eq_of_lt (by omega)]
theorem digC_hexU (d : Nat) (h : d < 16) : digC (hexU d).toNat = d := by
  rw [hexU_nat d h]
  unfold digC
  by_cases h1 : d < 10
  · rw [if_pos h1, if_pos (by omega)]; omega
  · rw [if_neg h1, if_neg (by omega), if_neg (by omega), if_pos (by omega)]; omega
/-- A group's four great digits. -/
def upL (n : Nat) : List UInt8 := [hexU (n / 4096 % 16), hexU (n / 256 % 16), hexU (n / 16 % 16), hexU (n % 16)]
theorem upL_mem (n : Nat) : ∀ c ∈ upL n, c.toNat ≠ 58 ∧ c.toNat ≠ 46 := by
  intro c hc
  have one : ∀ d, d < 16 → (hexU d).toNat ≠ 58 ∧ (hexU d).toNat ≠ 46 := by
    intro d hd
    rw [hexU_nat d hd]
    split <;> omega
  simp only [upL, List.mem_cons, List.not_mem_nil, or_false] at hc
  rcases hc with h | h | h | h <;> (rw [h]; exact one _ (by omega))
theorem upL_plain (n : Nat) : Plain6 (upL n) := ⟨by simp [upL], fun c hc => (upL_mem n c hc).1⟩
theorem upL_hex (n : Nat) (h : n < 65536) : hexG (ofL (upL n)) = some n := by
  unfold hexG
  rw [if_neg (by rw [ofL_size]; simp [upL]), numB_ofL _ _ (by simp [upL])]
  unfold upL
  simp only [numL]
  rw [digC_hexU _ (by omega), digC_hexU _ (by omega), digC_hexU _ (by omega), digC_hexU _ (by omega)]
  unfold most
  rw [if_neg (by omega), if_neg (by omega), if_neg (by omega), if_neg (by omega), if_neg (by omega), if_neg (by omega), if_neg (by omega), if_neg (by omega)]
  congr 1
  omega
theorem ups_plain (gs : List Nat) : ∀ t ∈ gs.map upL, Plain6 t := by
  intro t ht
  obtain ⟨x, _, rfl⟩ := List.mem_map.1 ht
  exact upL_plain x
theorem ups_hex (gs : List Nat) (hlt : ∀ x ∈ gs, x < 65536) : ∀ k (hk : k < (gs.map upL).length), hexG (ofL (gs.map upL)[k]) = some (gs.getD k 0) := by
  intro k hk
  have hk2 : k < gs.length := by simpa using hk
  rw [List.getElem_map, List.getD_eq_getElem?_getD, List.getElem?_eq_getElem hk2]
  exact upL_hex _ (hlt _ (List.getElem_mem _))
theorem parse_groups (ts : List (List UInt8)) (xs : List Nat) (h0 : ts ≠ []) (hp : ∀ t ∈ ts, Plain6 t) (hl : ts.length = xs.length) (h : ∀ k (hk : k < ts.length), hexG (ofL ts[k]) = some (xs.getD k 0)) : parseB (ofL (rowT ts)) = if xs.length = 8 then some xs else none := by
  rw [parse_plain _ (rowT_gap ts hp), groups_texts ts xs true h0 hp hl h]
theorem parse_stuck (l : List UInt8) (ts : List (List UInt8)) (hg : noGap l) (h0 : l ≠ []) (hc : cutL 58 l = ts) (t : List UInt8) (ht : t ∈ ts) (hx : hexG (ofL t) = none) (hs : strictB (ofL t) = none) : parseB (ofL l) = none := by
  rw [parse_plain _ hg, groups_stuck l true ts h0 hc t ht hx hs]
theorem ups_ne (gs : List Nat) (h8 : gs.length = 8) : gs.map upL ≠ [] := by
  intro e
  have := congrArg List.length e
  simp [h8] at this
theorem whole_ok (gs : List Nat) (h8 : gs.length = 8) (hlt : ∀ x ∈ gs, x < 65536) : parseB (ofL (rowT (gs.map upL))) = some gs := by
  rw [parse_groups _ gs (ups_ne gs h8) (ups_plain gs) (by simp) (ups_hex gs hlt), if_pos h8]
theorem whole_less (gs : List Nat) (h8 : gs.length = 8) (hlt : ∀ x ∈ gs, x < 65536) : parseB (ofL (rowT ((gs.take 7).map upL))) = none := by
  rw [parse_groups _ (gs.take 7) (by intro e; have := congrArg List.length e; simp [h8] at this) (ups_plain _) (by simp) (ups_hex _ (fun x hx => hlt x (List.mem_of_mem_take hx))), if_neg (by simp [h8])]
theorem whole_more (gs : List Nat) (h8 : gs.length = 8) (hlt : ∀ x ∈ gs, x < 65536) : parseB (ofL (rowT (gs.map upL) ++ [58, 48])) = none := by
  have e : rowT (gs.map upL) ++ [58, 48] = rowT (gs.map upL ++ [[48]]) := by
    rw [rowT_snoc, if_pos (by simp [h8])]; simp
  have hp : ∀ t ∈ gs.map upL ++ [[48]], Plain6 t := by
    intro t ht
    rcases List.mem_append.1 ht with h | h
    · exact ups_plain gs t h
    · rw [List.mem_singleton] at h; rw [h]; exact ⟨by simp, by decide⟩
  rw [e, parse_groups _ (gs ++ [0]) (by simp) hp (by simp) ?_, if_neg (by simp [h8])]
  intro k hk
  by_cases hk8 : k < 8
  · have hk2 : k < (gs.map upL).length := by simp [h8]; exact hk8
    rw [List.getElem_append_left hk2, ups_hex gs hlt k hk2, List.getD_eq_getElem?_getD, List.getD_eq_getElem?_getD, List.getElem?_append_left (by omega)]
  · have hk9 : k = 8 := by simp [h8] at hk; omega
    subst hk9
    have e1 : (gs.map upL ++ [[48]])[8] = [48] := by
      rw [List.getElem_append_right (by simp [h8])]; simp [h8]
    have e2 : (gs ++ [0]).getD 8 0 = 0 := by
      rw [List.getD_eq_getElem?_getD, List.getElem?_append_right (by omega)]; simp [h8]
    rw [e1, e2]
    rfl
theorem whole_long (gs : List Nat) (h8 : gs.length = 8) : parseB (ofL (48 :: rowT (gs.map upL))) = none := by
  obtain ⟨x0, x1, x2, x3, x4, x5, x6, x7, rfl⟩ := list8 gs h8
  have e : 48 :: rowT ([x0, x1, x2, x3, x4, x5, x6, x7].map upL) = rowT ((48 :: upL x0) :: [x1, x2, x3, x4, x5, x6, x7].map upL) := rfl
  have hp : ∀ t ∈ (48 :: upL x0) :: [x1, x2, x3, x4, x5, x6, x7].map upL, Plain6 t := by
    intro t ht
    rcases List.mem_cons.1 ht with h | h
    · rw [h]
      exact ⟨by simp, fun c hc => by
        rcases List.mem_cons.1 hc with h | h
        · rw [h]; decide
        · exact (upL_mem x0 c h).1⟩
    · exact ups_plain _ t h
  rw [e]
  refine parse_stuck _ _ (rowT_gap _ hp) (rowT_ne _ (by simp) hp) (rowT_cut _ (by simp) (fun t ht => (hp t ht).2)) (48 :: upL x0) (by simp) ?_ (strictB_plain _ (fun c hc => by
    rcases List.mem_cons.1 hc with h | h
    · rw [h]; decide
    · exact (upL_mem x0 c h).2))
  unfold hexG
  rw [if_pos (by rw [ofL_size]; simp [upL])]
theorem whole_ahead (gs : List Nat) (h8 : gs.length = 8) : parseB (ofL (58 :: rowT (gs.map upL))) = none := by
  have hc : cutL 58 (58 :: rowT (gs.map upL)) = [] :: gs.map upL := by
    show cutL 58 ([] ++ 58 :: rowT (gs.map upL)) = _
    rw [cutL_first 58 58 rfl _ _ (by simp), rowT_cut _ (ups_ne gs h8) (fun t ht => (ups_plain gs t ht).2)]
  exact parse_stuck _ _ (noGap_ahead _ (rowT_gap _ (ups_plain gs)) (rowT_head _ (ups_ne gs h8) (ups_plain gs))) (by simp) hc [] (by simp) hexG_nil strictB_nil
theorem whole_behind (gs : List Nat) (h8 : gs.length = 8) : parseB (ofL (rowT (gs.map upL) ++ [58])) = none := by
  have e : rowT (gs.map upL) ++ [58] = rowT (gs.map upL ++ [[]]) := by
    rw [rowT_snoc, if_pos (by simp [h8])]; simp
  have hc : cutL 58 (rowT (gs.map upL) ++ [58]) = gs.map upL ++ [[]] := by
    rw [e, rowT_cut _ (by simp) (fun t ht => by
      rcases List.mem_append.1 ht with h | h
      · exact (ups_plain gs t h).2
      · rw [List.mem_singleton] at h; rw [h]; simp)]
  exact parse_stuck _ _ (noGap_colon _ (rowT_gap _ (ups_plain gs)) (rowT_last _ (ups_plain gs) (ups_ne gs h8)) (rowT_ne _ (ups_ne gs h8) (ups_plain gs))) (by simp) hc [] (by simp) hexG_nil strictB_nil

/-- Two colons in place of a row of zeros. -/
theorem gaps_ok (gs : List Nat) (A K : Nat) (h8 : gs.length = 8) (hlt : ∀ x ∈ gs, x < 65536) (hAK : A < K) (hK : K ≤ 8) (hz : ∀ j, A ≤ j → j < K → gs.getD j 0 = 0) :
    parseB (ofL (rowL (gs.take A) ++ 58 :: 58 :: rowL (gs.drop K))) = some gs := by
  have lt1 : ∀ x ∈ gs.take A, x < 65536 := fun x hx => hlt x (List.mem_of_mem_take hx)
  have lt2 : ∀ x ∈ gs.drop K, x < 65536 := fun x hx => hlt x (List.mem_of_mem_drop hx)
  have hl : rowL (gs.take A) = [] ∨ ((rowL (gs.take A)).getD ((rowL (gs.take A)).length - 1) 0).toNat ≠ 58 := by
    by_cases hA : gs.take A = []
    · rw [hA]; exact .inl rfl
    · exact .inr (rowL_last _ lt1 hA)
  rw [parse_merge _ _ (rowL_gap _ lt1) hl, groupsB_row _ _ lt1, groupsB_row _ _ lt2]
  have n1 : (gs.take A).length = A := by simp; omega
  have n2 : (gs.drop K).length = 8 - K := by simp; omega
  show (if 7 < (gs.take A).length + (gs.drop K).length then none else some (gs.take A ++ List.replicate (8 - (gs.take A).length - (gs.drop K).length) 0 ++ gs.drop K)) = _
  rw [n1, n2, if_neg (by omega), show 8 - A - (8 - K) = K - A by omega, run_split gs A K h8 (by omega) hK hz]
theorem cutL_ne : ∀ l : List UInt8, cutL 58 l ≠ []
  | [] => by simp [cutL]
  | c :: l => by
    rw [cutL]
    split
    · simp
    · split <;> simp
theorem cutL_behind : ∀ (l : List UInt8), cutL 58 (l ++ [58]) = cutL 58 l ++ [[]]
  | [] => rfl
  | c :: l => by
    have ih := cutL_behind l
    have hn := cutL_ne l
    rw [List.cons_append, cutL, cutL, ih]
    split
    · rfl
    · cases h : cutL 58 l with
      | nil => exact absurd h hn
      | cons x r => rfl
theorem cutL_ahead (l : List UInt8) : cutL 58 (58 :: l) = [] :: cutL 58 l := by
  show cutL 58 ([] ++ 58 :: l) = _
  rw [cutL_first 58 58 rfl _ _ (by simp)]
theorem mergeB_none (oa : Option (List Nat)) : mergeB oa none = none := by cases oa <;> rfl
theorem rowL_ends (l : List Nat) (hlt : ∀ x ∈ l, x < 65536) : rowL l = [] ∨ ((rowL l).getD ((rowL l).length - 1) 0).toNat ≠ 58 := by
  by_cases h : l = []
  · rw [h]; exact .inl rfl
  · exact .inr (rowL_last _ hlt h)
theorem gaps_twice (a b : List Nat) (ha : ∀ x ∈ a, x < 65536) : parseB (ofL ((rowL a ++ 58 :: 58 :: rowL b) ++ [58, 58])) = none := by
  have e : (rowL a ++ 58 :: 58 :: rowL b) ++ [58, 58] = rowL a ++ 58 :: 58 :: (rowL b ++ [58] ++ [58]) := by simp
  rw [e, parse_merge _ _ (rowL_gap _ ha) (rowL_ends a ha), groups_stuck (rowL b ++ [58] ++ [58]) true _ (by simp) (cutL_behind _) [] (by simp) hexG_nil strictB_nil, mergeB_none]
theorem gaps_three (a b : List Nat) (ha : ∀ x ∈ a, x < 65536) : parseB (ofL (58 :: (rowL a ++ 58 :: 58 :: rowL b))) = none := by
  by_cases h : a = []
  · subst h
    show parseB (ofL ([] ++ 58 :: 58 :: (58 :: rowL b))) = none
    rw [parse_merge [] _ trivial (.inl rfl), groups_stuck (58 :: rowL b) true _ (by simp) (cutL_ahead _) [] (by simp) hexG_nil strictB_nil, mergeB_none]
  · have e : 58 :: (rowL a ++ 58 :: 58 :: rowL b) = (58 :: rowL a) ++ 58 :: 58 :: rowL b := rfl
    have hne := rowL_ne a h ha
    have hl : ((58 :: rowL a).getD ((58 :: rowL a).length - 1) 0).toNat ≠ 58 := by
      have := rowL_last a ha h
      have hp : 0 < (rowL a).length := List.length_pos_iff.2 hne
      rw [List.getD_eq_getElem?_getD] at this ⊢
      rw [List.length_cons, Nat.add_sub_cancel, show (rowL a).length = ((rowL a).length - 1) + 1 by omega, List.getElem?_cons_succ]
      exact this
    rw [e, parse_merge _ _ (noGap_ahead _ (rowL_gap a ha) (rowL_head a h ha)) (.inr hl), groups_stuck (58 :: rowL a) false _ (by simp) (cutL_ahead _) [] (by simp) hexG_nil strictB_nil]
    rfl

/-- A strict text's bytes. -/
def d4 (a b c d : Nat) : List UInt8 := dec a ++ 46 :: (dec b ++ 46 :: (dec c ++ 46 :: dec d))
theorem d4_plain (a b c d : Nat) : Plain6 (d4 a b c d) := ⟨by unfold d4; simp, text4_mem a b c d⟩
theorem groupL_plain (n : Nat) (h : n < 65536) : Plain6 (groupL n) := ⟨groupL_ne n h, groupL_mem n⟩
theorem ts_plain (l : List Nat) (hlt : ∀ x ∈ l, x < 65536) : ∀ t ∈ l.map groupL, Plain6 t := by
  intro t ht
  obtain ⟨x, hx, rfl⟩ := List.mem_map.1 ht
  exact groupL_plain x (hlt x hx)
theorem ts_hex (l : List Nat) (hlt : ∀ x ∈ l, x < 65536) : ∀ k (hk : k < (l.map groupL).length), hexG (ofL (l.map groupL)[k]) = some (l.getD k 0) := by
  intro k hk
  have hk2 : k < l.length := by simpa using hk
  rw [List.getElem_map, List.getD_eq_getElem?_getD, List.getElem?_eq_getElem hk2]
  exact hexG_group _ (hlt _ (List.getElem_mem _))
/-- Groups, and a strict text behind them. -/
theorem groups_dots (l : List Nat) (a b c d : Nat) (hlt : ∀ x ∈ l, x < 65536) (ha : a < 256) (hb : b < 256) (hc : c < 256) (hd : d < 256) :
    groupsB (ofL (rowT (l.map groupL ++ [d4 a b c d]))) true = some (l ++ [num4 a b c d / 65536, num4 a b c d % 65536]) := by
  have hp : ∀ t ∈ l.map groupL ++ [d4 a b c d], Plain6 t := by
    intro t ht
    rcases List.mem_append.1 ht with h | h
    · exact ts_plain l hlt t h
    · rw [List.mem_singleton] at h; rw [h]; exact d4_plain a b c d
  unfold groupsB
  rw [if_neg (by rw [ofL_size]; intro e; exact rowT_ne _ (by simp) hp (List.eq_nil_of_length_eq_zero e)), pieces_cutL, rowT_cut _ (by simp) (fun t ht => (hp t ht).2), List.length_map]
  have h1 := grTo_texts (l.map groupL) l true (by simp) (ts_hex l hlt) [d4 a b c d] l.length (by simp)
  have e : ((l.map groupL ++ [d4 a b c d]).map ofL).getD l.length ⟨#[]⟩ = text4 a b c d := by
    rw [List.getD_eq_getElem?_getD, List.getElem?_map, List.getElem?_append_right (by simp)]
    simp
    rfl
  have h2 := grTo_strict h1 (by rw [e]; exact hexG_dots a b c d ha) (by rw [e]; exact text4_strict a b c d _ ha hb hc hd rfl)
  rw [show (l.map groupL ++ [d4 a b c d]).length = l.length + 1 by simp, h2, if_pos ⟨rfl, by simp⟩, List.take_of_length_le (Nat.le_refl _)]
theorem dots_parse (l : List Nat) (a b c d : Nat) (hlt : ∀ x ∈ l, x < 65536) (ha : a < 256) (hb : b < 256) (hc : c < 256) (hd : d < 256) :
    parseB (ofL (rowT (l.map groupL ++ [d4 a b c d]))) = if l.length = 6 then some (l ++ [num4 a b c d / 65536, num4 a b c d % 65536]) else none := by
  have hp : ∀ t ∈ l.map groupL ++ [d4 a b c d], Plain6 t := by
    intro t ht
    rcases List.mem_append.1 ht with h | h
    · exact ts_plain l hlt t h
    · rw [List.mem_singleton] at h; rw [h]; exact d4_plain a b c d
  rw [parse_plain _ (rowT_gap _ hp), groups_dots l a b c d hlt ha hb hc hd]
  by_cases h : l.length = 6
  · simp [h]
  · simp [h]
theorem dots_ahead (l : List Nat) (a b c d : Nat) (h0 : l ≠ []) (hlt : ∀ x ∈ l, x < 65536) (ha : a < 256) (hb : b < 256) (hc : c < 256) (hd : d < 256) :
    parseB (ofL (rowT (d4 a b c d :: l.map groupL))) = none := by
  have hp : ∀ t ∈ d4 a b c d :: l.map groupL, Plain6 t := by
    intro t ht
    rcases List.mem_cons.1 ht with h | h
    · rw [h]; exact d4_plain a b c d
    · exact ts_plain l hlt t h
  rw [parse_plain _ (rowT_gap _ hp)]
  have hg : groupsB (ofL (rowT (d4 a b c d :: l.map groupL))) true = none := by
    unfold groupsB
    rw [if_neg (by rw [ofL_size]; intro e; exact rowT_ne _ (by simp) hp (List.eq_nil_of_length_eq_zero e)), pieces_cutL, rowT_cut _ (by simp) (fun t ht => (hp t ht).2)]
    have hl : 0 < l.length := List.length_pos_iff.2 h0
    have k1 : grTo ((d4 a b c d :: l.map groupL).map ofL) true (0 + 1) = none := by
      rw [grTo_strict (l := (d4 a b c d :: l.map groupL).map ofL) (dot := true) (k := 0) (v := num4 a b c d) (out := []) rfl (by exact hexG_dots a b c d ha) (by exact text4_strict a b c d _ ha hb hc hd rfl), if_neg (by simp; omega)]
    exact grTo_dead (by simp) k1
  rw [hg]

/-- What is printed of seven ones and a group. -/
theorem ones_run (x : Nat) : (runB [1, 1, 1, 1, 1, 1, 1, x]).2 = 0 := by
  unfold runB
  by_cases h : x = 0
  · subst h; decide
  · simp [runTo, zrun, zl, h]
theorem ones_list (x : Nat) : (printB [1, 1, 1, 1, 1, 1, 1, x]).data.toList = [49, 58, 49, 58, 49, 58, 49, 58, 49, 58, 49, 58, 49, 58] ++ groupL x := by
  have g1 : groupL 1 = [49] := by rw [groupL_one (by decide)]; decide
  have hm : mappedB [1, 1, 1, 1, 1, 1, 1, x] = false := by simp [mappedB, zer]
  unfold printB
  rw [hm, if_neg (by simp), if_pos (ones_run x), rowS_list]
  simp [rowL, g1]
theorem ones_cut (x : Nat) : (printB [1, 1, 1, 1, 1, 1, 1, x]).extract 14 (printB [1, 1, 1, 1, 1, 1, 1, x]).size = ofL (groupL x) := by
  have h : printB [1, 1, 1, 1, 1, 1, 1, x] = ofL ([49, 58, 49, 58, 49, 58, 49, 58, 49, 58, 49, 58, 49, 58] ++ groupL x) := eq_ofL (ones_list x)
  rw [h]
  apply eq_ofL
  rw [data_extract, ofL_data, ofL_size]
  simp
/-- The printed text of seven ones and a group, and what of it is cut. -/
theorem ones_text (x : Nat) (hx : x < 65536) : ∃ P : ByteArray, printB [1, 1, 1, 1, 1, 1, 1, x] = P ∧ P.extract 14 P.size = ofL (groupL x) ∧ 14 ≤ P.size ∧ P.size ≤ 1000 := by
  refine ⟨_, rfl, ones_cut x, ?_, printB_small _ rfl (by
    intro y hy
    simp at hy
    rcases hy with h | h <;> omega)⟩
  have h : printB [1, 1, 1, 1, 1, 1, 1, x] = ofL ([49, 58, 49, 58, 49, 58, 49, 58, 49, 58, 49, 58, 49, 58] ++ groupL x) := eq_ofL (ones_list x)
  rw [h, ofL_size]
  simp
end Go.Proofs.YtpgjkeakhjnckaaDoor

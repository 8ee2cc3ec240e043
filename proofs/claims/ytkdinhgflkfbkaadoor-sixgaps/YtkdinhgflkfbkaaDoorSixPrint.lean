/- The contract of six.Print. -/
import Derived.Test.YtkdinhgflkfbkaaDoorSixRun
import Derived.Test.YtkdinhgflkfbkaaDoorPrints
import Derived.Deep.RegionHeld3
import Derived.WalkSmall
namespace Go.Proofs.YtkdinhgflkfbkaaDoor
open Go.RowKit
set_option linter.unusedVariables false

/-- What the walks ask of the library's own variables: the table of powers of ten, 16's zeros, some number at MaxLen. -/
structure Tabs (w : World) : Prop where
  pow : Lib.TabIs Tryd.prog w "internal/strconv.uint64pow10" .u64 Lib.pow10Tab
  bru : BruIs w
  max : ∃ m, w.cell? ⟨0, 0, none⟩ = some (.int .i64 m)
theorem gPow10 : Tryd.prog.globalNamed "internal/strconv.uint64pow10" = some 1 := by kernel_rfl
theorem cell_lt {w : World} {g o : Nat} {v : Value} (h : w.cell? ⟨g, o, none⟩ = some v) : g < w.heap.size := by
  rcases Nat.lt_or_ge g w.heap.size with h2 | h2
  · exact h2
  · simp [World.cell?, Array.getElem?_eq_none h2] at h
theorem Tabs.below {w w' : World} (h : Tabs w) (hb : Below w.heap.size w w') : Tabs w' := by
  refine ⟨?_, h.bru.below hb, ?_⟩
  · have hc := h.pow.cell gPow10 0 (by rw [Lib.pow10Tab_length]; decide)
    exact var?_below hb gPow10 (cell_lt hc) h.pow
  · obtain ⟨m, hm⟩ := h.max
    exact ⟨m, by rw [hb.cell (p := ⟨0, 0, none⟩) (cell_lt hm)]; exact hm⟩

/-- What a part of the groups is printed as. -/
def PartFact (gs : List Nat) (f t : Int) (X : ByteArray) : Prop := ∃ F T : Nat, f = (F : Int) ∧ t = (T : Int) ∧ gs.length = 8 ∧ (∀ x ∈ gs, x < 65536) ∧ F ≤ T ∧ T ≤ 8 ∧ rowS ((gs.drop F).take (T - F)) = X
theorem part_held {gs hs : List Nat} {B : Nat} (v : Value) (f t : Int) (X : ByteArray) (W w : World) (hv : Hid (arr8 gs = v)) (h : Hid (PartFact gs f t X)) (hA : Hid (Tabs w ∧ Below W.heap.size W w ∧ Arr8 w B hs)) :
    Calls Tryd.prog 30 #[v, .int .i64 f, .int .i64 t] w fun e w' => e = .returned (.string X) ∧ Hid (Tabs w' ∧ Below W.heap.size W w' ∧ Arr8 w' B hs) := by
  obtain rfl := hv.out
  obtain ⟨F, T, rfl, rfl, h1, h2, h3, h4, rfl⟩ := h.out
  refine (printed_any gs F T w h1 h2 h3 h4 hA.out.1.bru).mono ?_
  rintro e w' ⟨rfl, hb⟩
  exact ⟨rfl, Lib.hid ⟨hA.out.1.below hb, chain hA.out.2.1 hb, hA.out.2.2.below hb⟩⟩

set_option maxRecDepth 100000 in
set_option maxHeartbeats 4000000 in
theorem sixPrint_any (gs : List Nat) (w : World) (h8 : gs.length = 8) (hlt : ∀ x ∈ gs, x < 65536) (ht : Tabs w) :
    Calls Tryd.prog 14 #[arr8 gs] w fun e w' => e = .returned (.string (printB gs)) ∧ Below w.heap.size w w' := by
  have hlt2 := hlt
  obtain ⟨x0, x1, x2, x3, x4, x5, x6, x7, hgs⟩ := list8 gs h8
  have hA := Arr8.new w 24 x0 x1 x2 x3 x4 x5 x6 x7
  have hb : Below w.heap.size w (w.alloc (.cells #[.int .u16 (x0 : Int), .int .u16 (x1 : Int), .int .u16 (x2 : Int), .int .u16 (x3 : Int), .int .u16 (x4 : Int), .int .u16 (x5 : Int), .int .u16 (x6 : Int), .int .u16 (x7 : Int)] 24)) := (Below.refl _ _).alloc (Nat.le_refl _) _
  have ha : arr8 gs = .agg #[.int .u16 (x0 : Int), .int .u16 (x1 : Int), .int .u16 (x2 : Int), .int .u16 (x3 : Int), .int .u16 (x4 : Int), .int .u16 (x5 : Int), .int .u16 (x6 : Int), .int .u16 (x7 : Int)] := by rw [hgs]; rfl
  have HT := Lib.hid ht
  have HM := Lib.hid (fun w => mapped_any gs w h8 hlt)
  have HRn := Lib.hid (fun w => sixRun_any gs w h8 hlt)
  have HV := Lib.hid ha
  rw [ha] at HM HRn
  rw [ha]
  go_enter Tryd.func14, Tryd.ntmps14
  go_wp2_with fail
  generalize w.alloc (.cells #[.int .u16 (x0 : Int), .int .u16 (x1 : Int), .int .u16 (x2 : Int), .int .u16 (x3 : Int), .int .u16 (x4 : Int), .int .u16 (x5 : Int), .int .u16 (x6 : Int), .int .u16 (x7 : Int)] 24) = W at *
  refine (HM.out _).mono ?_
  rintro e w1 ⟨rfl, hb1⟩
  have hA1 := hA.below hb1
  obtain ⟨c0, c1, c2, c3, c4, c5, c6, c7⟩ := hA1.all
  have HA := Lib.hid hA1
  clear hA hA1
  have hx6 : x6 < 65536 := hlt x6 (by rw [hgs]; simp)
  have hx7 : x7 < 65536 := hlt x7 (by rw [hgs]; simp)
  have HG := Lib.hid hgs
  have HLT := Lib.hid hlt
  have H8 := Lib.hid h8
  have b1 := chain hb hb1
  clear hlt hlt2 hgs h8 ha ht
  cases hm : mappedB gs with
  | true =>
    have HP : Hid (printB gs = ofL [58, 58, 102, 102, 102, 102, 58] ++ text4 (x6 / 256) (x6 % 256) (x7 / 256) (x7 % 256)) := Lib.hid (by unfold printB; rw [hm, if_pos rfl, HG.out]; rfl)
    obtain ⟨N, hN, eN⟩ : ∃ N : Nat, N = num4 (x6 / 256) (x6 % 256) (x7 / 256) (x7 % 256) ∧ (x6 : Int) * 65536 + (x7 : Int) = (N : Int) := ⟨_, rfl, by unfold num4; omega⟩
    have hNl : N ≤ 4294967295 := by omega
    have q1 : IntKind.u32.wrap ((x6 : Int) * 65536) = (x6 : Int) * 65536 := by rw [IntKind.wrap_u32]; omega
    have q2 : bits .or .u32 ((x6 : Int) * 65536) (x7 : Int) = (N : Int) := by
      rw [bits_join .u32 32 (by decide) (fun n h0 h1 => by rw [IntKind.wrap_u32]; omega) 16 ((x6 : Int) * 65536) x7 (by omega) (by omega) (by omega) (by omega) (by omega) (by omega)]
      omega
    have HC := Lib.hid (fun w h => print_any (x6 / 256) (x6 % 256) (x7 / 256) (x7 % 256) N w (by omega) (by omega) (by omega) (by omega) hN h)
    have hz := text4_size (x6 / 256) (x6 % 256) (x7 / 256) (x7 % 256) (by omega) (by omega) (by omega) (by omega)
    generalize text4 (x6 / 256) (x6 % 256) (x7 / 256) (x7 % 256) = T at *
    clear hm hN
    go_wp2_with fail
    refine (HC.out _ (fun w' hb' => (HT.out.below (chain b1 hb')).pow)).mono ?_
    rintro e w2 ⟨rfl, hb2⟩
    go_wp2_with fail
    go_ret
    exact ⟨str_ret (by rw [HP.out]; rfl), chain b1 hb2⟩
  | false =>
    have HM0 := Lib.hid hm
    clear hm
    have hrl := runTo_le gs 8 (Nat.le_refl _)
    obtain ⟨⟨A, M⟩, hAM⟩ : ∃ p, runB gs = p := ⟨_, rfl⟩
    rw [hAM] at HRn
    have hAM2 : A + M ≤ 8 := by
      have e : runTo gs 8 = (A, M) := hAM
      rw [e] at hrl
      exact hrl
    have HAM := Lib.hid hAM
    clear hrl hAM
    go_wp2_with fail
    refine (HRn.out _).mono ?_
    rintro e w2 ⟨rfl, hb2⟩
    have hA2 := HA.out.below hb2
    have b2 := chain b1 hb2
    have HT2 := Lib.hid (HT.out.below b2)
    clear c0 c1 c2 c3 c4 c5 c6 c7 HA
    obtain ⟨c0, c1, c2, c3, c4, c5, c6, c7⟩ := hA2.all
    have HA2 := Lib.hid hA2
    clear hA2
    unfold runRet
    by_cases hM : M = 0
    · have HP : Hid (printB gs = rowS ((gs.drop 0).take (8 - 0))) := Lib.hid (by unfold printB; rw [HM0.out, HAM.out]; simp [hM]; rw [List.take_of_length_le (by rw [H8.out]; exact Nat.le_refl _)])
      have hMb : ((M : Int) == 0) = true := by simp; omega
      clear hM
      go_wp2_with fail
      have HQ := Lib.hid (printed_any gs 0 8 w2 H8.out HLT.out (by decide) (by decide) HT2.out.bru)
      rw [HV.out] at HQ
      refine HQ.out.mono ?_
      rintro e w3 ⟨rfl, hb3⟩
      go_wp2_with fail
      go_ret
      exact ⟨by rw [HP.out]; rfl, chain b2 hb3⟩
    · have HP : Hid (printB gs = rowS (gs.take A) ++ ofL [58, 58] ++ rowS (gs.drop (A + M))) := Lib.hid (by unfold printB; rw [HM0.out, HAM.out]; simp [hM])
      have hMb : ((M : Int) == 0) = false := by simp; omega
      obtain ⟨K, hK, eK⟩ : ∃ K : Nat, A + M = K ∧ (A : Int) + (M : Int) = (K : Int) := ⟨_, rfl, by omega⟩
      have hK8 : K ≤ 8 := by omega
      have hA8 : A ≤ 8 := by omega
      rw [hK] at HP
      clear hM hK hAM2
      have kw : IntKind.i64.wrap (K : Int) = (K : Int) := by rw [IntKind.wrap_i64]; omega
      obtain ⟨X, hX⟩ : ∃ X, rowS (gs.take A) = X := ⟨_, rfl⟩
      obtain ⟨Y, hY⟩ : ∃ Y, rowS (gs.drop K) = Y := ⟨_, rfl⟩
      have hXz : X.size ≤ 40 := by
        rw [← hX]
        have h1 := rowS_small (gs.take A) (fun x hx => HLT.out x (List.mem_of_mem_take hx))
        have h2 : (gs.take A).length ≤ 8 := by simp; omega
        omega
      have hYz : Y.size ≤ 40 := by
        rw [← hY]
        have h1 := rowS_small (gs.drop K) (fun x hx => HLT.out x (List.mem_of_mem_drop hx))
        have h2 : (gs.drop K).length ≤ 8 := by have := H8.out; simp; omega
        omega
      rw [hX, hY] at HP
      have F1 : Hid (PartFact gs 0 (A : Int) X) := Lib.hid ⟨0, A, rfl, rfl, H8.out, HLT.out, Nat.zero_le _, hA8, by rw [List.drop_zero, Nat.sub_zero]; exact hX⟩
      have F2 : Hid (PartFact gs (K : Int) 8 Y) := Lib.hid ⟨K, 8, rfl, rfl, H8.out, HLT.out, hK8, Nat.le_refl _, by rw [List.take_of_length_le (by have := H8.out; simp; omega)]; exact hY⟩
      have hA3 : Hid (Tabs w2.drew ∧ Below w.heap.size w w2.drew ∧ Arr8 w2.drew w.heap.size [x0, x1, x2, x3, x4, x5, x6, x7]) := Lib.hid ⟨HT2.out.below (Below.refl _ _).drew, b2.drew, HA2.out.below (Below.refl _ _).drew⟩
      clear hX hY
      go_wp2_with fail
      go_region_with (first
        | (go_at_call 30; refine (part_held (gs := gs) (hs := [x0, x1, x2, x3, x4, x5, x6, x7]) (B := w.heap.size) _ _ _ _ _ _ (by with_reducible assumption) (by with_reducible assumption) (by with_reducible assumption)).mono ?_; rintro e w3 ⟨rfl, hA4⟩; obtain ⟨k0, k1, k2, k3, k4, k5, k6, k7⟩ := hA4.out.2.2.all))
      all_goals
        go_wp2_with fail
        go_ret
        exact ⟨str_ret (by rw [HP.out]; rfl), hA4.out.2.1⟩
end Go.Proofs.YtkdinhgflkfbkaaDoor

/- Contracts of the reference's row and Print of layer 3. -/
import Derived.Test.YtkdinhgflkfbkaaDoorRefSixPrint
import Derived.Deep.RegionHeld3
namespace Go.Proofs.YtkdinhgflkfbkaaDoor
open Go.RowKit
set_option linter.unusedVariables false

/-- A group's text. -/
def gS (n : Nat) : ByteArray := ofL (groupL n)
theorem gS_size (n : Nat) (h : n < 65536) : (gS n).size ≤ 4 := by
  unfold gS
  rw [ofL_size]
  exact (groupL_length n h).2
/-- Groups with colons between. -/
def rowS (l : List Nat) : ByteArray := joinTo (l.map gS) { data := #[58] } l.length
theorem joinTo_small (l : List Nat) (h : ∀ x ∈ l, x < 65536) : ∀ k, (joinTo (l.map gS) { data := #[58] } k).size ≤ 5 * k
  | 0 => Nat.le_refl _
  | k + 1 => by
    have ih := joinTo_small l h k
    have hx : ((l.map gS).getD k { data := #[] }).size ≤ 4 := by
      rw [List.getD_eq_getElem?_getD]
      cases hk : (l.map gS)[k]? with
      | none => exact Nat.zero_le _
      | some p =>
        rw [List.getElem?_map] at hk
        cases hl : l[k]? with
        | none => rw [hl] at hk; cases hk
        | some x =>
          rw [hl] at hk
          have := Option.some.inj hk
          subst this
          exact gS_size x (h x (List.mem_of_getElem? hl))
    rw [joinTo]
    split
    · rw [ByteArray.size_append, ByteArray.size_append]
      show _ + 1 + _ ≤ _
      omega
    · rw [ByteArray.size_append]
      omega
theorem rowS_small (l : List Nat) (h : ∀ x ∈ l, x < 65536) : (rowS l).size ≤ 5 * l.length := joinTo_small l h _

theorem own_rows {w : World} {B : Nat} {v : Value} {l : List ByteArray} (h : w.ownsRow B 9 1 v l.length (l.map Value.string)) :
    (v = .slice none 0 0 ∧ l.length = 0) ∨ ∃ g cap, v = .slice (some ⟨g, 0, none⟩) l.length cap ∧ StrRow w g l.length cap l := by
  have hh := h
  rcases h.2 with ⟨rfl, h0⟩ | ⟨g, cap, cur, rfl, hB, hg, h1, h2, _⟩
  · exact .inl ⟨rfl, h0⟩
  · refine .inr ⟨g, cap, rfl, rfl, h1, h2, ?_, fun i hi => ?_⟩
    · rcases Nat.lt_or_ge g w.heap.size with h | h
      · exact h
      · rw [Array.getElem?_eq_none h] at hg; cases hg
    · rw [own_cells hh i hi, List.getD_eq_getElem?_getD, List.getElem?_eq_getElem hi]
      rfl
set_option maxHeartbeats 400000 in
theorem refJoin_nil (sep : ByteArray) (w : World) : Calls Tryd.prog 20 #[.slice none 0 0, .string sep] w fun e w' => e = .returned (.string { data := #[] }) ∧ w = w' := by
  go_enter Tryd.func20, Tryd.ntmps20
  go_wp2
  refine wp_loop_rounds 1 ?_
  rw [rounds_succ]
  go_wp2
  go_ret
  exact ⟨rfl, rfl⟩

set_option maxRecDepth 100000 in
set_option maxHeartbeats 2000000 in
theorem refRow_any (l : List Nat) (G o n c : Nat) (w : World) (hn : l.length = n) (h8 : n ≤ 8) (hc : n ≤ c) (hcm : c ≤ 8) (hlt : ∀ x ∈ l, x < 65536) (hG : G < w.heap.size)
    (hcells : ∀ j, j < n → w.cell? ⟨G, o + j, none⟩ = some (.int .u16 ((l.getD j 0 : Nat) : Int))) :
    Calls Tryd.prog 33 #[.slice (some ⟨G, o, none⟩) n c] w fun e w' => e = .returned (.string (rowS l)) ∧ Below w.heap.size w w' := by
  obtain ⟨i0, hi0, hz0, hz1, hz2⟩ := info_parts Tryd.infoString
  have HC := Lib.hid hcells
  have HN := Lib.hid hn
  have HL := Lib.hid hlt
  clear hcells hn hlt
  go_enter Tryd.func33, Tryd.ntmps33
  go_wp2_with fail
  go_loopw [3, 4] (fun v i wr => ∃ k : Nat, k ≤ n ∧ i = .int .i64 k ∧ wr.ownsRow w.heap.size 9 1 v ((l.take k).map gS).length (((l.take k).map gS).map Value.string) ∧ Below w.heap.size w wr) (fun _ i _ => n - (intOf i).toNat)
  case atStart => exact ⟨0, Nat.zero_le _, rfl, World.ownsRow_nil _ _ _ _, Below.refl _ _⟩
  case round =>
    obtain ⟨k, hk, rfl, hown, hbel⟩ := hrel
    by_cases hkn : k < n
    · have hcell : wr.cell? ⟨G, o + k, none⟩ = some (.int .u16 ((l.getD k 0 : Nat) : Int)) := by rw [hbel.cell (p := ⟨G, o + k, none⟩) hG]; exact HC.out k hkn
      have hx : l.getD k 0 < 65536 := by
        rw [List.getD_eq_getElem?_getD, List.getElem?_eq_getElem (by rw [HN.out]; exact hkn)]
        exact HL.out _ (List.getElem_mem _)
      have et : (l.take (k + 1)).map gS = (l.take k).map gS ++ [gS (l.getD k 0)] := by
        have e : l.take (k + 1) = l.take k ++ [l.getD k 0] := by
          rw [List.take_add_one, List.getD_eq_getElem?_getD, List.getElem?_eq_getElem (by rw [HN.out]; exact hkn)]; rfl
        rw [e, List.map_append]
        rfl
      have hTl : ((l.take k).map gS).length ≤ 8 := by
        simp
        omega
      have HT := Lib.hid et
      obtain ⟨x, ex⟩ : ∃ x, l.getD k 0 = x := ⟨_, rfl⟩
      rw [ex] at hcell hx HT
      clear ex et
      generalize (l.take k).map gS = T at *
      have hsz := hbel.size
      go_wp2_with fail
      refine (refGroup_any x _ hx).mono ?_
      rintro e w1 ⟨rfl, rfl⟩
      go_wp2_with (at_builtin; refine wpList_append_own _ rfl (.tmp 11) (.tmp 17) 37 rfl w.heap.size 9 i0 _ 1 16 Tryd.underlying37 hi0 hz0 hz1 hz2 rfl (by decide) _ _ _ rfl (hown.alloc _) ⟨wr.heap.size, 0, none⟩ 1 1 [.string (ofL (groupL x))] rfl rfl ?c1 ?c2 ?c3 ?c4 ?c5 ?_)
      case c1 => exact cell_one_new _ _ _
      case c2 => intro u hu; simp at hu; subst hu; rfl
      case c3 => unfold maxLen; omega
      case c4 => omega
      case c5 => simp; omega
      intro v' w2 hown' hgrow _
      have R := own_snoc hown' hgrow hown hbel
      clear hown' hgrow hown hbel
      go_wp2_with fail
      go_roundw
      case rel => exact ⟨k + 1, by omega, by go_num, by rw [HT.out]; exact R.1, R.2⟩
      case measure => simp [intOf]; omega
    · obtain rfl : k = n := by omega
      rw [List.take_of_length_le (by rw [HN.out]; exact Nat.le_refl _)] at hown
      have hlen : (l.map gS).length = k := by rw [List.length_map, HN.out]
      have hsmall := joinTo_small l HL.out k
      have HR : Hid (rowS l = joinTo (l.map gS) { data := #[58] } k) := Lib.hid (by unfold rowS; rw [HN.out])
      generalize l.map gS = xs at *
      have hv := own_rows hown
      rw [hlen] at hv
      rcases hv with ⟨rfl, h0⟩ | ⟨g, cap, rfl, hrow⟩
      · have hx : xs = [] := List.eq_nil_of_length_eq_zero (by omega)
        have HR2 : Hid (rowS l = { data := #[] }) := Lib.hid (by rw [HR.out, hx, h0]; rfl)
        clear hown hlen hx h0 hsmall HR
        go_wp2_with fail
        refine (refJoin_nil _ _).mono ?_
        rintro e w1 ⟨rfl, rfl⟩
        go_wp2_with fail
        go_ret
        exact ⟨by rw [HR2.out]; rfl, hbel⟩
      · have hrc := hrow.cap
        have hrm := hrow.capm
        unfold maxLen at hrm
        have HRow := Lib.hid hrow
        have HLen := Lib.hid hlen
        clear hown hlen hrow
        go_wp2_with fail
        refine (join_any g k cap xs _ _ HLen.out (by omega) ?_ ?_ ?_).mono ?_
        · show 1 ≤ 1000; decide
        · exact Nat.le_trans hsmall (by omega)
        · intro i hi
          have := HRow.out.cells i (by rw [← HLen.out]; exact hi)
          rw [this, List.getD_eq_getElem?_getD, List.getElem?_eq_getElem hi]
          rfl
        rintro e w1 ⟨rfl, rfl⟩
        have HR2 : Hid (rowS l = joinTo xs { data := #[58] } k) := HR
        go_wp2_with fail
        go_ret
        exact ⟨by rw [HR2.out]; rfl, hbel⟩

/-- What a part of the groups is printed as. -/
def RowFact (gs : List Nat) (o n c : Nat) (X : ByteArray) : Prop :=
  n ≤ c ∧ c ≤ 8 ∧ ∃ l : List Nat, l.length = n ∧ rowS l = X ∧ (∀ x ∈ l, x < 65536) ∧ ∀ j, j < n → o + j < 8 ∧ gs.getD (o + j) 0 = l.getD j 0
theorem row_held {gs : List Nat} (B o n c : Nat) (X : ByteArray) (W w : World) (h : Hid (RowFact gs o n c X)) (hA : Hid (Arr8 w B gs ∧ Below W.heap.size W w)) :
    Calls Tryd.prog 33 #[.slice (some ⟨B, o, none⟩) n c] w fun e w' => e = .returned (.string X) ∧ Hid (Arr8 w' B gs ∧ Below W.heap.size W w') := by
  obtain ⟨h1, h2, l, h3, rfl, h4, h5⟩ := h.out
  obtain ⟨hA1, hA2⟩ := hA.out
  refine (refRow_any l B o n c w h3 (by omega) h1 h2 h4 hA1.lt (fun j hj => ?_)).mono ?_
  · rw [hA1.cells (o + j) (h5 j hj).1, (h5 j hj).2]
  · rintro e w' ⟨rfl, hb⟩
    exact ⟨rfl, Lib.hid ⟨hA1.below hb, chain hA2 hb⟩⟩
/-- The printed text. -/
def printB (gs : List Nat) : ByteArray :=
  if mappedB gs then ofL [58, 58, 102, 102, 102, 102, 58] ++ text4 (gs.getD 6 0 / 256) (gs.getD 6 0 % 256) (gs.getD 7 0 / 256) (gs.getD 7 0 % 256) else
  if (runB gs).2 = 0 then rowS gs else rowS (gs.take (runB gs).1) ++ ofL [58, 58] ++ rowS (gs.drop ((runB gs).1 + (runB gs).2))

set_option maxRecDepth 100000 in
set_option maxHeartbeats 4000000 in
theorem refPrint6_any (gs : List Nat) (w : World) (h8 : gs.length = 8) (hlt : ∀ x ∈ gs, x < 65536) :
    Calls Tryd.prog 17 #[arr8 gs] w fun e w' => e = .returned (.string (printB gs)) ∧ Below w.heap.size w w' := by
  have hlt2 := hlt
  obtain ⟨x0, x1, x2, x3, x4, x5, x6, x7, hgs⟩ := list8 gs h8
  have hA := Arr8.new w 24 x0 x1 x2 x3 x4 x5 x6 x7
  have hb : Below w.heap.size w (w.alloc (.cells #[.int .u16 (x0 : Int), .int .u16 (x1 : Int), .int .u16 (x2 : Int), .int .u16 (x3 : Int), .int .u16 (x4 : Int), .int .u16 (x5 : Int), .int .u16 (x6 : Int), .int .u16 (x7 : Int)] 24)) := (Below.refl _ _).alloc (Nat.le_refl _) _
  have ha : arr8 gs = .agg #[.int .u16 (x0 : Int), .int .u16 (x1 : Int), .int .u16 (x2 : Int), .int .u16 (x3 : Int), .int .u16 (x4 : Int), .int .u16 (x5 : Int), .int .u16 (x6 : Int), .int .u16 (x7 : Int)] := by rw [hgs]; rfl
  have HM := Lib.hid (fun w => refMapped_any gs w h8 hlt)
  have HRn := Lib.hid (fun w => refRun_any gs w h8 hlt)
  rw [ha] at HM HRn
  rw [ha]
  go_enter Tryd.func17, Tryd.ntmps17
  go_wp2_with fail
  generalize w.alloc (.cells #[.int .u16 (x0 : Int), .int .u16 (x1 : Int), .int .u16 (x2 : Int), .int .u16 (x3 : Int), .int .u16 (x4 : Int), .int .u16 (x5 : Int), .int .u16 (x6 : Int), .int .u16 (x7 : Int)] 24) = W at *
  refine (HM.out _).mono ?_
  rintro e w1 ⟨rfl, hb1⟩
  have hA1 := hA.below hb1
  obtain ⟨c0, c1, c2, c3, c4, c5, c6, c7⟩ := hA1.all
  have HA := Lib.hid hA1
  clear hA hA1
  have hx6 : x6 < 65536 := hlt x6 (by rw [hgs]; simp)
  have hx7 : x7 < 65536 := hlt x7 (by rw [hgs]; simp)
  have HG := Lib.hid hgs
  have HLT := Lib.hid hlt
  have H8 := Lib.hid h8
  have b1 := chain hb hb1
  clear hlt hlt2 hgs h8 ha
  cases hm : mappedB gs with
  | true =>
    have HP : Hid (printB gs = ofL [58, 58, 102, 102, 102, 102, 58] ++ text4 (x6 / 256) (x6 % 256) (x7 / 256) (x7 % 256)) := Lib.hid (by unfold printB; rw [hm, if_pos rfl, HG.out]; rfl)
    obtain ⟨N, hN, eN⟩ : ∃ N : Nat, N = num4 (x6 / 256) (x6 % 256) (x7 / 256) (x7 % 256) ∧ (x6 : Int) * 65536 + (x7 : Int) = (N : Int) := ⟨_, rfl, by unfold num4; omega⟩
    have hNl : N ≤ 4294967295 := by omega
    have q1 : IntKind.u32.wrap ((x6 : Int) * 65536) = (x6 : Int) * 65536 := by rw [IntKind.wrap_u32]; omega
    have q2 : IntKind.u32.wrap (N : Int) = (N : Int) := by rw [IntKind.wrap_u32]; omega
    have HC := Lib.hid (fun w => refPrint_any (x6 / 256) (x6 % 256) (x7 / 256) (x7 % 256) N w (by omega) (by omega) (by omega) (by omega) hN)
    have hz := text4_size (x6 / 256) (x6 % 256) (x7 / 256) (x7 % 256) (by omega) (by omega) (by omega) (by omega)
    generalize text4 (x6 / 256) (x6 % 256) (x7 / 256) (x7 % 256) = T at *
    clear hm hN
    go_wp2_with fail
    refine (HC.out _).mono ?_
    rintro e w2 ⟨rfl, hb2⟩
    go_wp2_with fail
    go_ret
    exact ⟨str_ret (by rw [HP.out]; rfl), chain b1 hb2⟩
  | false =>
    have HM0 := Lib.hid hm
    clear hm
    have hrl := runTo_le gs 8 (Nat.le_refl _)
    obtain ⟨⟨A, M⟩, hAM⟩ : ∃ p, runB gs = p := ⟨_, rfl⟩
    rw [hAM] at HRn
    have hAM2 : A + M ≤ 8 := by
      have e : runTo gs 8 = (A, M) := hAM
      rw [e] at hrl
      exact hrl
    have HAM := Lib.hid hAM
    clear hrl hAM
    go_wp2_with fail
    refine (HRn.out _).mono ?_
    rintro e w2 ⟨rfl, hb2⟩
    have hA2 := HA.out.below hb2
    rw [← HG.out] at hA2
    have HA2 := Lib.hid hA2
    have b2 := chain b1 hb2
    clear hA2 c0 c1 c2 c3 c4 c5 c6 c7 HA
    unfold runRet
    by_cases hM : M = 0
    · have HP : Hid (printB gs = rowS gs) := Lib.hid (by unfold printB; rw [HM0.out, HAM.out]; simp [hM])
      have hMb : ((M : Int) == 0) = true := by simp; omega
      clear hM
      go_wp2_with fail
      refine (refRow_any gs w.heap.size 0 8 8 _ H8.out (by decide) (by decide) (by decide) HLT.out HA2.out.lt ?_).mono ?_
      · intro j hj
        rw [Nat.zero_add]
        exact HA2.out.cells j hj
      rintro e w3 ⟨rfl, hb3⟩
      go_wp2_with fail
      go_ret
      exact ⟨by rw [HP.out]; rfl, chain b2 hb3⟩
    · have HP : Hid (printB gs = rowS (gs.take A) ++ ofL [58, 58] ++ rowS (gs.drop (A + M))) := Lib.hid (by unfold printB; rw [HM0.out, HAM.out]; simp [hM])
      have hMb : ((M : Int) == 0) = false := by simp; omega
      obtain ⟨K, hK, eK⟩ : ∃ K : Nat, A + M = K ∧ (A : Int) + (M : Int) = (K : Int) := ⟨_, rfl, by omega⟩
      have hK8 : K ≤ 8 := by omega
      have hA8 : A ≤ 8 := by omega
      rw [hK] at HP
      clear hM hK hAM2
      have a0 : (0 : Int) ≤ (A : Int) := by omega
      have a1 : (A : Int) ≤ 8 := by omega
      have k0 : (0 : Int) ≤ (K : Int) := by omega
      have k1 : (K : Int) ≤ 8 := by omega
      have kw : IntKind.i64.wrap (K : Int) = (K : Int) := by rw [IntKind.wrap_i64]; omega
      obtain ⟨X, hX⟩ : ∃ X, rowS (gs.take A) = X := ⟨_, rfl⟩
      obtain ⟨Y, hY⟩ : ∃ Y, rowS (gs.drop K) = Y := ⟨_, rfl⟩
      have hXz : X.size ≤ 40 := by
        rw [← hX]
        have h1 := rowS_small (gs.take A) (fun x hx => HLT.out x (List.mem_of_mem_take hx))
        have h2 : (gs.take A).length ≤ 8 := by simp; omega
        omega
      have hYz : Y.size ≤ 40 := by
        rw [← hY]
        have h1 := rowS_small (gs.drop K) (fun x hx => HLT.out x (List.mem_of_mem_drop hx))
        have h2 : (gs.drop K).length ≤ 8 := by have := H8.out; simp; omega
        omega
      rw [hX, hY] at HP
      have F1 : Hid (RowFact gs 0 A 8 X) := Lib.hid ⟨hA8, Nat.le_refl _, gs.take A, by have := H8.out; simp; omega, hX, fun x hx => HLT.out x (List.mem_of_mem_take hx), fun j hj => ⟨by omega, by
        rw [Nat.zero_add, List.getD_eq_getElem?_getD, List.getD_eq_getElem?_getD, List.getElem?_take, if_pos hj]⟩⟩
      have F2 : ∀ o, (K < 8 → o = K) → RowFact gs o (8 - K) (8 - K) Y := fun o ho => ⟨Nat.le_refl _, by omega, gs.drop K, by rw [List.length_drop, H8.out], hY, fun x hx => HLT.out x (List.mem_of_mem_drop hx), fun j hj => ⟨by rw [ho (by omega)]; omega, by
        rw [ho (by omega), List.getD_eq_getElem?_getD, List.getD_eq_getElem?_getD, List.getElem?_drop]⟩⟩
      have hA3 : Hid (Arr8 w2.drew w.heap.size gs ∧ Below w.heap.size w w2.drew) := Lib.hid ⟨HA2.out.below (Below.refl _ _).drew, b2.drew⟩
      clear hX hY
      by_cases hKe : K = 8
      · have F3 : Hid (RowFact gs 0 0 0 Y) := Lib.hid (by
          have := F2 0 (by omega)
          rwa [hKe] at this)
        subst hKe
        clear F2 kw
        have kw8 : IntKind.i64.wrap (8 : Int) = 8 := by rw [IntKind.wrap_i64]; rfl
        go_wp2_with fail
        go_region_with (first
          | (go_at_call 33; refine (row_held (gs := gs) _ _ _ _ _ _ _ (by with_reducible assumption) (by with_reducible assumption)).mono ?_; rintro e w3 ⟨rfl, hA4⟩))
        all_goals
          go_wp2_with fail
          go_ret
          exact ⟨str_ret (by rw [HP.out]; rfl), hA4.out.2⟩
      · have F3 : Hid (RowFact gs K (8 - K) (8 - K) Y) := Lib.hid (F2 K (fun _ => rfl))
        have hKn : ¬ 8 = K := fun h => hKe h.symm
        clear F2
        go_wp2_with fail
        go_region_with (first
          | (go_at_call 33; refine (row_held (gs := gs) _ _ _ _ _ _ _ (by with_reducible assumption) (by with_reducible assumption)).mono ?_; rintro e w3 ⟨rfl, hA4⟩))
        all_goals
          go_wp2_with fail
          go_ret
          exact ⟨str_ret (by rw [HP.out]; rfl), hA4.out.2⟩
end Go.Proofs.YtkdinhgflkfbkaaDoor

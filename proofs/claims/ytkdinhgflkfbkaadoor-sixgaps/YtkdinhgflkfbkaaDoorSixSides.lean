/- Contracts of six.pieces, six.group and six.spread. -/
import Derived.Test.YtkdinhgflkfbkaaDoorSixSpread
import Derived.Test.YtkdinhgflkfbkaaDoorSixPrint
namespace Go.Proofs.YtkdinhgflkfbkaaDoor
open Go.RowKit
set_option linter.unusedVariables false

/-- A row of texts, as a walk reads it; it may be nil. -/
structure SideRow (w : World) (B : Nat) (p : Option Addr) (n c : Nat) (l : List ByteArray) : Prop where
  len : l.length = n
  cap : n ≤ c
  capm : c ≤ maxLen
  lies : n = 0 ∨ ∃ g, p = some ⟨g, 0, none⟩ ∧ B ≤ g ∧ g < w.heap.size ∧ ∀ i, i < n → w.cell? ⟨g, i, none⟩ = some (.string (l.getD i ⟨#[]⟩))
theorem SideRow.below {w w' : World} {B n c : Nat} {p : Option Addr} {l : List ByteArray} (h : SideRow w B p n c l) (hb : Below w.heap.size w w') : SideRow w' B p n c l :=
  ⟨h.len, h.cap, h.capm, h.lies.imp id fun ⟨g, e, hB, hg, hc⟩ => ⟨g, e, hB, Nat.lt_of_lt_of_le hg hb.size, fun i hi => by rw [hb.cell (p := ⟨g, i, none⟩) hg]; exact hc i hi⟩⟩
theorem sideL_eq (s : ByteArray) : sideL s.data.toList = if s.size = 0 then [] else pieces s 58 := by
  unfold sideL
  rw [pieces_cut]
  have hl : s.data.toList.length = s.size := by simp
  by_cases h : s.size = 0
  · rw [if_pos h, if_pos (List.eq_nil_of_length_eq_zero (hl.trans h))]
  · rw [if_neg h, if_neg (fun e => h (by rw [← hl, e]; rfl))]
theorem sideL_small (s : ByteArray) : ∀ p ∈ sideL s.data.toList, p.size ≤ s.size := by
  rw [sideL_eq]
  split
  · simp
  · exact pieces_small s 58
theorem sideL_len (s : ByteArray) : (sideL s.data.toList).length ≤ s.size + 1 := by
  rw [sideL_eq]
  split
  · simp
  · exact pieces_len s 58

set_option maxHeartbeats 400000 in
theorem sidePieces_any (s : ByteArray) (w : World) (hs : s.size ≤ 1000000) :
    Calls Tryd.prog 35 #[.string s] w fun e w' => ∃ p c, e = .returned (.slice p (sideL s.data.toList).length c) ∧ SideRow w' w.heap.size p (sideL s.data.toList).length c (sideL s.data.toList) ∧ Below w.heap.size w w' := by
  rw [sideL_eq]
  by_cases h0 : s.size = 0
  · rw [if_pos h0]
    have hE := isEmpty_true s h0
    have hE2 : s.toList = [] := by simpa using hE
    clear h0
    go_enter Tryd.func35, Tryd.ntmps35
    go_wp2_with fail
    go_ret
    exact ⟨none, 0, rfl, ⟨rfl, Nat.le_refl _, Nat.zero_le _, .inl rfl⟩, Below.refl _ _⟩
  · rw [if_neg h0]
    have hE := isEmpty_false s (by omega)
    go_enter Tryd.func35, Tryd.ntmps35
    go_wp2_with fail
    refine (split_row s 58 _ hs).mono ?_
    rintro e w1 ⟨g, c, rfl, hg, hr, hb⟩
    have HR := Lib.hid hr
    clear hr
    go_wp2_with fail
    go_ret
    exact ⟨some ⟨g, 0, none⟩, c, rfl, ⟨rfl, HR.out.cap, HR.out.capm, .inr ⟨g, rfl, hg, HR.out.lt, HR.out.cells⟩⟩, hb⟩

def groupRet (o : Option Nat) : Value := .tuple #[.int .u16 ((o.getD 0 : Nat) : Int), .bool o.isSome]
set_option maxHeartbeats 400000 in
theorem sixGroup_any (s : ByteArray) (w : World) (hs : s.size ≤ 1000000) :
    Calls Tryd.prog 25 #[.string s] w fun e w' => e = .returned (groupRet (hexG s)) ∧ Below w.heap.size w w' := by
  by_cases h4 : 4 < s.size
  · have HG : Hid (hexG s = none) := Lib.hid (by unfold hexG; rw [if_pos h4])
    go_enter Tryd.func25, Tryd.ntmps25
    go_wp2_with fail
    go_ret2
    exact ⟨by rw [HG.out]; rfl, Below.refl _ _⟩
  · have HG : Hid (hexG s = numB s 16) := Lib.hid (by unfold hexG; rw [if_neg h4])
    have hlt := fun n h => hexG_lt s n h
    rw [HG.out] at hlt
    have hw : IntKind.u16.wrap ((((numB s 16).getD 0 : Nat)) : Int) = (((numB s 16).getD 0 : Nat) : Int) := by
      rw [IntKind.wrap_u16]
      cases h : numB s 16 with
      | none => rfl
      | some n => have := hlt n h; show (n : Int) % 65536 = (n : Int); omega
    clear hlt
    go_enter Tryd.func25, Tryd.ntmps25
    go_wp2_with fail
    refine (number_any s 16 _ hs (.inr (.inr rfl))).mono ?_
    rintro e w1 ⟨rfl, hb⟩
    unfold numRet
    generalize (numB s 16) = o at *
    generalize hn : o.getD 0 = n at *
    generalize hi : o.isSome = b at *
    have HN := Lib.hid hn
    have HI := Lib.hid hi
    clear hn hi
    go_wp2_with fail
    go_ret2
    exact ⟨by rw [HG.out]; unfold groupRet; rw [HN.out, HI.out]; rfl, by first | exact hb | (subst hb; exact Below.refl _ _)⟩

/-- What a group's digits are, at whatever spelling of the number. -/
def DigFact (z : Int) (X : ByteArray) : Prop := ∃ n : Nat, z = (n : Int) ∧ n < 65536 ∧ gS n = X
theorem dig_held (z : Int) (X : ByteArray) (W w : World) (h : Hid (DigFact z X)) (hA : Hid (BruIs w ∧ Below W.heap.size W w)) :
    Calls Tryd.prog 38 #[.int .u16 z] w fun e w' => e = .returned (.string X) ∧ Hid (BruIs w' ∧ Below W.heap.size W w') := by
  obtain ⟨n, rfl, hn, rfl⟩ := h.out
  refine (digits_any n w hn hA.out.1).mono ?_
  rintro e w' ⟨rfl, hb⟩
  exact ⟨rfl, Lib.hid ⟨hA.out.1.below hb, chain hA.out.2 hb⟩⟩

theorem spreadL_size (l : List UInt8) : (spreadL l).length ≤ l.length + 9 := by
  have h1 : (tl l).1.length ≤ l.length := by
    have := congrArg List.length (tl_join l)
    rw [List.length_append] at this
    omega
  cases h : strictB (ofL (tl l).2) with
  | none => rw [spreadL_none h]; omega
  | some n =>
    have hn := strictB_lt _ _ h
    have h2 := (groupL_length (n / 65536) (by omega)).2
    have h3 := (groupL_length (n % 65536) (by omega)).2
    rw [spreadL_some h, List.length_append, List.length_append, List.length_cons]
    omega

set_option maxRecDepth 100000 in
set_option maxHeartbeats 1000000 in
theorem spread_any (s : ByteArray) (w : World) (hs : s.size ≤ 900000) (ht : Tabs w) :
    Calls Tryd.prog 24 #[.string s] w fun e w' => e = .returned (.string (ofL (spreadL s.data.toList))) ∧ Below w.heap.size w w' := by
  have HT := Lib.hid ht
  clear ht
  have hl := tl_last s
  have hf := spread_first s
  have hb := spread_last s
  have hE := spread_le s
  obtain ⟨E, eE⟩ : ∃ E, (tl s.data.toList).1.length = E := ⟨_, rfl⟩
  rw [eE] at hl hf hb hE
  have hEi : (E : Int) ≤ (s.size : Int) := by omega
  have hE0 : (0 : Int) ≤ (E : Int) := by omega
  have hw : IntKind.i64.wrap (E : Int) = (E : Int) := by rw [IntKind.wrap_i64]; omega
  obtain ⟨q, eq⟩ : ∃ q, Lib.lastIndexByte s 58 = q := ⟨_, rfl⟩
  have HC := Lib.hid (fun w => Tryd.strings_LastIndexByte s 58 (by omega) w)
  rw [eq] at hl HC
  have HF := Lib.hid hf
  have HL := Lib.hid hb
  have HEE := Lib.hid eE
  clear hf hb eE eq
  go_enter Tryd.func24, Tryd.ntmps24
  go_wp2_with fail
  refine (HC.out _).mono ?_
  rintro e w1 ⟨rfl, rfl⟩
  go_wp2_with fail
  refine (strict_any _ _ (by simp; omega)).mono ?_
  rintro e w2 ⟨rfl, hb2⟩
  rw [HL.out]
  cases h : strictB (ofL (tl s.data.toList).2) with
  | none =>
    have HS : Hid (spreadL s.data.toList = s.data.toList) := Lib.hid (spreadL_none h)
    unfold strictRet
    clear h
    go_wp2_with fail
    go_ret
    exact ⟨str_ret (by rw [HS.out, ofL_data]), hb2⟩
  | some n =>
    have hn : n ≤ 4294967295 := by have := strictB_lt _ _ h; omega
    have HS : Hid (ofL (spreadL s.data.toList) = s.extract 0 E ++ gS (n / 65536) ++ { data := #[58] } ++ gS (n % 65536)) := Lib.hid (by
      rw [spreadL_some h, HF.out]
      symm
      apply eq_ofL
      rw [data_append, data_append, data_append, ofL_data, gS, gS, ofL_data, ofL_data]
      simp)
    unfold strictRet
    rw [show (some n).getD 0 = n from rfl, show (some n).isSome = true from rfl]
    obtain ⟨hi, ehi⟩ : ∃ hi : Nat, n / 65536 = hi := ⟨_, rfl⟩
    obtain ⟨lo, elo⟩ : ∃ lo : Nat, n % 65536 = lo := ⟨_, rfl⟩
    have hhi : hi < 65536 := by omega
    have hlo : lo < 65536 := by omega
    rw [ehi, elo] at HS
    have e1 : (n : Int) / 65536 = (hi : Int) := by omega
    have e2 : IntKind.u16.wrap (hi : Int) = (hi : Int) := by rw [IntKind.wrap_u16]; omega
    have e3 : IntKind.u16.wrap (n : Int) = (lo : Int) := by rw [IntKind.wrap_u16]; omega
    have z1 := gS_size hi hhi
    have z2 := gS_size lo hlo
    have z0 : (s.extract 0 E).size ≤ 900000 := by simp; omega
    obtain ⟨X, hX⟩ : ∃ X, gS hi = X := ⟨_, rfl⟩
    obtain ⟨Y, hY⟩ : ∃ Y, gS lo = Y := ⟨_, rfl⟩
    rw [hX] at z1 HS
    rw [hY] at z2 HS
    have F1 : Hid (DigFact (hi : Int) X) := Lib.hid ⟨hi, rfl, hhi, hX⟩
    have F2 : Hid (DigFact (lo : Int) Y) := Lib.hid ⟨lo, rfl, hlo, hY⟩
    have F3 : Hid (DigFact (IntKind.u16.wrap (hi : Int)) X) := Lib.hid ⟨hi, e2, hhi, hX⟩
    have F4 : Hid (DigFact (IntKind.u16.wrap (n : Int)) Y) := Lib.hid ⟨lo, e3, hlo, hY⟩
    have F5 : Hid (DigFact (IntKind.u16.wrap ((n : Int) / 65536)) X) := Lib.hid ⟨hi, by rw [e1, e2], hhi, hX⟩
    have hA3 : Hid (BruIs w2.drew ∧ Below w1.heap.size w1 w2.drew) := Lib.hid ⟨(HT.out.below hb2).bru.below (Below.refl _ _).drew, hb2.drew⟩
    clear h ehi elo hX hY
    go_wp2_with fail
    go_region_with (first
      | (go_at_call 38; refine (dig_held _ _ _ _ (by with_reducible assumption) (by with_reducible assumption)).mono ?_; rintro e w3 ⟨rfl, hA4⟩))
    all_goals
      go_wp2_with fail
      go_ret
      exact ⟨str_ret (by rw [HS.out]), hA4.out.2⟩
end Go.Proofs.YtkdinhgflkfbkaaDoor

/- All groups of an address written out in great letters, with noughts ahead, are read by the landed six.Parse as the address; with one group more, or fewer, or longer, or a colon ahead or behind, they are none; for every address. A tied card: three tables of the library hold what the program lays in them. -/
import Derived.Test.YtkdinhgflkfbkaaDoorSixList
import Derived.Test.YtkdinhgflkfbkaaDoorDoorTabs
import Derived.Test.YtkdinhgflkfbkaaDoorOpenArr
import Derived.ProofKit
import Derived.OpenShut
import Derived.ShutString
import Derived.ChangeOld
import Derived.Below
namespace Go.Proofs.YtkdinhgflkfbkaaDoor.sixWhole
open Go.ChangeShapes Go.WideShapes Go.ChangeAt Go.RowKit
open Go.ChangeMaps (open_string shut_string)
set_option linter.unusedVariables false

theorem own : ownKnob Tryd.prog.godebug = none := by kernel_rfl

/-- The lowest k of a group's four great digits. -/
def upTo (n : Nat) : Nat → List UInt8
  | 0 => []
  | 1 => [hexU (n % 16)]
  | 2 => [hexU (n / 16 % 16), hexU (n % 16)]
  | 3 => [hexU (n / 256 % 16), hexU (n / 16 % 16), hexU (n % 16)]
  | _ => upL n
theorem hexBig_cut (d : Nat) (h : d < 16) : ∃ D : ByteArray, D = ofL [hexU d] ∧ ({ data := #[48, 49, 50, 51, 52, 53, 54, 55, 56, 57, 65, 66, 67, 68, 69, 70] } : ByteArray).extract d (d + 1) = D := by
  refine ⟨_, rfl, ?_⟩
  have hd : d = 0 ∨ d = 1 ∨ d = 2 ∨ d = 3 ∨ d = 4 ∨ d = 5 ∨ d = 6 ∨ d = 7 ∨ d = 8 ∨ d = 9 ∨ d = 10 ∨ d = 11 ∨ d = 12 ∨ d = 13 ∨ d = 14 ∨ d = 15 := by omega
  rcases hd with rfl | rfl | rfl | rfl | rfl | rfl | rfl | rfl | rfl | rfl | rfl | rfl | rfl | rfl | rfl | rfl <;> decide

/-- What the walk keeps while it calls. -/
structure Kept8 (w W : World) (B H g cap : Nat) (gs hs : List Nat) (xs : List ByteArray) : Prop where
  a : Arr8 W B gs
  h : Arr8 W H hs
  r : StrRow W g 8 cap xs
  b : Below w.heap.size w W
theorem Kept8.next {w W W' : World} {B H g cap : Nat} {gs hs : List Nat} {xs : List ByteArray} (k : Kept8 w W B H g cap gs hs xs) (hb : Below W.heap.size W W') : Kept8 w W' B H g cap gs hs xs :=
  ⟨k.a.below hb, k.h.below hb, k.r.below hb, chain k.b hb⟩
theorem Kept8.more {w W : World} {B H g cap : Nat} {gs hs : List Nat} {xs : List ByteArray} (k : Kept8 w W B H g cap gs hs xs) (o : Obj) : Kept8 w (W.alloc o) B H g cap gs hs xs :=
  k.next ((Below.refl _ _).alloc (Nat.le_refl _) o)

theorem rowT_len (gs : List Nat) : (rowT (gs.map upL)).length ≤ 5 * gs.length := by
  induction gs with
  | nil => simp [rowT]
  | cons x r ih =>
    cases r with
    | nil => simp [rowT, upL]
    | cons y t =>
      show (upL x ++ 58 :: rowT (upL y :: t.map upL)).length ≤ _
      have : (rowT (upL y :: t.map upL)).length ≤ 5 * (y :: t).length := ih
      simp [upL] at this ⊢
      omega
theorem whole_size (gs : List Nat) (h8 : gs.length = 8) : (rowT (gs.map upL)).length ≤ 100 := by have := rowT_len gs; omega
theorem whole_size7 (gs : List Nat) (h8 : gs.length = 8) : (rowT ((gs.take 7).map upL)).length ≤ 100 := by
  have h := rowT_len (gs.take 7)
  have h7 : (gs.take 7).length = 7 := by simp [h8]
  omega

set_option maxRecDepth 100000 in
set_option maxHeartbeats 8000000 in
theorem walk8 (gs : List Nat) (h8 : gs.length = 8) (hlt : ∀ x ∈ gs, x < 65536) (w : World)
    (htab : Tabs w) :
    Calls Tryd.prog 6 #[arr8 gs] w fun e w' => e = .returned (.bool true) ∧ Below w.heap.size w w' := by
  obtain ⟨i0, hi0, hz0, hz1, hz2⟩ := info_parts Tryd.infoString
  obtain ⟨x0, x1, x2, x3, x4, x5, x6, x7, hgs⟩ := list8 gs h8
  have hA := Arr8.new w 24 x0 x1 x2 x3 x4 x5 x6 x7
  have b0 : Below w.heap.size w (w.alloc (.cells #[.int .u16 (x0 : Int), .int .u16 (x1 : Int), .int .u16 (x2 : Int), .int .u16 (x3 : Int), .int .u16 (x4 : Int), .int .u16 (x5 : Int), .int .u16 (x6 : Int), .int .u16 (x7 : Int)] 24)) := (Below.refl _ _).alloc (Nat.le_refl _) _
  have ha : arr8 gs = .agg #[.int .u16 (x0 : Int), .int .u16 (x1 : Int), .int .u16 (x2 : Int), .int .u16 (x3 : Int), .int .u16 (x4 : Int), .int .u16 (x5 : Int), .int .u16 (x6 : Int), .int .u16 (x7 : Int)] := by rw [hgs]; rfl
  have hpr : parseRet (some gs) = .tuple #[.agg #[.int .u16 (x0 : Int), .int .u16 (x1 : Int), .int .u16 (x2 : Int), .int .u16 (x3 : Int), .int .u16 (x4 : Int), .int .u16 (x5 : Int), .int .u16 (x6 : Int), .int .u16 (x7 : Int)], .bool true] := by rw [hgs]; rfl
  have hpn : parseRet none = .tuple #[.agg #[.int .u16 0, .int .u16 0, .int .u16 0, .int .u16 0, .int .u16 0, .int .u16 0, .int .u16 0, .int .u16 0], .bool false] := rfl
  have HPR := Lib.hid hpr
  have HPN := Lib.hid hpn
  have HT := Lib.hid htab
  have HG := Lib.hid hgs
  have H8 := Lib.hid h8
  have HLT := Lib.hid hlt
  have q := eq8_true x0 x1 x2 x3 x4 x5 x6 x7
  rw [ha]
  rw [← hgs] at hA
  clear htab ha hgs hlt h8 hpr hpn
  go_enter Tryd.func6, Tryd.ntmps6
  go_wp2_with fail
  generalize w.alloc (.cells #[.int .u16 (x0 : Int), .int .u16 (x1 : Int), .int .u16 (x2 : Int), .int .u16 (x3 : Int), .int .u16 (x4 : Int), .int .u16 (x5 : Int), .int .u16 (x6 : Int), .int .u16 (x7 : Int)] 24) = W at *
  have HA := Lib.hid hA
  clear hA
  go_loopw [3, 4] (fun v i wr => ∃ k : Nat, k ≤ 8 ∧ i = .int .i64 k ∧ wr.ownsRow W.heap.size 9 1 v (((gs.take k).map upL).map ofL).length ((((gs.take k).map upL).map ofL).map Value.string) ∧ Below W.heap.size W wr) (fun _ i _ => 8 - (intOf i).toNat)
  case atStart => exact ⟨0, by decide, rfl, World.ownsRow_nil _ _ _ _, Below.refl _ _⟩
  case round =>
    obtain ⟨k, hk, rfl, hown, hbel⟩ := hrel
    by_cases hk8 : k < 8
    · have hcell := (HA.out.below hbel).cells k hk8
      have hx : gs.getD k 0 < 65536 := by
        rw [List.getD_eq_getElem?_getD, List.getElem?_eq_getElem (by rw [H8.out]; exact hk8)]
        exact HLT.out _ (List.getElem_mem _)
      have et : ((gs.take (k + 1)).map upL).map ofL = ((gs.take k).map upL).map ofL ++ [ofL (upL (gs.getD k 0))] := by
        have e : gs.take (k + 1) = gs.take k ++ [gs.getD k 0] := by
          rw [List.take_add_one, List.getD_eq_getElem?_getD, List.getElem?_eq_getElem (by rw [H8.out]; exact hk8)]; rfl
        rw [e, List.map_append, List.map_append]
        rfl
      have hTl : (((gs.take k).map upL).map ofL).length ≤ 8 := by
        simp
        omega
      have HE := Lib.hid et
      obtain ⟨x, ex⟩ : ∃ x, gs.getD k 0 = x := ⟨_, rfl⟩
      rw [ex] at hcell hx HE
      clear ex et
      generalize ((gs.take k).map upL).map ofL = T at *
      have hsz := hbel.size
      go_wp2_with fail
      go_loop [5, 6, 7] (fun m t i => ∃ (j N : Nat) (S : ByteArray), j ≤ 4 ∧ i = .int .i64 j ∧ m = .int .u16 (N : Int) ∧ N ≤ 65535 ∧ t = .string S ∧ S.size ≤ 4 ∧ S.size = j ∧ Hid (N = x / 16 ^ j) ∧ Hid (S.data.toList = upTo x j)) (fun _ _ i => 4 - (intOf i).toNat)
      case atStart => exact ⟨0, x, _, by decide, rfl, rfl, by omega, rfl, by decide, rfl, Lib.hid (by simp), Lib.hid rfl⟩
      case round =>
        obtain ⟨j, N, S, hj, rfl, rfl, hN, rfl, hS, hS2, HN, HS⟩ := hrel
        have hj5 : j = 0 ∨ j = 1 ∨ j = 2 ∨ j = 3 ∨ j = 4 := by omega
        have HS2 := Lib.hid hS2
        clear hS2
        obtain ⟨d, hd, ed, hd2⟩ : ∃ d : Nat, d < 16 ∧ (N : Int) % 16 = (d : Int) ∧ N % 16 = d := ⟨N % 16, by omega, by omega, rfl⟩
        obtain ⟨D, hD, hcut⟩ := hexBig_cut d hd
        have hDz : D.size = 1 := by rw [hD, ofL_size]; rfl
        have HD := Lib.hid hD
        have HD2 := Lib.hid hd2
        have hw1 : IntKind.u16.wrap ((d : Int) + 1) = (d : Int) + 1 := by rw [IntKind.wrap_u16]; omega
        clear hD hd2
        rcases hj5 with rfl | rfl | rfl | rfl | rfl
        · go_wp2_with fail
          go_round
          case rel => exact ⟨1, N / 16, _, by decide, rfl, by go_num, by omega, rfl, by have := HS2.out; simp [ByteArray.size_append]; omega, by have := HS2.out; simp [ByteArray.size_append]; omega, Lib.hid (by have h1 := HN.out; simp at h1 ⊢; omega), Lib.hid (by rw [data_append, HD.out, ofL_data, HS.out, ← HD2.out, HN.out]; simp [upTo])⟩
          case measure => simp [intOf]
        · go_wp2_with fail
          go_round
          case rel => exact ⟨2, N / 16, _, by decide, rfl, by go_num, by omega, rfl, by have := HS2.out; simp [ByteArray.size_append]; omega, by have := HS2.out; simp [ByteArray.size_append]; omega, Lib.hid (by have h1 := HN.out; simp at h1 ⊢; omega), Lib.hid (by rw [data_append, HD.out, ofL_data, HS.out, ← HD2.out, HN.out]; simp [upTo])⟩
          case measure => simp [intOf]
        · go_wp2_with fail
          go_round
          case rel => exact ⟨3, N / 16, _, by decide, rfl, by go_num, by omega, rfl, by have := HS2.out; simp [ByteArray.size_append]; omega, by have := HS2.out; simp [ByteArray.size_append]; omega, Lib.hid (by have h1 := HN.out; simp at h1 ⊢; omega), Lib.hid (by rw [data_append, HD.out, ofL_data, HS.out, ← HD2.out, HN.out]; simp [upTo])⟩
          case measure => simp [intOf]
        · go_wp2_with fail
          go_round
          case rel => exact ⟨4, N / 16, _, by decide, rfl, by go_num, by omega, rfl, by have := HS2.out; simp [ByteArray.size_append]; omega, by have := HS2.out; simp [ByteArray.size_append]; omega, Lib.hid (by have h1 := HN.out; simp at h1 ⊢; omega), Lib.hid (by rw [data_append, HD.out, ofL_data, HS.out, ← HD2.out, HN.out]; simp [upTo, upL])⟩
          case measure => simp [intOf]
        · have HX : Hid (ofL (upL x) = S) := Lib.hid (eq_ofL HS.out).symm
          rw [HX.out] at HE
          go_wp2_with (at_builtin; refine wpList_append_own _ rfl (.tmp 42) (.tmp 44) 37 rfl W.heap.size 9 i0 _ 1 16 Tryd.underlying37 hi0 hz0 hz1 hz2 rfl (by decide) _ _ _ rfl (hown.alloc _) ⟨wr.heap.size, 0, none⟩ 1 1 [.string S] rfl rfl ?c1 ?c2 ?c3 ?c4 ?c5 ?_)
          try (case c1 => exact cell_one_new _ _ _)
          case c2 => first | rfl | (intro u hu; simp at hu; subst hu; rfl)
          case c3 => unfold maxLen; omega
          case c4 => omega
          case c5 => first | omega | (simp; omega)
          intro v' w2 hown' hgrow _
          have R := own_snoc hown' hgrow hown hbel
          clear hown' hgrow hown hbel
          go_wp2_with fail
          go_roundw
          case rel => exact ⟨k + 1, by omega, by go_num, by rw [HE.out]; exact R.1, R.2⟩
          case measure => simp [intOf]; omega
    · obtain rfl : k = 8 := by omega
      rw [List.take_of_length_le (by rw [H8.out]; exact Nat.le_refl _)] at hown
      have hlen : ((gs.map upL).map ofL).length = 8 := by rw [List.length_map, List.length_map, H8.out]
      have hjoin : joinTo ((gs.map upL).map ofL) { data := #[58] } 8 = ofL (rowT (gs.map upL)) := by
        have := eq_ofL (join_rowT (gs.map upL))
        unfold joinB at this
        rwa [hlen] at this
      have hj7 : joinTo (((gs.map upL).map ofL).take 7) { data := #[58] } 7 = ofL (rowT ((gs.take 7).map upL)) := by
        have := eq_ofL (join_rowT ((gs.take 7).map upL))
        unfold joinB at this
        rw [List.length_map, List.length_map, List.length_take, H8.out] at this
        rw [← List.map_take, ← List.map_take]
        exact this
      have hz8 : (rowT (gs.map upL)).length ≤ 100 := whole_size gs H8.out
      have hz7 : (rowT ((gs.take 7).map upL)).length ≤ 100 := whole_size7 gs H8.out
      obtain ⟨g, cap, rfl, hg1, hrow⟩ := own_row hown (by omega)
      rw [hlen] at hrow
      rw [hlen]
      generalize (gs.map upL).map ofL = xs at *
      have hrc := hrow.cap
      have hrm := hrow.capm
      unfold maxLen at hrm
      have HRow := Lib.hid hrow
      have HLen := Lib.hid hlen
      have HJ := Lib.hid hjoin
      have HJ7 := Lib.hid hj7
      have HZ8 := Lib.hid hz8
      have HZ7 := Lib.hid hz7
      clear hown hlen hrow hjoin hj7 hz8 hz7
      have b1 := chain b0 hbel
      go_wp2_with fail
      refine (join_any g 8 cap xs _ _ HLen.out (by decide) ?_ ?_ ?_).mono ?_
      · show 1 ≤ 1000; decide
      · have := HJ.out
        show (joinTo xs { data := #[58] } 8).size ≤ 1000000
        rw [this, ofL_size]
        have := HZ8.out
        omega
      · intro i hi
        have := HRow.out.cells i (by rw [← HLen.out]; exact hi)
        rw [this, List.getD_eq_getElem?_getD, List.getElem?_eq_getElem hi]
        rfl
      rintro e w1 ⟨rfl, rfl⟩
      have HJ2 : Hid (joinTo xs { data := #[58] } 8 = ofL (rowT (gs.map upL))) := HJ
      rw [HJ2.out]
      obtain ⟨S, hS⟩ : ∃ S, ofL (rowT (gs.map upL)) = S := ⟨_, rfl⟩
      have hSd : S.data.toList = rowT (gs.map upL) := by rw [← hS, ofL_data]
      have hSz : S.size ≤ 100 := by rw [← hS, ofL_size]; exact HZ8.out
      have HSd := Lib.hid hSd
      rw [hS]
      clear hS hSd
      go_wp2_with fail
      refine (sixParse_list S _ (some gs) _ HSd.out (by omega) (whole_ok gs H8.out HLT.out) (HT.out.below b1)).mono ?_
      rintro e w2 ⟨rfl, hb2⟩
      rw [HPR.out]
      have b2 := chain b1 hb2
      have hA2 := (HA.out.below hbel).below hb2
      have hH2 := Arr8.new w2 24 x0 x1 x2 x3 x4 x5 x6 x7
      have hr2 := HRow.out.below hb2
      have b3 := b2.alloc b2.size (.cells #[.int .u16 (x0 : Int), .int .u16 (x1 : Int), .int .u16 (x2 : Int), .int .u16 (x3 : Int), .int .u16 (x4 : Int), .int .u16 (x5 : Int), .int .u16 (x6 : Int), .int .u16 (x7 : Int)] 24)
      have hA3 := hA2.below ((Below.refl _ _).alloc (Nat.le_refl _) (.cells #[.int .u16 (x0 : Int), .int .u16 (x1 : Int), .int .u16 (x2 : Int), .int .u16 (x3 : Int), .int .u16 (x4 : Int), .int .u16 (x5 : Int), .int .u16 (x6 : Int), .int .u16 (x7 : Int)] 24))
      have hr3 := hr2.below ((Below.refl _ _).alloc (Nat.le_refl _) (.cells #[.int .u16 (x0 : Int), .int .u16 (x1 : Int), .int .u16 (x2 : Int), .int .u16 (x3 : Int), .int .u16 (x4 : Int), .int .u16 (x5 : Int), .int .u16 (x6 : Int), .int .u16 (x7 : Int)] 24))
      have K2 : Hid (Kept8 w (w2.alloc (.cells #[.int .u16 (x0 : Int), .int .u16 (x1 : Int), .int .u16 (x2 : Int), .int .u16 (x3 : Int), .int .u16 (x4 : Int), .int .u16 (x5 : Int), .int .u16 (x6 : Int), .int .u16 (x7 : Int)] 24)) w.heap.size w2.heap.size g cap gs [x0, x1, x2, x3, x4, x5, x6, x7] xs) := Lib.hid ⟨hA3, hH2, hr3, b3⟩
      clear hA2 hH2 hr2 hA3 hr3 b3 b2 b1 HA hbel HRow
      go_wp2_with fail
      generalize w2.alloc (.cells #[.int .u16 (x0 : Int), .int .u16 (x1 : Int), .int .u16 (x2 : Int), .int .u16 (x3 : Int), .int .u16 (x4 : Int), .int .u16 (x5 : Int), .int .u16 (x6 : Int), .int .u16 (x7 : Int)] 24) = W2 at *
      refine (sixParse_list _ _ none _ ?_ ?_ (whole_more gs H8.out HLT.out) (HT.out.below K2.out.b)).mono ?_
      · rw [data_append, HSd.out]; try rfl
      · rw [ByteArray.size_append]; show S.size + 2 ≤ 100000; omega
      rintro e w3 ⟨rfl, hb3⟩
      rw [HPN.out]
      have K3 := Lib.hid ((K2.out.next hb3).more (.cells #[.int .u16 0, .int .u16 0, .int .u16 0, .int .u16 0, .int .u16 0, .int .u16 0, .int .u16 0, .int .u16 0] 24))
      go_wp2_with fail
      generalize w3.alloc (.cells #[.int .u16 0, .int .u16 0, .int .u16 0, .int .u16 0, .int .u16 0, .int .u16 0, .int .u16 0, .int .u16 0] 24) = W3 at *
      refine (join_any g 7 cap (xs.take 7) _ _ (by rw [List.length_take, HLen.out]; rfl) (by decide) ?_ ?_ ?_).mono ?_
      · show 1 ≤ 1000; decide
      · have := HJ7.out
        show (joinTo (xs.take 7) { data := #[58] } 7).size ≤ 1000000
        rw [this, ofL_size]
        have := HZ7.out
        omega
      · intro i hi
        have hi2 : i < 7 := by rw [List.length_take, HLen.out] at hi; exact hi
        have := K3.out.r.cells i (by omega)
        rw [this, List.getElem_take, List.getD_eq_getElem?_getD, List.getElem?_eq_getElem (by rw [HLen.out]; omega)]
        rfl
      rintro e w1 ⟨rfl, rfl⟩
      have HJ72 : Hid (joinTo (xs.take 7) { data := #[58] } 7 = ofL (rowT ((gs.take 7).map upL))) := HJ7
      rw [HJ72.out]
      obtain ⟨S7, hS7⟩ : ∃ S, ofL (rowT ((gs.take 7).map upL)) = S := ⟨_, rfl⟩
      have HS7d : Hid (S7.data.toList = rowT ((gs.take 7).map upL)) := Lib.hid (by rw [← hS7, ofL_data])
      have hS7z : S7.size ≤ 100 := by rw [← hS7, ofL_size]; exact HZ7.out
      rw [hS7]
      clear hS7
      go_wp2_with fail
      refine (sixParse_list _ _ none _ ?_ ?_ (whole_less gs H8.out HLT.out) (HT.out.below K3.out.b)).mono ?_
      · exact HS7d.out
      · omega
      rintro e w4 ⟨rfl, hb4⟩
      rw [HPN.out]
      have K4 := Lib.hid ((K3.out.next hb4).more (.cells #[.int .u16 0, .int .u16 0, .int .u16 0, .int .u16 0, .int .u16 0, .int .u16 0, .int .u16 0, .int .u16 0] 24))
      go_wp2_with fail
      generalize w4.alloc (.cells #[.int .u16 0, .int .u16 0, .int .u16 0, .int .u16 0, .int .u16 0, .int .u16 0, .int .u16 0, .int .u16 0] 24) = W4 at *
      refine (sixParse_list _ _ none _ ?_ ?_ (whole_long gs H8.out) (HT.out.below K4.out.b)).mono ?_
      · rw [data_append, HSd.out]; try rfl
      · rw [ByteArray.size_append]; show 1 + S.size ≤ 100000; omega
      rintro e w5 ⟨rfl, hb5⟩
      rw [HPN.out]
      have K5 := Lib.hid ((K4.out.next hb5).more (.cells #[.int .u16 0, .int .u16 0, .int .u16 0, .int .u16 0, .int .u16 0, .int .u16 0, .int .u16 0, .int .u16 0] 24))
      go_wp2_with fail
      generalize w5.alloc (.cells #[.int .u16 0, .int .u16 0, .int .u16 0, .int .u16 0, .int .u16 0, .int .u16 0, .int .u16 0, .int .u16 0] 24) = W5 at *
      refine (sixParse_list _ _ none _ ?_ ?_ (whole_ahead gs H8.out) (HT.out.below K5.out.b)).mono ?_
      · rw [data_append, HSd.out]; try rfl
      · rw [ByteArray.size_append]; show 1 + S.size ≤ 100000; omega
      rintro e w6 ⟨rfl, hb6⟩
      rw [HPN.out]
      have K6 := Lib.hid ((K5.out.next hb6).more (.cells #[.int .u16 0, .int .u16 0, .int .u16 0, .int .u16 0, .int .u16 0, .int .u16 0, .int .u16 0, .int .u16 0] 24))
      go_wp2_with fail
      generalize w6.alloc (.cells #[.int .u16 0, .int .u16 0, .int .u16 0, .int .u16 0, .int .u16 0, .int .u16 0, .int .u16 0, .int .u16 0] 24) = W6 at *
      refine (sixParse_list _ _ none _ ?_ ?_ (whole_behind gs H8.out) (HT.out.below K6.out.b)).mono ?_
      · rw [data_append, HSd.out]; try rfl
      · rw [ByteArray.size_append]; show S.size + 1 ≤ 100000; omega
      rintro e w7 ⟨rfl, hb7⟩
      rw [HPN.out]
      have K7 := Lib.hid ((K6.out.next hb7).more (.cells #[.int .u16 0, .int .u16 0, .int .u16 0, .int .u16 0, .int .u16 0, .int .u16 0, .int .u16 0, .int .u16 0] 24))
      have A7 := K7.out.a
      rw [HG.out] at A7
      obtain ⟨c0, c1, c2, c3, c4, c5, c6, c7⟩ := A7.all
      obtain ⟨d0, d1, d2, d3, d4', d5, d6, d7⟩ := K7.out.h.all
      clear A7
      go_wp2_with fail
      generalize w7.alloc (.cells #[.int .u16 0, .int .u16 0, .int .u16 0, .int .u16 0, .int .u16 0, .int .u16 0, .int .u16 0, .int .u16 0] 24) = W7 at *
      refine (lives3_any _ (HT.out.below K7.out.b)).mono ?_
      rintro e w8 ⟨rfl, hb8⟩
      go_wp2
      go_ret
      exact ⟨rfl, chain K7.out.b hb8⟩

theorem walk (z0 : List Int) (l0 : z0.length = 8) (w0 : ∀ z ∈ z0, (Lit.int .u16 z).wf = true) (w : World) (htab : Tabs w) :
    Calls Tryd.prog 6 #[.agg (z0.map (Value.int .u16)).toArray] w fun e w' => e = .returned (.bool true) ∧ Below w.heap.size w w' := by
  obtain ⟨gs, h1, h2, h3⟩ := groups_of z0 l0 w0
  rw [h3]
  exact walk8 gs h1 h2 w htab

theorem door_met (os : Os) (args : Array Value) : laidMetH Tryd.prog Rows.sixWholeRow.laid ((World.doorLaid Tryd.prog 400 os).forCall (fun _ _ => 0) ⟨#[], args, []⟩).memory :=
  laidMetH_of_parts3 (fuel := 8) (laidMet_of_run' 8 (by kernel_rfl) (by kernel_rfl)) (by kernel_rfl) (by kernel_rfl)

set_option maxRecDepth 100000 in
theorem lifted (os : Os) (started : os.Started) (H : Type) (enc : TypeId × Value → H) :
    ReturnsInHanded {} Tryd.checked os 6 .any (fun w args => (Rows.sixWholeSpec.pre enc Tryd.prog Tryd.f6 [] false w args ∧ laidMetH Tryd.prog Rows.sixWholeRow.laid w) ∧ sizedMet enc Tryd.prog Tryd.f6 (OpenSpec.ofChange Rows.sixWholeSpec) false w args)
      (Rows.sixWholeSpec.post enc Tryd.prog Tryd.f6 false true false false) := by
  refine handed_shaped (C := Tryd.checked) (X := fun w _ => laidMetH Tryd.prog Rows.sixWholeRow.laid w) (fun _ _ _ hh h => h.of_heap hh) own started (by kernel_rfl) Tryd.func6
    (ChangeSpec.witness_shaped (enc := enc) (C := Tryd.checked) (os := os) (X := fun w _ => laidMetH Tryd.prog Rows.sixWholeRow.laid w) false (World.doorLaid Tryd.prog 400 os) #[.agg #[.int .u16 0, .int .u16 0, .int .u16 0, .int .u16 0, .int .u16 0, .int .u16 0, .int .u16 0, .int .u16 0]] 8 rfl (World.shaped_of_RefB (by kernel_rfl) (by kernel_rfl)) (by kernel_rfl) (by kernel_rfl) (by kernel_rfl) (door_met os _)) ?_
  intro W base args ds gs before hval0 hW hL hsh
  have hval : ∀ (j : Nat) t v, Tryd.f6.params[j]? = some t → args[j]? = some v → Value.okWide Tryd.prog W .any base t v := hval0
  have hW' := hW
  obtain ⟨p, q, hA0, hV, rfl, hfz, hnd⟩ := hW
  have hA : DataW.TrodAll enc Tryd.prog W 0 (fun _ => true) true Tryd.f6.params.toList args.toList ds p := hA0
  rw [Tryd.params6] at hA hval
  obtain ⟨v0, vs0, d0, ds0, p0, q0, hargs, rfl, rfl, h0, r0⟩ := trodAll_cons hA
  obtain ⟨rfl, rfl, rfl⟩ := trodAll_nil r0
  obtain rfl : args = #[v0] := by cases args; simp_all
  obtain ⟨rfl, rfl⟩ := trodVars_none hV
  have k0 := h0
  have lt0 : ∀ x ∈ p0, x.block < W.heap.size := by obtain ⟨m, hm⟩ := k0; exact DataW.trod_lt m _ _ _ hm
  obtain ⟨z0, rfl, l0, w0⟩ := open_int_array Tryd.underlying24 Tryd.underlying23 (by kernel_rfl) (by kernel_rfl) (hval 0 24 v0 rfl rfl) h0
  clear hA0 hval0
  refine (walk z0 l0 w0 W (tabs_of Rows.sixWholeRow.laid rfl hL hsh)).mono fun e W' ⟨he, bel⟩ => ?_
  subst he
  exact ⟨_, rfl, _, _, _, [], _, [], hW', trodAll_mk1 (shut_bool Tryd.underlying4 _), (trodAll_cons_mk (Below.trod laidOut (by kernel_rfl) (of_decide_eq_true (by kernel_rfl)) k0 bel lt0) trodAll_mk0), rfl, bel.frame _, fun h => by cases h⟩

theorem over : Rows.SixWholeSaid :=
  OpenClaim.holds_of_wide 6 Tryd.f6 rfl rfl rfl rfl rfl rfl rfl ⟨rfl, rfl, rfl, rfl, rfl⟩ rfl rfl rfl rfl rfl (by kernel_rfl) Tryd.func6 (by kernel_rfl)
    (of_decide_eq_true (by kernel_rfl)) (by unfold Func.isWrapper; first | (rw [if_pos (by decide +kernel)]; kernel_rfl) | (rw [if_neg (by decide +kernel)]; exact ⟨rfl, rfl⟩))
    (fun os started H enc _ => lifted os started H enc)


theorem proved : Rows.SixWholeCardSaid :=
  Claim7.holds_tied_plain_at .later [] [.data, .data, .data] true _ false
    over (fun _ h => by cases h) (by kernel_rfl) (fun _ h => by cases h) sixWhole_row_tie rfl ⟨rfl, rfl⟩ (by kernel_rfl) rfl
    (fun f fn hf hfn => by
      obtain rfl : f = 6 := Option.some.inj ((show Tryd.prog.funcNamed "abatis/abatislaw03.SixWhole" = some 6 by kernel_rfl).symm.trans hf) |>.symm
      obtain rfl : fn = Tryd.f6 := (Option.some.inj (Tryd.func6.symm.trans hfn)).symm
      exact ⟨by kernel_rfl, fun j t ht => by
        rw [Tryd.params6] at ht
        have hm : t ∈ [24] := by simpa using Array.mem_of_getElem? ht
        have hall : ([24].all fun u => !Tryd.prog.wantsStandIn u) = true := by kernel_rfl
        exact (show Tryd.prog.wantsStandIn t = false by simpa using List.all_eq_true.1 hall t hm)⟩)
    (by kernel_rfl)
#print axioms proved
end Go.Proofs.YtkdinhgflkfbkaaDoor.sixWhole

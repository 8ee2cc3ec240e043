/- A strict text in place of the last two groups is read by the landed six.Parse as them; at another place, or behind seven groups, it is none; for every address and number. A tied card: three tables of the library hold what the program lays in them. -/
import Derived.Test.YtkdinhgflkfbkaaDoorSixList
import Derived.Test.YtkdinhgflkfbkaaDoorDoorTabs
import Derived.Test.YtkdinhgflkfbkaaDoorOpenArr
import Derived.ProofKit
import Derived.OpenShut
import Derived.ShutString
import Derived.ChangeOld
import Derived.Below
namespace Go.Proofs.YtkdinhgflkfbkaaDoor.sixDots
open Go.ChangeShapes Go.WideShapes Go.ChangeAt Go.RowKit
open Go.ChangeMaps (open_string shut_string)
set_option linter.unusedVariables false

theorem own : ownKnob Tryd.prog.godebug = none := by kernel_rfl

/-- Groups' texts, a colon behind each. -/
def preT (l : List Nat) : List UInt8 := l.flatMap fun x => groupL x ++ [58]
theorem preT_snoc (l : List Nat) (x : Nat) : preT (l ++ [x]) = preT l ++ (groupL x ++ [58]) := by simp [preT]
theorem preT_row (t : List UInt8) : ∀ l : List Nat, preT l ++ t = rowT (l.map groupL ++ [t])
  | [] => rfl
  | [x] => by simp [preT, rowT]
  | x :: y :: r => by
    have ih := preT_row t (y :: r)
    show (groupL x ++ [58]) ++ preT (y :: r) ++ t = groupL x ++ 58 :: rowT (groupL y :: (r.map groupL ++ [t]))
    have e : rowT (groupL y :: (r.map groupL ++ [t])) = preT (y :: r) ++ t := ih.symm
    rw [e]
    simp
theorem text4_cat6 (a b c d : Nat) (X Y Z : ByteArray) (hX : X.data.toList = [46]) (hY : Y.data.toList = [46]) (hZ : Z.data.toList = [46]) : ofL (dec a) ++ X ++ ofL (dec b) ++ Y ++ ofL (dec c) ++ Z ++ ofL (dec d) = text4 a b c d :=
  bytes_ext (by simp only [data_append, ofL_data, text4_data, hX, hY, hZ]; simp)

set_option maxRecDepth 100000 in
set_option maxHeartbeats 8000000 in
theorem walk8 (gs : List Nat) (n : Nat) (h8 : gs.length = 8) (hlt : ∀ x ∈ gs, x < 65536) (hn : n ≤ 4294967295) (w : World)
    (htab : Tabs w) :
    Calls Tryd.prog 8 #[arr8 gs, .int .u32 (n : Int)] w fun e w' => e = .returned (.bool true) ∧ Below w.heap.size w w' := by
  obtain ⟨x0, x1, x2, x3, x4, x5, x6, x7, hgs⟩ := list8 gs h8
  obtain ⟨a, b, c, d, ha4, hb4, hc4, hd4, hN⟩ := num4_ex n hn
  obtain ⟨hi, hhi, ehi⟩ : ∃ hi : Nat, n / 65536 = hi ∧ (n : Int) / 65536 = (hi : Int) := ⟨_, rfl, by omega⟩
  obtain ⟨lo, hlo, elo⟩ : ∃ lo : Nat, n % 65536 = lo ∧ (n : Int) % 65536 = (lo : Int) := ⟨_, rfl, by omega⟩
  have l6 : ∀ x ∈ gs.take 6, x < 65536 := fun x hx => hlt x (List.mem_of_mem_take hx)
  have l7 : ∀ x ∈ gs.take 6 ++ [1], x < 65536 := fun x hx => by
    rcases List.mem_append.1 hx with h | h
    · exact l6 x h
    · rw [List.mem_singleton] at h; omega
  have n6 : (gs.take 6).length = 6 := by simp [h8]
  have g1 : groupL 1 = [49] := by rw [groupL_one (by decide)]; decide
  have hw6 : gs.take 6 ++ [hi, lo] = [x0, x1, x2, x3, x4, x5, hi, lo] := by rw [hgs]; rfl
  have P1 : Hid (parseB (ofL (preT (gs.take 6) ++ d4 a b c d)) = some [x0, x1, x2, x3, x4, x5, hi, lo]) := Lib.hid (by
    rw [preT_row, dots_parse _ a b c d l6 ha4 hb4 hc4 hd4, if_pos n6, ← hN, hhi, hlo, hw6])
  have P2 : Hid (parseB (ofL (preT (gs.take 6) ++ [49, 58] ++ d4 a b c d)) = none) := Lib.hid (by
    have e : preT (gs.take 6) ++ [49, 58] = preT (gs.take 6 ++ [1]) := by rw [preT_snoc, g1]; rfl
    rw [e, preT_row, dots_parse _ a b c d l7 ha4 hb4 hc4 hd4, if_neg (by rw [List.length_append, n6]; decide)])
  have P3 : Hid (parseB (ofL (d4 a b c d ++ [58] ++ preT (gs.take 6) ++ [49])) = none) := Lib.hid (by
    have e : d4 a b c d ++ [58] ++ preT (gs.take 6) ++ [49] = rowT (d4 a b c d :: (gs.take 6 ++ [1]).map groupL) := by
      have e1 := preT_row [49] (gs.take 6)
      rw [hgs] at e1 ⊢
      rw [List.append_assoc, e1]
      simp [rowT, g1]
    rw [e, dots_ahead _ a b c d (by simp) l7 ha4 hb4 hc4 hd4])
  have hA := Arr8.new w 24 x0 x1 x2 x3 x4 x5 x6 x7
  have b0 : Below w.heap.size w (w.alloc (.cells #[.int .u16 (x0 : Int), .int .u16 (x1 : Int), .int .u16 (x2 : Int), .int .u16 (x3 : Int), .int .u16 (x4 : Int), .int .u16 (x5 : Int), .int .u16 (x6 : Int), .int .u16 (x7 : Int)] 24)) := (Below.refl _ _).alloc (Nat.le_refl _) _
  have ha : arr8 gs = .agg #[.int .u16 (x0 : Int), .int .u16 (x1 : Int), .int .u16 (x2 : Int), .int .u16 (x3 : Int), .int .u16 (x4 : Int), .int .u16 (x5 : Int), .int .u16 (x6 : Int), .int .u16 (x7 : Int)] := by rw [hgs]; rfl
  have HPR : Hid (parseRet (some [x0, x1, x2, x3, x4, x5, hi, lo]) = .tuple #[.agg #[.int .u16 (x0 : Int), .int .u16 (x1 : Int), .int .u16 (x2 : Int), .int .u16 (x3 : Int), .int .u16 (x4 : Int), .int .u16 (x5 : Int), .int .u16 (hi : Int), .int .u16 (lo : Int)], .bool true]) := Lib.hid rfl
  have HPN : Hid (parseRet none = .tuple #[.agg #[.int .u16 0, .int .u16 0, .int .u16 0, .int .u16 0, .int .u16 0, .int .u16 0, .int .u16 0, .int .u16 0], .bool false]) := Lib.hid rfl
  have HRP : Hid (∀ x : Nat, x < 65536 → ∀ w, Calls Tryd.prog 17 #[.agg #[.int .u16 1, .int .u16 1, .int .u16 1, .int .u16 1, .int .u16 1, .int .u16 1, .int .u16 1, .int .u16 (x : Int)]] w fun e w' => e = .returned (.string (printB [1, 1, 1, 1, 1, 1, 1, x])) ∧ Below w.heap.size w w') := Lib.hid (fun x hx w => refPrint6_any [1, 1, 1, 1, 1, 1, 1, x] w rfl (by
    intro y hy
    simp at hy
    rcases hy with h | h <;> omega))
  have e1 : (n : Int) / 16777216 = (a : Int) := by unfold num4 at hN; omega
  have e2 : (hi : Int) % 256 = (b : Int) := by unfold num4 at hN; omega
  have e3 : (n : Int) / 256 % 256 = (c : Int) := by unfold num4 at hN; omega
  have e4 : (n : Int) % 256 = (d : Int) := by unfold num4 at hN; omega
  have whi : IntKind.u16.wrap (hi : Int) = (hi : Int) := by rw [IntKind.wrap_u16]; omega
  have wlo : IntKind.u16.wrap (lo : Int) = (lo : Int) := by rw [IntKind.wrap_u16]; omega
  have hTz := text4_size a b c d ha4 hb4 hc4 hd4
  have tcat := text4_cat6 a b c d
  have hTd := text4_data a b c d
  have zda := ofL_size (dec a)
  have zdb := ofL_size (dec b)
  have zdc := ofL_size (dec c)
  have zdd := ofL_size (dec d)
  have za := dec_small a ha4
  have zb := dec_small b hb4
  have zc := dec_small c hc4
  have zd := dec_small d hd4
  have HDa := Lib.hid (fun w => refDecimal_ofL a w (by omega))
  have HDb := Lib.hid (fun w => refDecimal_ofL b w (by omega))
  have HDc := Lib.hid (fun w => refDecimal_ofL c w (by omega))
  have HDd := Lib.hid (fun w => refDecimal_ofL d w (by omega))
  generalize text4 a b c d = T at *
  generalize ofL (dec a) = Da at *
  generalize ofL (dec b) = Db at *
  generalize ofL (dec c) = Dc at *
  generalize ofL (dec d) = Dd at *
  have yda : Da.size ≤ 21 := by omega
  have ydb : Db.size ≤ 21 := by omega
  have ydc : Dc.size ≤ 21 := by omega
  have ydd : Dd.size ≤ 21 := by omega
  clear zda zdb zdc zdd za zb zc zd
  have HTD : Hid (T.data.toList = d4 a b c d) := Lib.hid hTd
  have HT := Lib.hid htab
  have HG := Lib.hid hgs
  have H8 := Lib.hid h8
  have HLT := Lib.hid hlt
  have HTC := Lib.hid tcat
  have q := eq8_true x0 x1 x2 x3 x4 x5 hi lo
  rw [ha]
  rw [← hgs] at hA
  have HA := Lib.hid hA
  clear htab ha hgs hlt h8 hA tcat hTd hN hhi hlo l6 l7 n6 g1 hw6 ha4 hb4 hc4 hd4
  go_enter Tryd.func8, Tryd.ntmps8
  go_wp2_with fail
  generalize w.alloc (.cells #[.int .u16 (x0 : Int), .int .u16 (x1 : Int), .int .u16 (x2 : Int), .int .u16 (x3 : Int), .int .u16 (x4 : Int), .int .u16 (x5 : Int), .int .u16 (x6 : Int), .int .u16 (x7 : Int)] 24) = W at *
  go_loopw [5, 6] (fun t i wr => ∃ (k : Nat) (S : ByteArray), k ≤ 6 ∧ i = .int .i64 k ∧ t = .string S ∧ S.size ≤ 5 * k ∧ Hid (S.data.toList = preT (gs.take k)) ∧ Below W.heap.size W wr) (fun _ i _ => 6 - (intOf i).toNat)
  case atStart => exact ⟨0, _, by decide, rfl, rfl, by decide, Lib.hid rfl, Below.refl _ _⟩
  case round =>
    obtain ⟨k, S, hk, rfl, rfl, hS, HS, hbel⟩ := hrel
    by_cases hk6 : k < 6
    · have hcell := (HA.out.below hbel).cells k (by omega)
      have hx : gs.getD k 0 < 65536 := by
        rw [List.getD_eq_getElem?_getD, List.getElem?_eq_getElem (by rw [H8.out]; omega)]
        exact HLT.out _ (List.getElem_mem _)
      have et : gs.take (k + 1) = gs.take k ++ [gs.getD k 0] := by
        rw [List.take_add_one, List.getD_eq_getElem?_getD, List.getElem?_eq_getElem (by rw [H8.out]; omega)]; rfl
      have HE := Lib.hid et
      obtain ⟨x, ex⟩ : ∃ x, gs.getD k 0 = x := ⟨_, rfl⟩
      rw [ex] at hcell hx HE
      clear ex et
      obtain ⟨P, hP, hcut, hP14, hPz⟩ := ones_text x hx
      obtain ⟨D, hD⟩ : ∃ D, ofL (groupL x) = D := ⟨_, rfl⟩
      have hDz : D.size ≤ 4 := by rw [← hD, ofL_size]; exact (groupL_length x hx).2
      rw [hD] at hcut
      have HP := Lib.hid hP
      have HD := Lib.hid hD
      clear hP hD
      go_wp2_with fail
      refine (HRP.out x hx _).mono ?_
      rintro e w1 ⟨rfl, hb1⟩
      rw [HP.out]
      go_wp2_with fail
      go_roundw
      case rel => exact ⟨k + 1, _, by omega, by go_num, rfl, by rw [ByteArray.size_append, ByteArray.size_append]; show S.size + D.size + 1 ≤ _; omega, Lib.hid (by rw [HE.out, preT_snoc, data_append, data_append, HS.out, ← HD.out, ofL_data, List.append_assoc]), chain hbel hb1⟩
      case measure => simp [intOf]; omega
    · obtain rfl : k = 6 := by omega
      have tcat := HTC.out
      have b1 := chain b0 hbel
      have hA1 := HA.out.below hbel
      go_wp2_with fail
      refine (HDa.out _).mono ?_
      rintro e w1 ⟨rfl, hb1⟩
      go_wp2_with fail
      refine (HDb.out _).mono ?_
      rintro e w2 ⟨rfl, hb2⟩
      go_wp2_with fail
      refine (HDc.out _).mono ?_
      rintro e w3 ⟨rfl, hb3⟩
      go_wp2_with fail
      refine (HDd.out _).mono ?_
      rintro e w4 ⟨rfl, hb4⟩
      go_wp2_with fail
      clear tcat
      refine (sixParse_list _ _ (some [x0, x1, x2, x3, x4, x5, hi, lo]) _ ?_ ?_ P1.out (HT.out.below (chain (chain (chain (chain b1 hb1) hb2) hb3) hb4))).mono ?_
      · rw [data_append, HS.out, HTD.out]
      · rw [ByteArray.size_append]; omega
      rintro e w5 ⟨rfl, hb5⟩
      rw [HPR.out]
      have b5 := chain (chain (chain (chain (chain b1 hb1) hb2) hb3) hb4) hb5
      have hA5 := ((((hA1.below hb1).below hb2).below hb3).below hb4).below hb5
      rw [HG.out] at hA5
      have cc := fun o => (hA5.below ((Below.refl _ _).alloc (Nat.le_refl _) o)).all
      have c0 := fun o => (cc o).1
      have c1 := fun o => (cc o).2.1
      have c2 := fun o => (cc o).2.2.1
      have c3 := fun o => (cc o).2.2.2.1
      have c4 := fun o => (cc o).2.2.2.2.1
      have c5 := fun o => (cc o).2.2.2.2.2.1
      have c6 := fun o => (cc o).2.2.2.2.2.2.1
      have c7 := fun o => (cc o).2.2.2.2.2.2.2
      clear cc
      go_wp2_with fail
      have hH := Arr8.new w5 24 x0 x1 x2 x3 x4 x5 hi lo
      have hW := Arr8.new (w5.alloc (.cells #[.int .u16 (x0 : Int), .int .u16 (x1 : Int), .int .u16 (x2 : Int), .int .u16 (x3 : Int), .int .u16 (x4 : Int), .int .u16 (x5 : Int), .int .u16 (hi : Int), .int .u16 (lo : Int)] 24)) 24 x0 x1 x2 x3 x4 x5 hi lo
      have hH2 := hH.below ((Below.refl _ _).alloc (Nat.le_refl _) (.cells #[.int .u16 (x0 : Int), .int .u16 (x1 : Int), .int .u16 (x2 : Int), .int .u16 (x3 : Int), .int .u16 (x4 : Int), .int .u16 (x5 : Int), .int .u16 (hi : Int), .int .u16 (lo : Int)] 24))
      have b6 := b5.alloc b5.size (.cells #[.int .u16 (x0 : Int), .int .u16 (x1 : Int), .int .u16 (x2 : Int), .int .u16 (x3 : Int), .int .u16 (x4 : Int), .int .u16 (x5 : Int), .int .u16 (hi : Int), .int .u16 (lo : Int)] 24)
      have b7 := b6.alloc b6.size (.cells #[.int .u16 (x0 : Int), .int .u16 (x1 : Int), .int .u16 (x2 : Int), .int .u16 (x3 : Int), .int .u16 (x4 : Int), .int .u16 (x5 : Int), .int .u16 (hi : Int), .int .u16 (lo : Int)] 24)
      rw [show (w5.alloc (.cells #[.int .u16 (x0 : Int), .int .u16 (x1 : Int), .int .u16 (x2 : Int), .int .u16 (x3 : Int), .int .u16 (x4 : Int), .int .u16 (x5 : Int), .int .u16 (hi : Int), .int .u16 (lo : Int)] 24)).heap.size = w5.heap.size + 1 by simp] at hW
      clear hH b6 hA5 hA1 c0 c1 c2 c3 c4 c5 c6 c7
      generalize (w5.alloc (.cells #[.int .u16 (x0 : Int), .int .u16 (x1 : Int), .int .u16 (x2 : Int), .int .u16 (x3 : Int), .int .u16 (x4 : Int), .int .u16 (x5 : Int), .int .u16 (hi : Int), .int .u16 (lo : Int)] 24)).alloc (.cells #[.int .u16 (x0 : Int), .int .u16 (x1 : Int), .int .u16 (x2 : Int), .int .u16 (x3 : Int), .int .u16 (x4 : Int), .int .u16 (x5 : Int), .int .u16 (hi : Int), .int .u16 (lo : Int)] 24) = W5 at *
      refine (sixParse_list _ _ none _ ?_ ?_ P2.out (HT.out.below b7)).mono ?_
      · rw [data_append, data_append, HS.out, HTD.out]
      · rw [ByteArray.size_append, ByteArray.size_append]; show S.size + 2 + T.size ≤ 100000; omega
      rintro e w6 ⟨rfl, hb6⟩
      rw [HPN.out]
      have b8 := (chain b7 hb6).alloc (chain b7 hb6).size (.cells #[.int .u16 0, .int .u16 0, .int .u16 0, .int .u16 0, .int .u16 0, .int .u16 0, .int .u16 0, .int .u16 0] 24)
      have hH6 := (hH2.below hb6).below ((Below.refl _ _).alloc (Nat.le_refl _) (.cells #[.int .u16 0, .int .u16 0, .int .u16 0, .int .u16 0, .int .u16 0, .int .u16 0, .int .u16 0, .int .u16 0] 24))
      have hW6 := (hW.below hb6).below ((Below.refl _ _).alloc (Nat.le_refl _) (.cells #[.int .u16 0, .int .u16 0, .int .u16 0, .int .u16 0, .int .u16 0, .int .u16 0, .int .u16 0, .int .u16 0] 24))
      clear hH2 hW
      go_wp2_with fail
      generalize w6.alloc (.cells #[.int .u16 0, .int .u16 0, .int .u16 0, .int .u16 0, .int .u16 0, .int .u16 0, .int .u16 0, .int .u16 0] 24) = W6 at *
      refine (sixParse_list _ _ none _ ?_ ?_ P3.out (HT.out.below b8)).mono ?_
      · rw [data_append, data_append, data_append, HS.out, HTD.out]
      · rw [ByteArray.size_append, ByteArray.size_append, ByteArray.size_append]; show T.size + 1 + S.size + 1 ≤ 100000; omega
      rintro e w7 ⟨rfl, hb7⟩
      rw [HPN.out]
      have b9 := (chain b8 hb7).alloc (chain b8 hb7).size (.cells #[.int .u16 0, .int .u16 0, .int .u16 0, .int .u16 0, .int .u16 0, .int .u16 0, .int .u16 0, .int .u16 0] 24)
      have hH7 := (hH6.below hb7).below ((Below.refl _ _).alloc (Nat.le_refl _) (.cells #[.int .u16 0, .int .u16 0, .int .u16 0, .int .u16 0, .int .u16 0, .int .u16 0, .int .u16 0, .int .u16 0] 24))
      have hW7 := (hW6.below hb7).below ((Below.refl _ _).alloc (Nat.le_refl _) (.cells #[.int .u16 0, .int .u16 0, .int .u16 0, .int .u16 0, .int .u16 0, .int .u16 0, .int .u16 0, .int .u16 0] 24))
      obtain ⟨c0, c1, c2, c3, c4, c5, c6, c7⟩ := hH7.all
      obtain ⟨d0, d1, d2, d3, d4', d5, d6, d7⟩ := hW7.all
      clear hH6 hW6 hH7 hW7
      go_wp2_with fail
      refine (lives3_any _ (HT.out.below b9)).mono ?_
      rintro e w8 ⟨rfl, hb8⟩
      go_wp2
      go_ret
      exact ⟨rfl, chain b9 hb8⟩

theorem walk (z0 : List Int) (a1 : Int) (l0 : z0.length = 8) (w0 : ∀ z ∈ z0, (Lit.int .u16 z).wf = true) (w1 : (Lit.int .u32 a1).wf = true) (w : World) (htab : Tabs w) :
    Calls Tryd.prog 8 #[.agg (z0.map (Value.int .u16)).toArray, .int .u32 a1] w fun e w' => e = .returned (.bool true) ∧ Below w.heap.size w w' := by
  obtain ⟨gs, h1, h2, h3⟩ := groups_of z0 l0 w0
  rw [h3]
  have hb := bounds_u32 w1
  obtain ⟨n, rfl⟩ := Int.eq_ofNat_of_zero_le hb.1
  exact walk8 gs n h1 h2 (by omega) w htab

theorem door_met (os : Os) (args : Array Value) : laidMetH Tryd.prog Rows.sixDotsRow.laid ((World.doorLaid Tryd.prog 400 os).forCall (fun _ _ => 0) ⟨#[], args, []⟩).memory :=
  laidMetH_of_parts3 (fuel := 8) (laidMet_of_run' 8 (by kernel_rfl) (by kernel_rfl)) (by kernel_rfl) (by kernel_rfl)

set_option maxRecDepth 100000 in
theorem lifted (os : Os) (started : os.Started) (H : Type) (enc : TypeId × Value → H) :
    ReturnsInHanded {} Tryd.checked os 8 .any (fun w args => (Rows.sixDotsSpec.pre enc Tryd.prog Tryd.f8 [] false w args ∧ laidMetH Tryd.prog Rows.sixDotsRow.laid w) ∧ sizedMet enc Tryd.prog Tryd.f8 (OpenSpec.ofChange Rows.sixDotsSpec) false w args)
      (Rows.sixDotsSpec.post enc Tryd.prog Tryd.f8 false true false false) := by
  refine handed_shaped (C := Tryd.checked) (X := fun w _ => laidMetH Tryd.prog Rows.sixDotsRow.laid w) (fun _ _ _ hh h => h.of_heap hh) own started (by kernel_rfl) Tryd.func8
    (ChangeSpec.witness_shaped (enc := enc) (C := Tryd.checked) (os := os) (X := fun w _ => laidMetH Tryd.prog Rows.sixDotsRow.laid w) false (World.doorLaid Tryd.prog 400 os) #[.agg #[.int .u16 0, .int .u16 0, .int .u16 0, .int .u16 0, .int .u16 0, .int .u16 0, .int .u16 0, .int .u16 0], .int .u32 0] 8 rfl (World.shaped_of_RefB (by kernel_rfl) (by kernel_rfl)) (by kernel_rfl) (by kernel_rfl) (by kernel_rfl) (door_met os _)) ?_
  intro W base args ds gs before hval0 hW hL hsh
  have hval : ∀ (j : Nat) t v, Tryd.f8.params[j]? = some t → args[j]? = some v → Value.okWide Tryd.prog W .any base t v := hval0
  have hW' := hW
  obtain ⟨p, q, hA0, hV, rfl, hfz, hnd⟩ := hW
  have hA : DataW.TrodAll enc Tryd.prog W 0 (fun _ => true) true Tryd.f8.params.toList args.toList ds p := hA0
  rw [Tryd.params8] at hA hval
  obtain ⟨v0, vs0, d0, ds0, p0, q0, hargs, rfl, rfl, h0, r0⟩ := trodAll_cons hA
  obtain ⟨v1, vs1, d1, ds1, p1, q1, rfl, rfl, rfl, h1, r1⟩ := trodAll_cons r0
  obtain ⟨rfl, rfl, rfl⟩ := trodAll_nil r1
  obtain rfl : args = #[v0, v1] := by cases args; simp_all
  obtain ⟨rfl, rfl⟩ := trodVars_none hV
  have k0 := h0
  have lt0 : ∀ x ∈ p0, x.block < W.heap.size := by obtain ⟨m, hm⟩ := k0; exact DataW.trod_lt m _ _ _ hm
  obtain ⟨z0, rfl, l0, w0⟩ := open_int_array Tryd.underlying24 Tryd.underlying23 (by kernel_rfl) (by kernel_rfl) (hval 0 24 v0 rfl rfl) h0
  obtain ⟨a1, rfl, rfl, rfl, w1⟩ := open_int Tryd.underlying41 (hval 1 41 v1 rfl rfl) h1
  clear hA0 hval0
  refine (walk z0 a1 l0 w0 w1 W (tabs_of Rows.sixDotsRow.laid rfl hL hsh)).mono fun e W' ⟨he, bel⟩ => ?_
  subst he
  exact ⟨_, rfl, _, _, _, [], _, [], hW', trodAll_mk1 (shut_bool Tryd.underlying4 _), (trodAll_cons_mk (Below.trod laidOut (by kernel_rfl) (of_decide_eq_true (by kernel_rfl)) k0 bel lt0) (trodAll_cons_mk (shut_int Tryd.underlying41 w1) trodAll_mk0)), rfl, bel.frame _, fun h => by cases h⟩

theorem over : Rows.SixDotsSaid :=
  OpenClaim.holds_of_wide 8 Tryd.f8 rfl rfl rfl rfl rfl rfl rfl ⟨rfl, rfl, rfl, rfl, rfl⟩ rfl rfl rfl rfl rfl (by kernel_rfl) Tryd.func8 (by kernel_rfl)
    (of_decide_eq_true (by kernel_rfl)) (by unfold Func.isWrapper; first | (rw [if_pos (by decide +kernel)]; kernel_rfl) | (rw [if_neg (by decide +kernel)]; exact ⟨rfl, rfl⟩))
    (fun os started H enc _ => lifted os started H enc)


theorem proved : Rows.SixDotsCardSaid :=
  Claim7.holds_tied_plain_at .later [] [.data, .data, .data] true _ false
    over (fun _ h => by cases h) (by kernel_rfl) (fun _ h => by cases h) sixDots_row_tie rfl ⟨rfl, rfl⟩ (by kernel_rfl) rfl
    (fun f fn hf hfn => by
      obtain rfl : f = 8 := Option.some.inj ((show Tryd.prog.funcNamed "abatis/abatislaw03.SixDots" = some 8 by kernel_rfl).symm.trans hf) |>.symm
      obtain rfl : fn = Tryd.f8 := (Option.some.inj (Tryd.func8.symm.trans hfn)).symm
      exact ⟨by kernel_rfl, fun j t ht => by
        rw [Tryd.params8] at ht
        have hm : t ∈ [24, 41] := by simpa using Array.mem_of_getElem? ht
        have hall : ([24, 41].all fun u => !Tryd.prog.wantsStandIn u) = true := by kernel_rfl
        exact (show Tryd.prog.wantsStandIn t = false by simpa using List.all_eq_true.1 hall t hm)⟩)
    (by kernel_rfl)
#print axioms proved
end Go.Proofs.YtkdinhgflkfbkaaDoor.sixDots

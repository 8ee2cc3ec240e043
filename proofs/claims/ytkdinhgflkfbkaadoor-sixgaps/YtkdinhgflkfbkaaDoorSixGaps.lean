/- Two colons in place of any row of zeros are read by the landed six.Parse as that row; two colons once more behind, or a third one ahead, are none; for every address, place and number of groups. A tied card: three tables of the library hold what the program lays in them. -/
import Derived.Test.YtkdinhgflkfbkaaDoorSixList
import Derived.Test.YtkdinhgflkfbkaaDoorDoorTabs
import Derived.Test.YtkdinhgflkfbkaaDoorOpenArr
import Derived.Test.YtkdinhgflkfbkaaDoorDigits
import Derived.ProofKit
import Derived.OpenShut
import Derived.ShutString
import Derived.ChangeOld
import Derived.Below
namespace Go.Proofs.YtkdinhgflkfbkaaDoor.sixGaps
open Go.ChangeShapes Go.WideShapes Go.ChangeAt Go.RowKit
open Go.ChangeMaps (open_string shut_string)
set_option linter.unusedVariables false

theorem own : ownKnob Tryd.prog.godebug = none := by kernel_rfl

/-- A row of texts of one's own, as a value: nil, or a row that lies at B or above. -/
def RowV (w : World) (B : Nat) (v : Value) (l : List ByteArray) : Prop := (v = .slice none 0 0 ∧ l = []) ∨ ∃ g c, v = .slice (some ⟨g, 0, none⟩) l.length c ∧ B ≤ g ∧ StrRow w g l.length c l
theorem RowV.of_own {w : World} {B : Nat} {v : Value} {l : List ByteArray} (h : w.ownsRow B 9 1 v l.length (l.map Value.string)) : RowV w B v l := by
  by_cases h0 : 0 < l.length
  · obtain ⟨g, c, e, hB, hr⟩ := own_row h h0
    exact .inr ⟨g, c, e, hB, hr⟩
  · have hl : l = [] := List.eq_nil_of_length_eq_zero (by omega)
    subst hl
    have hh := h
    rcases h.2 with ⟨rfl, _⟩ | ⟨g, cap, cur, rfl, hB, hg, h1, h2, _⟩
    · exact .inl ⟨rfl, rfl⟩
    · refine .inr ⟨g, cap, rfl, hB, rfl, Nat.zero_le _, h2, ?_, fun i hi => by simp at hi⟩
      rcases Nat.lt_or_ge g w.heap.size with h | h
      · exact h
      · rw [Array.getElem?_eq_none h] at hg; cases hg
theorem RowV.below {w w' : World} {B : Nat} {v : Value} {l : List ByteArray} (h : RowV w B v l) (hb : Below w.heap.size w w') : RowV w' B v l :=
  h.imp id fun ⟨g, c, e, hB, hr⟩ => ⟨g, c, e, hB, hr.below hb⟩
theorem RowV.other {w : World} {B G j : Nat} {v : Value} {l : List ByteArray} (h : RowV w B v l) (hG : G < B) (u : Value) : RowV (w.setCell ⟨G, j, none⟩ u) B v l :=
  h.imp id fun ⟨g, c, e, hB, hr⟩ => ⟨g, c, e, hB, hr.len, hr.cap, hr.capm, by simpa using hr.lt, fun i hi => by
    rw [World.cell?_setCell_other _ _ _ _ (by intro h2; injection h2 with h3 _ _; omega)]
    exact hr.cells i hi⟩
theorem RowV.join {w : World} {B : Nat} {v : Value} {l : List Nat} (h : RowV w B v (l.map gS)) (hlt : ∀ x ∈ l, x < 65536) (h8 : l.length ≤ 8) :
    Calls Tryd.prog 20 #[v, .string { data := #[58] }] w fun e w' => e = .returned (.string (rowS l)) ∧ w = w' := by
  rcases h with ⟨rfl, hl⟩ | ⟨g, c, rfl, _, hr⟩
  · have : l = [] := by simpa using hl
    subst this
    exact refJoin_nil _ w
  · have hz := rowS_small l hlt
    have := join_any g (l.map gS).length c (l.map gS) { data := #[58] } w rfl (by simp; omega) (by show 1 ≤ 1000; decide) (by
      rw [List.length_map]
      show (rowS l).size ≤ _
      omega) (fun i hi => by rw [hr.cells i hi, List.getD_eq_getElem?_getD, List.getElem?_eq_getElem hi]; rfl)
    rw [List.length_map] at this ⊢
    exact this
/-- The groups with those from A on made 0, up to m. -/
def zeroed (gs : List Nat) (A m : Nat) : List Nat := gs.take A ++ List.replicate (m - A) 0 ++ gs.drop m
theorem zeroed_start (gs : List Nat) (A : Nat) : zeroed gs A A = gs := by simp [zeroed]
theorem zeroed_len (gs : List Nat) (A m : Nat) (h8 : gs.length = 8) (hA : A ≤ m) (hm : m ≤ 8) : (zeroed gs A m).length = 8 := by simp [zeroed, h8]; omega
theorem zeroed_set (gs : List Nat) (A k : Nat) (h8 : gs.length = 8) (hA : A ≤ k) (hk : k < 8) : (zeroed gs A k).set k 0 = zeroed gs A (k + 1) := by
  unfold zeroed
  have hl : (gs.take A ++ List.replicate (k - A) 0).length = k := by simp [h8]; omega
  rw [List.set_append_right _ _ (by omega), hl, Nat.sub_self, List.drop_eq_getElem_cons (by omega), List.set_cons_zero, show k + 1 - A = (k - A) + 1 by omega, List.replicate_succ']
  simp
theorem zeroed_take (gs : List Nat) (A m : Nat) (h8 : gs.length = 8) (hA : A ≤ 8) : (zeroed gs A m).take A = gs.take A := by
  unfold zeroed
  rw [List.append_assoc, List.take_append_of_le_length (by simp [h8]; omega), List.take_of_length_le (by simp; omega)]
theorem zeroed_drop (gs : List Nat) (A m : Nat) (h8 : gs.length = 8) (hA : A ≤ m) (hm : m ≤ 8) : (zeroed gs A m).drop m = gs.drop m := by
  unfold zeroed
  have hl : (gs.take A ++ List.replicate (m - A) 0).length = m := by simp [h8]; omega
  rw [List.drop_append_of_le_length (by omega), List.drop_of_length_le (by omega)]
  rfl
theorem zeroed_zero (gs : List Nat) (A m : Nat) (h8 : gs.length = 8) (hm : m ≤ 8) : ∀ j, A ≤ j → j < m → (zeroed gs A m).getD j 0 = 0 := by
  intro j h1 h2
  unfold zeroed
  rw [List.getD_eq_getElem?_getD, List.append_assoc, List.getElem?_append_right (by simp [h8]; omega), List.getElem?_append_left (by simp [h8]; omega)]
  rw [List.getElem?_replicate]
  split <;> rfl
theorem zeroed_lt (gs : List Nat) (A m : Nat) (hlt : ∀ x ∈ gs, x < 65536) : ∀ x ∈ zeroed gs A m, x < 65536 := by
  intro x hx
  unfold zeroed at hx
  rcases List.mem_append.1 hx with hx | hx
  · rcases List.mem_append.1 hx with hx | hx
    · exact hlt x (List.mem_of_mem_take hx)
    · have := List.eq_of_mem_replicate hx; omega
  · exact hlt x (List.mem_of_mem_drop hx)
/-- Ahead of the zeros: texts gather in the first row. -/
def Ph1 (W : World) (gs : List Nat) (k : Nat) (va vb : Value) (wr : World) : Prop :=
  vb = .slice none 0 0 ∧ wr.ownsRow W.heap.size 9 1 va ((gs.take k).map gS).length (((gs.take k).map gS).map Value.string) ∧ Below W.heap.size W wr
/-- At the zeros: groups are made 0. -/
def Ph2 (w W : World) (G A k : Nat) (gs : List Nat) (va vb : Value) (wr : World) : Prop :=
  vb = .slice none 0 0 ∧ Arr8 wr G (zeroed gs A k) ∧ Below w.heap.size w wr ∧ RowV wr W.heap.size va ((gs.take A).map gS)
/-- Behind the zeros: texts gather in the second row. -/
def Ph3 (w W : World) (G A K k : Nat) (gs : List Nat) (va vb : Value) (wr : World) : Prop :=
  ∃ W2, Arr8 W2 G (zeroed gs A K) ∧ Below w.heap.size w W2 ∧ RowV W2 W.heap.size va ((gs.take A).map gS) ∧ wr.ownsRow W2.heap.size 9 1 vb (((gs.drop K).take (k - K)).map gS).length ((((gs.drop K).take (k - K)).map gS).map Value.string) ∧ Below W2.heap.size W2 wr
def Phase (w W : World) (G A K k : Nat) (gs : List Nat) (va vb : Value) (wr : World) : Prop :=
  (k ≤ A ∧ Ph1 W gs k va vb wr) ∨ (A < k ∧ k ≤ K ∧ Ph2 w W G A k gs va vb wr) ∨ (K < k ∧ Ph3 w W G A K k gs va vb wr)
theorem Phase.one {w W : World} {G A K k : Nat} {gs : List Nat} {va vb : Value} {wr : World} (h : Phase w W G A K k gs va vb wr) (hk : k < A) (hAK : A < K) : Ph1 W gs k va vb wr := by
  rcases h with h | h | h
  · exact h.2
  · omega
  · omega
theorem Phase.two {w W : World} {G A K k : Nat} {gs : List Nat} {va vb : Value} {wr : World} (h : Phase w W G A K k gs va vb wr) (hA : Arr8 W G gs) (hW : Below w.heap.size w W) (hk : A ≤ k) (hK : k < K) : Ph2 w W G A k gs va vb wr := by
  rcases h with ⟨h1, h2, h3, h4⟩ | h | h
  · obtain rfl : k = A := by omega
    exact ⟨h2, by rw [zeroed_start]; exact hA.below h4, chain hW h4, RowV.of_own h3⟩
  · exact h.2.2
  · omega
theorem Phase.three {w W : World} {G A K k : Nat} {gs : List Nat} {va vb : Value} {wr : World} (h : Phase w W G A K k gs va vb wr) (hAK : A < K) (hk : K ≤ k) : Ph3 w W G A K k gs va vb wr := by
  rcases h with h | ⟨h1, h2, rfl, h4, h5, h6⟩ | h
  · omega
  · obtain rfl : k = K := by omega
    exact ⟨wr, h4, h5, h6, by rw [Nat.sub_self, List.take_zero]; exact World.ownsRow_nil _ _ _ _, Below.refl _ _⟩
  · exact h.2
/-- A group's text, as the law cuts it out of what the reference prints. -/
theorem ones_gS (x : Nat) (hx : x < 65536) : ∃ P : ByteArray, printB [1, 1, 1, 1, 1, 1, 1, x] = P ∧ P.extract 14 P.size = gS x ∧ 14 ≤ P.size ∧ P.size ≤ 1000 := ones_text x hx
set_option maxRecDepth 100000 in
set_option maxHeartbeats 4000000 in
theorem walk8 (gs : List Nat) (n1 n2 : Int) (h8 : gs.length = 8) (hlt : ∀ x ∈ gs, x < 65536) (wn1 : (Lit.int .i64 n1).wf = true) (wn2 : (Lit.int .i64 n2).wf = true) (w : World) (htab : Tabs w) :
    Calls Tryd.prog 7 #[arr8 gs, .int .i64 n1, .int .i64 n2] w fun e w' => e = .returned (.bool true) ∧ Below w.heap.size w w' := by
  obtain ⟨i0, hi0, hz0, hz1, hz2⟩ := info_parts Tryd.infoString
  obtain ⟨A, hA⟩ : ∃ A, aroundN n1 8 = A := ⟨_, rfl⟩
  have hA8 : A < 8 := by rw [← hA]; exact aroundN_lt _ _ (by decide)
  obtain ⟨q, hq, eq⟩ : ∃ q : Nat, 8 - A = q ∧ (8 : Int) - (A : Int) = (q : Int) := ⟨_, rfl, by omega⟩
  obtain ⟨N, hN⟩ : ∃ N, aroundN n2 q = N := ⟨_, rfl⟩
  have hNq : N < q := by rw [← hN]; exact aroundN_lt _ _ (by omega)
  have HC1 := Lib.hid (fun w => around_any n1 8 w wn1 (by decide) (by decide))
  have HC2 := Lib.hid (fun w => around_any n2 q w wn2 (by omega) (by omega))
  rw [hA] at HC1
  rw [hN] at HC2
  obtain ⟨K, hK, eK⟩ : ∃ K : Nat, A + (1 + N) = K ∧ (A : Int) + (1 + (N : Int)) = (K : Int) := ⟨_, rfl, by omega⟩
  have hAK : A < K := by omega
  have hK8 : K ≤ 8 := by omega
  have wq : IntKind.i64.wrap (q : Int) = (q : Int) := by rw [IntKind.wrap_i64]; omega
  have w1N : IntKind.i64.wrap (1 + (N : Int)) = 1 + (N : Int) := by rw [IntKind.wrap_i64]; omega
  have wK : IntKind.i64.wrap (K : Int) = (K : Int) := by rw [IntKind.wrap_i64]; omega
  clear hA hN hq hK
  obtain ⟨x0, x1, x2, x3, x4, x5, x6, x7, hgs⟩ := list8 gs h8
  have hAr := Arr8.new w 24 x0 x1 x2 x3 x4 x5 x6 x7
  have b0 : Below w.heap.size w (w.alloc (.cells #[.int .u16 (x0 : Int), .int .u16 (x1 : Int), .int .u16 (x2 : Int), .int .u16 (x3 : Int), .int .u16 (x4 : Int), .int .u16 (x5 : Int), .int .u16 (x6 : Int), .int .u16 (x7 : Int)] 24)) := (Below.refl _ _).alloc (Nat.le_refl _) _
  have hW1 : (w.alloc (.cells #[.int .u16 (x0 : Int), .int .u16 (x1 : Int), .int .u16 (x2 : Int), .int .u16 (x3 : Int), .int .u16 (x4 : Int), .int .u16 (x5 : Int), .int .u16 (x6 : Int), .int .u16 (x7 : Int)] 24)).heap.size = w.heap.size + 1 := by simp
  have ha : arr8 gs = .agg #[.int .u16 (x0 : Int), .int .u16 (x1 : Int), .int .u16 (x2 : Int), .int .u16 (x3 : Int), .int .u16 (x4 : Int), .int .u16 (x5 : Int), .int .u16 (x6 : Int), .int .u16 (x7 : Int)] := by rw [hgs]; rfl
  rw [← hgs] at hAr
  rw [ha]
  have HRP : Hid (∀ x : Nat, x < 65536 → ∀ w, Calls Tryd.prog 17 #[.agg #[.int .u16 1, .int .u16 1, .int .u16 1, .int .u16 1, .int .u16 1, .int .u16 1, .int .u16 1, .int .u16 (x : Int)]] w fun e w' => e = .returned (.string (printB [1, 1, 1, 1, 1, 1, 1, x])) ∧ Below w.heap.size w w') := Lib.hid (fun x hx w => refPrint6_any [1, 1, 1, 1, 1, 1, 1, x] w rfl (by
    intro y hy
    simp at hy
    rcases hy with h | h <;> omega))
  have HT := Lib.hid htab
  have H8 := Lib.hid h8
  have HLT := Lib.hid hlt
  clear htab ha hgs hlt h8 wn1 wn2
  go_enter Tryd.func7, Tryd.ntmps7
  go_wp2_with fail
  generalize (w.alloc (.cells #[.int .u16 (x0 : Int), .int .u16 (x1 : Int), .int .u16 (x2 : Int), .int .u16 (x3 : Int), .int .u16 (x4 : Int), .int .u16 (x5 : Int), .int .u16 (x6 : Int), .int .u16 (x7 : Int)] 24)) = W at *
  have HA := Lib.hid hAr
  have HW1 := Lib.hid hW1
  clear hAr hW1
  refine (HC1.out _).mono ?_
  rintro e w' ⟨rfl, rfl⟩
  go_wp2_with fail
  refine (HC2.out _).mono ?_
  rintro e w' ⟨rfl, rfl⟩
  go_wp2_with fail
  go_loopw [7, 8, 9] (fun va vb i wr => ∃ k : Nat, k ≤ 8 ∧ i = .int .i64 k ∧ Hid (Phase w W w.heap.size A K k gs va vb wr)) (fun _ _ i _ => 8 - (intOf i).toNat)
  case atStart => exact ⟨0, by decide, rfl, Lib.hid (.inl ⟨Nat.zero_le _, rfl, World.ownsRow_nil _ _ _ _, Below.refl _ _⟩)⟩
  case round =>
    obtain ⟨k, hk, rfl, HP⟩ := hrel
    by_cases hkA : k < A
    · obtain ⟨rfl, hown, hbel⟩ := HP.out.one hkA hAK
      have hcell := (HA.out.below hbel).cells k (by omega)
      have hx : gs.getD k 0 < 65536 := by
        rw [List.getD_eq_getElem?_getD, List.getElem?_eq_getElem (by rw [H8.out]; omega)]
        exact HLT.out _ (List.getElem_mem _)
      have et : ((gs.take (k + 1)).map gS) = (gs.take k).map gS ++ [gS (gs.getD k 0)] := by
        rw [List.take_add_one, List.getD_eq_getElem?_getD, List.getElem?_eq_getElem (by rw [H8.out]; omega), List.map_append]; rfl
      have hTl : ((gs.take k).map gS).length ≤ 8 := by simp; omega
      have HE := Lib.hid et
      obtain ⟨x, ex⟩ : ∃ x, gs.getD k 0 = x := ⟨_, rfl⟩
      rw [ex] at hcell hx HE
      clear ex et HP
      obtain ⟨P, hP, hcut, hP14, hPz⟩ := ones_gS x hx
      have hDz := gS_size x hx
      have HPt := Lib.hid hP
      generalize (gs.take k).map gS = T at *
      generalize gS x = D at *
      clear hP
      have hkAi : (k : Int) < (A : Int) := by omega
      go_wp2_with fail
      refine (HRP.out x hx _).mono ?_
      rintro e w1 ⟨rfl, hb1⟩
      rw [HPt.out]
      have hown1 := own_below hown hb1
      have hbel1 := chain hbel hb1
      have hsz := hbel1.size
      clear hown hcell
      go_wp2_with (at_builtin; refine wpList_append_own _ rfl (.tmp 41) (.tmp 48) 37 rfl W.heap.size 9 i0 _ 1 16 Tryd.underlying37 hi0 hz0 hz1 hz2 rfl (by decide) _ _ _ rfl (hown1.alloc _) ⟨w1.heap.size, 0, none⟩ 1 1 [.string D] rfl rfl ?c1 ?c2 ?c3 ?c4 ?c5 ?_)
      try (case c1 => exact cell_one_new _ _ _)
      case c2 => first | rfl | (intro u hu; simp at hu; subst hu; rfl)
      case c3 => unfold maxLen; omega
      case c4 => omega
      case c5 => first | omega | (simp; omega)
      intro v' w2 hown' hgrow _
      have R := own_snoc hown' hgrow hown1 hbel1
      clear hown' hgrow hown1 hbel1 hbel
      go_wp2_with fail
      go_roundw
      case rel => exact ⟨k + 1, by omega, by go_num, Lib.hid (.inl ⟨by omega, rfl, by rw [HE.out]; exact R.1, R.2⟩)⟩
      case measure => simp [intOf]; omega
    · have hkAi : ¬ (k : Int) < (A : Int) := by omega
      by_cases hkK : k < K
      · obtain ⟨rfl, hAk, hbel, hrow⟩ := HP.out.two HA.out b0 (by omega) hkK
        have hgc := hAk.cells k (by omega)
        have hgl := hAk.live k (by omega)
        have HS := Lib.hid (hAk.set (k := k) (by omega) 0)
        rw [zeroed_set gs A k H8.out (by omega) (by omega)] at HS
        have HRw := Lib.hid (hrow.other (G := w.heap.size) (j := k) (by have := HW1.out; omega) (.int .u16 0))
        have hkKi : (k : Int) < (K : Int) := by omega
        generalize (zeroed gs A k).getD k 0 = o0 at hgc
        clear hAk hrow HP
        go_wp2_with fail
        go_roundw
        case rel => exact ⟨k + 1, by omega, by go_num, Lib.hid (.inr (.inl ⟨by omega, by omega, rfl, HS.out, hbel.setCell (p := ⟨w.heap.size, k, none⟩) (Nat.le_refl _) _, HRw.out⟩))⟩
        case measure => simp [intOf]; omega
      · obtain ⟨W2, hA2, hbW, hrow, hown, hbel⟩ := HP.out.three hAK (by omega)
        have hkKi : ¬ (k : Int) < (K : Int) := by omega
        by_cases hk8 : k < 8
        · have hcell := (hA2.below hbel).cells k hk8
          have hgk : (zeroed gs A K).getD k 0 = gs.getD k 0 := by
            have e1 := congrArg (fun l => l.getD (k - K) 0) (zeroed_drop gs A K H8.out (by omega) hK8)
            simp only [List.getD_eq_getElem?_getD, List.getElem?_drop, show K + (k - K) = k by omega] at e1 ⊢
            exact e1
          rw [hgk] at hcell
          have hx : gs.getD k 0 < 65536 := by
            rw [List.getD_eq_getElem?_getD, List.getElem?_eq_getElem (by rw [H8.out]; omega)]
            exact HLT.out _ (List.getElem_mem _)
          have et : (((gs.drop K).take (k + 1 - K)).map gS) = ((gs.drop K).take (k - K)).map gS ++ [gS (gs.getD k 0)] := by
            rw [show k + 1 - K = (k - K) + 1 by omega, List.take_add_one, List.getElem?_drop, show K + (k - K) = k by omega, List.getD_eq_getElem?_getD, List.getElem?_eq_getElem (by rw [H8.out]; omega), List.map_append]; rfl
          have hTl : (((gs.drop K).take (k - K)).map gS).length ≤ 8 := by simp; omega
          have HE := Lib.hid et
          have HA2 := Lib.hid hA2
          have HRw := Lib.hid hrow
          have HBW := Lib.hid hbW
          obtain ⟨x, ex⟩ : ∃ x, gs.getD k 0 = x := ⟨_, rfl⟩
          rw [ex] at hcell hx HE
          clear ex et HP hA2 hrow hbW hgk
          obtain ⟨P, hP, hcut, hP14, hPz⟩ := ones_gS x hx
          have hDz := gS_size x hx
          have HPt := Lib.hid hP
          generalize ((gs.drop K).take (k - K)).map gS = T at *
          generalize gS x = D at *
          clear hP
          go_wp2_with fail
          refine (HRP.out x hx _).mono ?_
          rintro e w1 ⟨rfl, hb1⟩
          rw [HPt.out]
          have hown1 := own_below hown hb1
          have hbel1 := chain hbel hb1
          have hsz := hbel1.size
          clear hown hcell
          go_wp2_with (at_builtin; refine wpList_append_own _ rfl (.tmp 28) (.tmp 35) 37 rfl W2.heap.size 9 i0 _ 1 16 Tryd.underlying37 hi0 hz0 hz1 hz2 rfl (by decide) _ _ _ rfl (hown1.alloc _) ⟨w1.heap.size, 0, none⟩ 1 1 [.string D] rfl rfl ?d1 ?d2 ?d3 ?d4 ?d5 ?_)
          try (case d1 => exact cell_one_new _ _ _)
          case d2 => first | rfl | (intro u hu; simp at hu; subst hu; rfl)
          case d3 => unfold maxLen; omega
          case d4 => omega
          case d5 => first | omega | (simp; omega)
          intro v' w2 hown' hgrow _
          have R := own_snoc hown' hgrow hown1 hbel1
          clear hown' hgrow hown1 hbel1 hbel
          go_wp2_with fail
          go_roundw
          case rel => exact ⟨k + 1, by omega, by go_num, Lib.hid (.inr (.inr ⟨by omega, W2, HA2.out, HBW.out, HRw.out, by rw [HE.out]; exact R.1, R.2⟩))⟩
          case measure => simp [intOf]; omega
        · obtain rfl : k = 8 := by omega
          obtain ⟨f0, f1, f2, f3, f4, f5, f6, f7, hfs⟩ := list8 (zeroed gs A K) (zeroed_len gs A K H8.out (by omega) hK8)
          have l1 : ∀ x ∈ gs.take A, x < 65536 := fun x hx => HLT.out x (List.mem_of_mem_take hx)
          have l2 : ∀ x ∈ gs.drop K, x < 65536 := fun x hx => HLT.out x (List.mem_of_mem_drop hx)
          have hd8 : (gs.drop K).take (8 - K) = gs.drop K := List.take_of_length_le (by rw [List.length_drop, H8.out]; exact Nat.le_refl _)
          rw [hd8] at hown
          have HJa := Lib.hid ((hrow.below hbel).join l1 (by rw [List.length_take, H8.out]; omega))
          have HJb := Lib.hid ((RowV.of_own hown).join l2 (by rw [List.length_drop, H8.out]; omega))
          have b1 := chain hbW hbel
          have hAe := hA2.below hbel
          rw [hfs] at hAe
          have za := rowS_small (gs.take A) l1
          have zb := rowS_small (gs.drop K) l2
          have na : (gs.take A).length ≤ 8 := by rw [List.length_take, H8.out]; omega
          have nb : (gs.drop K).length ≤ 8 := by rw [List.length_drop, H8.out]; omega
          have ea := rowS_list (gs.take A)
          have eb := rowS_list (gs.drop K)
          have P1 : Hid (parseB (ofL (rowL (gs.take A) ++ 58 :: 58 :: rowL (gs.drop K))) = some [f0, f1, f2, f3, f4, f5, f6, f7]) := Lib.hid (by
            have := gaps_ok (zeroed gs A K) A K (zeroed_len gs A K H8.out (by omega) hK8) (zeroed_lt gs A K HLT.out) hAK hK8 (zeroed_zero gs A K H8.out hK8)
            rwa [zeroed_take gs A K H8.out (by omega), zeroed_drop gs A K H8.out (by omega) hK8, hfs] at this)
          have P2 := Lib.hid (gaps_twice (gs.take A) (gs.drop K) l1)
          have P3 := Lib.hid (gaps_three (gs.take A) (gs.drop K) l1)
          have HPR : Hid (parseRet (some [f0, f1, f2, f3, f4, f5, f6, f7]) = .tuple #[.agg #[.int .u16 (f0 : Int), .int .u16 (f1 : Int), .int .u16 (f2 : Int), .int .u16 (f3 : Int), .int .u16 (f4 : Int), .int .u16 (f5 : Int), .int .u16 (f6 : Int), .int .u16 (f7 : Int)], .bool true]) := Lib.hid rfl
          have HPN : Hid (parseRet none = .tuple #[.agg #[.int .u16 0, .int .u16 0, .int .u16 0, .int .u16 0, .int .u16 0, .int .u16 0, .int .u16 0, .int .u16 0], .bool false]) := Lib.hid rfl
          have HAe := Lib.hid hAe
          have HEa := Lib.hid ea
          have HEb := Lib.hid eb
          have q8 := eq8_true f0 f1 f2 f3 f4 f5 f6 f7
          obtain ⟨Sa, hSa⟩ : ∃ Sa, rowS (gs.take A) = Sa := ⟨_, rfl⟩
          obtain ⟨Sb, hSb⟩ : ∃ Sb, rowS (gs.drop K) = Sb := ⟨_, rfl⟩
          rw [hSa] at za HEa HJa
          rw [hSb] at zb HEb HJb
          have za2 : Sa.size ≤ 40 := by omega
          have zb2 : Sb.size ≤ 40 := by omega
          clear hAe ea eb hA2 hrow hown hbW hbel HP hfs l1 l2 hd8 hSa hSb za zb na nb
          go_wp2_with fail
          refine HJa.out.mono ?_
          rintro e w1 ⟨rfl, rfl⟩
          go_wp2_with fail
          refine HJb.out.mono ?_
          rintro e w1 ⟨rfl, rfl⟩
          have hSd : (Sa ++ { data := #[58, 58] } ++ Sb).data.toList = rowL (gs.take A) ++ 58 :: 58 :: rowL (gs.drop K) := by
            rw [data_append, data_append, HEa.out, HEb.out]
            simp
          have hSz : (Sa ++ { data := #[58, 58] } ++ Sb).size ≤ 100 := by
            rw [ByteArray.size_append, ByteArray.size_append]
            show Sa.size + 2 + Sb.size ≤ 100
            omega
          have HSd := Lib.hid hSd
          have HSz := Lib.hid hSz
          clear hSd hSz
          go_wp2_with fail
          generalize Sa ++ { data := #[58, 58] } ++ Sb = SS at *
          have hSz := HSz.out
          refine (sixParse_list _ _ _ _ HSd.out (by omega) P1.out (HT.out.below b1)).mono ?_
          rintro e w3 ⟨rfl, hb3⟩
          rw [HPR.out]
          have b3 := chain b1 hb3
          have hG3 := (HAe.out.below hb3).below ((Below.refl _ _).alloc (Nat.le_refl _) (.cells #[.int .u16 (f0 : Int), .int .u16 (f1 : Int), .int .u16 (f2 : Int), .int .u16 (f3 : Int), .int .u16 (f4 : Int), .int .u16 (f5 : Int), .int .u16 (f6 : Int), .int .u16 (f7 : Int)] 24))
          have hH3 := Arr8.new w3 24 f0 f1 f2 f3 f4 f5 f6 f7
          have b4 := b3.alloc b3.size (.cells #[.int .u16 (f0 : Int), .int .u16 (f1 : Int), .int .u16 (f2 : Int), .int .u16 (f3 : Int), .int .u16 (f4 : Int), .int .u16 (f5 : Int), .int .u16 (f6 : Int), .int .u16 (f7 : Int)] 24)
          have HG3 := Lib.hid hG3
          have HH3 := Lib.hid hH3
          clear hG3 hH3 b3
          go_wp2_with fail
          generalize w3.alloc (.cells #[.int .u16 (f0 : Int), .int .u16 (f1 : Int), .int .u16 (f2 : Int), .int .u16 (f3 : Int), .int .u16 (f4 : Int), .int .u16 (f5 : Int), .int .u16 (f6 : Int), .int .u16 (f7 : Int)] 24) = W3 at *
          refine (sixParse_list _ _ none _ ?_ ?_ P2.out (HT.out.below b4)).mono ?_
          · rw [data_append, HSd.out]; try rfl
          · rw [ByteArray.size_append]; show SS.size + 2 ≤ 100000; omega
          rintro e w5 ⟨rfl, hb5⟩
          rw [HPN.out]
          have b5 := (chain b4 hb5).alloc (chain b4 hb5).size (.cells #[.int .u16 0, .int .u16 0, .int .u16 0, .int .u16 0, .int .u16 0, .int .u16 0, .int .u16 0, .int .u16 0] 24)
          have HG5 := Lib.hid ((HG3.out.below hb5).below ((Below.refl _ _).alloc (Nat.le_refl _) (.cells #[.int .u16 0, .int .u16 0, .int .u16 0, .int .u16 0, .int .u16 0, .int .u16 0, .int .u16 0, .int .u16 0] 24)))
          have HH5 := Lib.hid ((HH3.out.below hb5).below ((Below.refl _ _).alloc (Nat.le_refl _) (.cells #[.int .u16 0, .int .u16 0, .int .u16 0, .int .u16 0, .int .u16 0, .int .u16 0, .int .u16 0, .int .u16 0] 24)))
          go_wp2_with fail
          generalize w5.alloc (.cells #[.int .u16 0, .int .u16 0, .int .u16 0, .int .u16 0, .int .u16 0, .int .u16 0, .int .u16 0, .int .u16 0] 24) = W5 at *
          refine (sixParse_list _ _ none _ ?_ ?_ P3.out (HT.out.below b5)).mono ?_
          · rw [data_append, HSd.out]; try rfl
          · rw [ByteArray.size_append]; show 1 + SS.size ≤ 100000; omega
          rintro e w7 ⟨rfl, hb7⟩
          rw [HPN.out]
          have b7 := (chain b5 hb7).alloc (chain b5 hb7).size (.cells #[.int .u16 0, .int .u16 0, .int .u16 0, .int .u16 0, .int .u16 0, .int .u16 0, .int .u16 0, .int .u16 0] 24)
          have hG7 := (HG5.out.below hb7).below ((Below.refl _ _).alloc (Nat.le_refl _) (.cells #[.int .u16 0, .int .u16 0, .int .u16 0, .int .u16 0, .int .u16 0, .int .u16 0, .int .u16 0, .int .u16 0] 24))
          have hH7 := (HH5.out.below hb7).below ((Below.refl _ _).alloc (Nat.le_refl _) (.cells #[.int .u16 0, .int .u16 0, .int .u16 0, .int .u16 0, .int .u16 0, .int .u16 0, .int .u16 0, .int .u16 0] 24))
          obtain ⟨c0, c1, c2, c3, c4, c5, c6, c7⟩ := hG7.all
          obtain ⟨d0, d1, d2, d3, d4', d5, d6, d7⟩ := hH7.all
          clear hG7 hH7
          go_wp2_with fail
          refine (lives3_any _ (HT.out.below b7)).mono ?_
          rintro e w8 ⟨rfl, hb8⟩
          go_wp2_with fail
          go_ret
          exact ⟨rfl, chain b7 hb8⟩

theorem walk (z0 : List Int) (a1 a2 : Int) (l0 : z0.length = 8) (w0 : ∀ z ∈ z0, (Lit.int .u16 z).wf = true) (w1 : (Lit.int .i64 a1).wf = true) (w2 : (Lit.int .i64 a2).wf = true) (w : World) (htab : Tabs w) :
    Calls Tryd.prog 7 #[.agg (z0.map (Value.int .u16)).toArray, .int .i64 a1, .int .i64 a2] w fun e w' => e = .returned (.bool true) ∧ Below w.heap.size w w' := by
  obtain ⟨gs, h1, h2, h3⟩ := groups_of z0 l0 w0
  rw [h3]
  exact walk8 gs a1 a2 h1 h2 w1 w2 w htab

theorem door_met (os : Os) (args : Array Value) : laidMetH Tryd.prog Rows.sixGapsRow.laid ((World.doorLaid Tryd.prog 400 os).forCall (fun _ _ => 0) ⟨#[], args, []⟩).memory :=
  laidMetH_of_parts3 (fuel := 8) (laidMet_of_run' 8 (by kernel_rfl) (by kernel_rfl)) (by kernel_rfl) (by kernel_rfl)

set_option maxRecDepth 100000 in
theorem lifted (os : Os) (started : os.Started) (H : Type) (enc : TypeId × Value → H) :
    ReturnsInHanded {} Tryd.checked os 7 .any (fun w args => (Rows.sixGapsSpec.pre enc Tryd.prog Tryd.f7 [] false w args ∧ laidMetH Tryd.prog Rows.sixGapsRow.laid w) ∧ sizedMet enc Tryd.prog Tryd.f7 (OpenSpec.ofChange Rows.sixGapsSpec) false w args)
      (Rows.sixGapsSpec.post enc Tryd.prog Tryd.f7 false true false false) := by
  refine handed_shaped (C := Tryd.checked) (X := fun w _ => laidMetH Tryd.prog Rows.sixGapsRow.laid w) (fun _ _ _ hh h => h.of_heap hh) own started (by kernel_rfl) Tryd.func7
    (ChangeSpec.witness_shaped (enc := enc) (C := Tryd.checked) (os := os) (X := fun w _ => laidMetH Tryd.prog Rows.sixGapsRow.laid w) false (World.doorLaid Tryd.prog 400 os) #[.agg #[.int .u16 0, .int .u16 0, .int .u16 0, .int .u16 0, .int .u16 0, .int .u16 0, .int .u16 0, .int .u16 0], .int .i64 0, .int .i64 0] 8 rfl (World.shaped_of_RefB (by kernel_rfl) (by kernel_rfl)) (by kernel_rfl) (by kernel_rfl) (by kernel_rfl) (door_met os _)) ?_
  intro W base args ds gs before hval0 hW hL hsh
  have hval : ∀ (j : Nat) t v, Tryd.f7.params[j]? = some t → args[j]? = some v → Value.okWide Tryd.prog W .any base t v := hval0
  have hW' := hW
  obtain ⟨p, q, hA0, hV, rfl, hfz, hnd⟩ := hW
  have hA : DataW.TrodAll enc Tryd.prog W 0 (fun _ => true) true Tryd.f7.params.toList args.toList ds p := hA0
  rw [Tryd.params7] at hA hval
  obtain ⟨v0, vs0, d0, ds0, p0, q0, hargs, rfl, rfl, h0, r0⟩ := trodAll_cons hA
  obtain ⟨v1, vs1, d1, ds1, p1, q1, rfl, rfl, rfl, h1, r1⟩ := trodAll_cons r0
  obtain ⟨v2, vs2, d2, ds2, p2, q2, rfl, rfl, rfl, h2, r2⟩ := trodAll_cons r1
  obtain ⟨rfl, rfl, rfl⟩ := trodAll_nil r2
  obtain rfl : args = #[v0, v1, v2] := by cases args; simp_all
  obtain ⟨rfl, rfl⟩ := trodVars_none hV
  have k0 := h0
  have lt0 : ∀ x ∈ p0, x.block < W.heap.size := by obtain ⟨m, hm⟩ := k0; exact DataW.trod_lt m _ _ _ hm
  obtain ⟨z0, rfl, l0, w0⟩ := open_int_array Tryd.underlying24 Tryd.underlying23 (by kernel_rfl) (by kernel_rfl) (hval 0 24 v0 rfl rfl) h0
  obtain ⟨a1, rfl, rfl, rfl, w1⟩ := open_int Tryd.underlying3 (hval 1 3 v1 rfl rfl) h1
  obtain ⟨a2, rfl, rfl, rfl, w2⟩ := open_int Tryd.underlying3 (hval 2 3 v2 rfl rfl) h2
  clear hA0 hval0
  refine (walk z0 a1 a2 l0 w0 w1 w2 W (tabs_of Rows.sixGapsRow.laid rfl hL hsh)).mono fun e W' ⟨he, bel⟩ => ?_
  subst he
  exact ⟨_, rfl, _, _, _, [], _, [], hW', trodAll_mk1 (shut_bool Tryd.underlying4 _), (trodAll_cons_mk (Below.trod laidOut (by kernel_rfl) (of_decide_eq_true (by kernel_rfl)) k0 bel lt0) (trodAll_cons_mk (shut_int Tryd.underlying3 w1) (trodAll_cons_mk (shut_int Tryd.underlying3 w2) trodAll_mk0))), rfl, bel.frame _, fun h => by cases h⟩

theorem over : Rows.SixGapsSaid :=
  OpenClaim.holds_of_wide 7 Tryd.f7 rfl rfl rfl rfl rfl rfl rfl ⟨rfl, rfl, rfl, rfl, rfl⟩ rfl rfl rfl rfl rfl (by kernel_rfl) Tryd.func7 (by kernel_rfl)
    (of_decide_eq_true (by kernel_rfl)) (by unfold Func.isWrapper; first | (rw [if_pos (by decide +kernel)]; kernel_rfl) | (rw [if_neg (by decide +kernel)]; exact ⟨rfl, rfl⟩))
    (fun os started H enc _ => lifted os started H enc)


theorem proved : Rows.SixGapsCardSaid :=
  Claim7.holds_tied_plain_at .later [] [.data, .data, .data] true _ false
    over (fun _ h => by cases h) (by kernel_rfl) (fun _ h => by cases h) sixGaps_row_tie rfl ⟨rfl, rfl⟩ (by kernel_rfl) rfl
    (fun f fn hf hfn => by
      obtain rfl : f = 7 := Option.some.inj ((show Tryd.prog.funcNamed "abatis/abatislaw03.SixGaps" = some 7 by kernel_rfl).symm.trans hf) |>.symm
      obtain rfl : fn = Tryd.f7 := (Option.some.inj (Tryd.func7.symm.trans hfn)).symm
      exact ⟨by kernel_rfl, fun j t ht => by
        rw [Tryd.params7] at ht
        have hm : t ∈ [24, 3, 3] := by simpa using Array.mem_of_getElem? ht
        have hall : ([24, 3, 3].all fun u => !Tryd.prog.wantsStandIn u) = true := by kernel_rfl
        exact (show Tryd.prog.wantsStandIn t = false by simpa using List.all_eq_true.1 hall t hm)⟩)
    (by kernel_rfl)
#print axioms proved
end Go.Proofs.YtkdinhgflkfbkaaDoor.sixGaps

/- The contract of six.inPlaces: the texts of the eight groups. -/
import Derived.Test.YtkdinhgflkfbkaaDoorSixSides
import Derived.Laws.CopyOwn
namespace Go.Proofs.YtkdinhgflkfbkaaDoor
open Go.RowKit
set_option linter.unusedVariables false

/-- An array of eight texts lies at B, whole. -/
structure ArrS (w : World) (B : Nat) (l : List ByteArray) : Prop where
  len : l.length = 8
  row : w.heap[B]? = some (.cells (l.map Value.string).toArray 44 (0, 0))
theorem ArrS.lt {w : World} {B : Nat} {l : List ByteArray} (h : ArrS w B l) : B < w.heap.size := (Array.getElem?_eq_some_iff.1 h.row).1
theorem ArrS.cell {w : World} {B : Nat} {l : List ByteArray} (h : ArrS w B l) (j : Nat) (hj : j < 8) : w.cell? ⟨B, j, none⟩ = some (.string (l.getD j ⟨#[]⟩)) := by
  have hl := h.len
  simp [World.cell?, h.row, List.getD_eq_getElem?_getD, show j < l.length by omega]
theorem ArrS.live {w : World} {B : Nat} {l : List ByteArray} (h : ArrS w B l) (j : Nat) : w.frozen? ⟨B, j, none⟩ = false := by
  simp [World.frozen?, h.row]
theorem ArrS.below {w w' : World} {B : Nat} {l : List ByteArray} (h : ArrS w B l) (hb : Below w.heap.size w w') : ArrS w' B l :=
  ⟨h.len, by rw [hb.block B h.lt]; exact h.row⟩
theorem ArrS.set {w : World} {B i : Nat} {l : List ByteArray} (h : ArrS w B l) (hi : i < 8) (v : ByteArray) : ArrS (w.setCell ⟨B, i, none⟩ (.string v)) B (l.set i v) := by
  refine ⟨by simp [h.len], ?_⟩
  rw [setCell_eq_setRow w B i _ 44 (0, 0) (.string v) h.row]
  have := setRow_heap w B _ ((l.map Value.string).toArray.setIfInBounds i (.string v)) 44 (0, 0) h.row
  rw [this]
  congr 2
  simp [List.map_set]
theorem ArrS.zero (w : World) : ArrS (w.alloc (.cells #[.string { data := #[] }, .string { data := #[] }, .string { data := #[] }, .string { data := #[] }, .string { data := #[] }, .string { data := #[] }, .string { data := #[] }, .string { data := #[] }] 44)) w.heap.size (List.replicate 8 ⟨#[]⟩) := by
  refine ⟨rfl, ?_⟩
  show (w.heap.push _)[w.heap.size]? = _
  rw [Array.getElem?_push_size]
  rfl

theorem cut_bounds (s : ByteArray) : (Lib.cut s.data.toList [58, 58]).1.length ≤ s.size ∧ (Lib.cut s.data.toList [58, 58]).2.1.length ≤ s.size := by
  have hl : s.data.toList.length = s.size := by simp
  unfold Lib.cut
  split
  · simp
    omega
  · simp

theorem below_drewN (w : World) (q : Nat) : Below w.heap.size w (w.drewN q) := ⟨rfl, rfl, rfl, Nat.le_refl _, fun _ _ => rfl⟩

/-- Eight texts, stored one by one. -/
def storeS (W : World) (R : Nat) (y0 y1 y2 y3 y4 y5 y6 y7 : ByteArray) : World := ((((((((W.setCell ⟨R, 0, none⟩ (.string y0)).setCell ⟨R, 1, none⟩ (.string y1)).setCell ⟨R, 2, none⟩ (.string y2)).setCell ⟨R, 3, none⟩ (.string y3)).setCell ⟨R, 4, none⟩ (.string y4)).setCell ⟨R, 5, none⟩ (.string y5)).setCell ⟨R, 6, none⟩ (.string y6)).setCell ⟨R, 7, none⟩ (.string y7))
theorem storeS_arr {W : World} {R : Nat} {l : List ByteArray} (y0 y1 y2 y3 y4 y5 y6 y7 : ByteArray) (h : ArrS W R l) : ArrS (storeS W R y0 y1 y2 y3 y4 y5 y6 y7) R [y0, y1, y2, y3, y4, y5, y6, y7] := by
  obtain ⟨a, b, c, d, e, f, g, i, rfl⟩ := list8 l h.len
  exact ((((((((h.set (i := 0) (by decide) y0).set (i := 1) (by decide) y1).set (i := 2) (by decide) y2).set (i := 3) (by decide) y3).set (i := 4) (by decide) y4).set (i := 5) (by decide) y5).set (i := 6) (by decide) y6).set (i := 7) (by decide) y7)
theorem storeS_below {w W : World} {R : Nat} (y0 y1 y2 y3 y4 y5 y6 y7 : ByteArray) (h : Below w.heap.size w W) (hR : w.heap.size ≤ R) : Below w.heap.size w (storeS W R y0 y1 y2 y3 y4 y5 y6 y7) :=
  ((((((((h.setCell (p := ⟨R, 0, none⟩) hR _).setCell (p := ⟨R, 1, none⟩) hR _).setCell (p := ⟨R, 2, none⟩) hR _).setCell (p := ⟨R, 3, none⟩) hR _).setCell (p := ⟨R, 4, none⟩) hR _).setCell (p := ⟨R, 5, none⟩) hR _).setCell (p := ⟨R, 6, none⟩) hR _).setCell (p := ⟨R, 7, none⟩) hR _)
theorem ArrS.all {w : World} {B : Nat} {y0 y1 y2 y3 y4 y5 y6 y7 : ByteArray} (h : ArrS w B [y0, y1, y2, y3, y4, y5, y6, y7]) :
    w.cell? ⟨B, 0, none⟩ = some (.string y0) ∧ w.cell? ⟨B, 1, none⟩ = some (.string y1) ∧ w.cell? ⟨B, 2, none⟩ = some (.string y2) ∧ w.cell? ⟨B, 3, none⟩ = some (.string y3) ∧ w.cell? ⟨B, 4, none⟩ = some (.string y4) ∧ w.cell? ⟨B, 5, none⟩ = some (.string y5) ∧ w.cell? ⟨B, 6, none⟩ = some (.string y6) ∧ w.cell? ⟨B, 7, none⟩ = some (.string y7) :=
  ⟨h.cell 0 (by decide), h.cell 1 (by decide), h.cell 2 (by decide), h.cell 3 (by decide), h.cell 4 (by decide), h.cell 5 (by decide), h.cell 6 (by decide), h.cell 7 (by decide)⟩
theorem ArrS.lives {w : World} {B : Nat} {l : List ByteArray} (h : ArrS w B l) :
    w.frozen? ⟨B, 0, none⟩ = false ∧ w.frozen? ⟨B, 1, none⟩ = false ∧ w.frozen? ⟨B, 2, none⟩ = false ∧ w.frozen? ⟨B, 3, none⟩ = false ∧ w.frozen? ⟨B, 4, none⟩ = false ∧ w.frozen? ⟨B, 5, none⟩ = false ∧ w.frozen? ⟨B, 6, none⟩ = false ∧ w.frozen? ⟨B, 7, none⟩ = false :=
  ⟨h.live 0, h.live 1, h.live 2, h.live 3, h.live 4, h.live 5, h.live 6, h.live 7⟩
/-- Texts ahead, noughts, room. -/
theorem set_zero (F : List ByteArray) (nf k : Nat) (e : ByteArray) (h : F.length = nf) (hk : nf + k < 8) : (F ++ List.replicate k zeroS ++ List.replicate (8 - nf - k) e).set (nf + k) zeroS = F ++ List.replicate (k + 1) zeroS ++ List.replicate (8 - nf - (k + 1)) e := by
  rw [List.set_append_right _ _ (by simp; omega), List.length_append, List.length_replicate, h, Nat.sub_self, show 8 - nf - k = (8 - nf - (k + 1)) + 1 by omega, List.replicate_succ, List.set_cons_zero, List.replicate_succ']
  simp
theorem splice_front (F : List ByteArray) (nf : Nat) (h : F.length = nf) (h8 : nf ≤ 8) : splice ((List.replicate 8 (⟨#[]⟩ : ByteArray)).map Value.string) 0 (F.map Value.string) = (F ++ List.replicate 0 zeroS ++ List.replicate (8 - nf - 0) (⟨#[]⟩ : ByteArray)).map Value.string := by
  unfold splice
  rw [List.take_zero, List.nil_append, List.length_map, h, ← List.map_drop, List.drop_replicate, ← List.map_append, Nat.zero_add, Nat.sub_zero, List.replicate_zero, List.append_nil]
theorem splice_back (F G : List ByteArray) (nf ng z : Nat) (h : F.length = nf) (hg : G.length = ng) (h8 : nf + z + ng = 8) : splice ((F ++ List.replicate z zeroS ++ List.replicate (8 - nf - z) (⟨#[]⟩ : ByteArray)).map Value.string) (8 - ng) (G.map Value.string) = (F ++ List.replicate z zeroS ++ G).map Value.string := by
  unfold splice
  have e : ((F ++ List.replicate z zeroS ++ List.replicate (8 - nf - z) (⟨#[]⟩ : ByteArray)).map Value.string) = (F ++ List.replicate z zeroS).map Value.string ++ (List.replicate (8 - nf - z) (⟨#[]⟩ : ByteArray)).map Value.string := by rw [List.map_append]
  have hl : ((F ++ List.replicate z zeroS).map Value.string).length = 8 - ng := by simp [h]; omega
  rw [e, List.take_append_of_le_length (by omega), List.take_of_length_le (by omega), List.drop_of_length_le (by simp [h, hg]; omega), List.append_nil, ← List.map_append]

def arrS (l : List ByteArray) : Value := .agg (l.map Value.string).toArray
def placesRet (o : Option (List ByteArray)) : Value := .tuple #[arrS (o.getD (List.replicate 8 ⟨#[]⟩)), .bool o.isSome]

set_option maxRecDepth 100000 in
set_option maxHeartbeats 2000000 in
theorem inPlaces_any (s : ByteArray) (w : World) (hs : s.size ≤ 900000) (ht : Tabs w) :
    Calls Tryd.prog 23 #[.string s] w fun e w' => e = .returned (placesRet (placesL s.data.toList)) ∧ Below w.heap.size w w' := by
  have hz := ArrS.zero w
  have b0 : Below w.heap.size w (w.alloc (.cells #[.string { data := #[] }, .string { data := #[] }, .string { data := #[] }, .string { data := #[] }, .string { data := #[] }, .string { data := #[] }, .string { data := #[] }, .string { data := #[] }] 44)) := (Below.refl _ _).alloc (Nat.le_refl _) _
  have ht0 := ht.below b0
  clear ht
  have hcb := cut_bounds s
  have hC := fun m w hm => Tryd.strings_Cut s { data := #[58, 58] } m w (by omega) hm
  rw [show ({ data := #[58, 58] } : ByteArray).data.toList = [58, 58] from rfl] at hC
  obtain ⟨a, b, f, eC⟩ : ∃ a b f, Lib.cut s.data.toList [58, 58] = (a, b, f) := ⟨_, _, _, rfl⟩
  obtain ⟨R, hR⟩ : ∃ R, placesL s.data.toList = R := ⟨_, rfl⟩
  have hR2 := hR
  unfold placesL at hR2
  rw [eC] at hC hcb hR2
  rw [hR]
  simp only at hR2 hC hcb
  obtain ⟨ha, hb⟩ := hcb
  have hF := fun w => sidePieces_any ⟨a.toArray⟩ w (by show a.toArray.size ≤ _; simp; omega)
  have hG := fun w => sidePieces_any ⟨b.toArray⟩ w (by show b.toArray.size ≤ _; simp; omega)
  have lF := sideL_len ⟨a.toArray⟩
  have lG := sideL_len ⟨b.toArray⟩
  rw [show (⟨a.toArray⟩ : ByteArray).data.toList = a by simp] at hF lF
  rw [show (⟨b.toArray⟩ : ByteArray).data.toList = b by simp] at hG lG
  rw [show (⟨a.toArray⟩ : ByteArray).size = a.length by show a.toArray.size = _; simp] at lF
  rw [show (⟨b.toArray⟩ : ByteArray).size = b.length by show b.toArray.size = _; simp] at lG
  generalize sideL a = F at *
  generalize sideL b = G at *
  generalize (⟨a.toArray⟩ : ByteArray) = sa at *
  generalize (⟨b.toArray⟩ : ByteArray) = sb at *
  obtain ⟨nf, hnf⟩ : ∃ nf, F.length = nf := ⟨_, rfl⟩
  obtain ⟨ng, hng⟩ : ∃ ng, G.length = ng := ⟨_, rfl⟩
  rw [hnf] at hF lF hR2
  rw [hng] at hG lG hR2
  have hfm : nf ≤ 900001 := by omega
  have hgm : ng ≤ 900001 := by omega
  have HF := Lib.hid hF
  have HG := Lib.hid hG
  have HC := Lib.hid hC
  have HR := Lib.hid hR2
  have HNF := Lib.hid hnf
  have HNG := Lib.hid hng
  clear hF hG hC hR hR2 hnf hng lF lG ha hb eC
  go_enter Tryd.func23, Tryd.ntmps23
  go_wp2_with fail
  generalize w.alloc (.cells #[.string { data := #[] }, .string { data := #[] }, .string { data := #[] }, .string { data := #[] }, .string { data := #[] }, .string { data := #[] }, .string { data := #[] }, .string { data := #[] }] 44) = W at *
  have HZ := Lib.hid hz
  have HT := Lib.hid ht0
  clear hz ht0
  obtain ⟨m, hm⟩ := HT.out.max
  refine (HC.out m _ hm).mono ?_
  rintro e w1 ⟨rfl, q, rfl⟩
  clear hm
  go_wp2_with fail
  refine (HF.out _).mono ?_
  rintro e w2 ⟨p1, c1, rfl, r1, hb2⟩
  have hc1 := r1.cap
  have hc1m := r1.capm
  have R1 := Lib.hid r1
  clear r1
  go_wp2_with fail
  refine (HG.out _).mono ?_
  rintro e w3 ⟨p2, c2, rfl, r2, hb3⟩
  have hc2 := r2.cap
  have hc2m := r2.capm
  unfold maxLen at hc1m hc2m
  have R2 := Lib.hid r2
  have R1b := Lib.hid (R1.out.below hb3)
  have hbq : Below W.heap.size W (W.drewN q) := below_drewN W q
  have b1 : Below w.heap.size w w3 := chain b0 (chain hbq (chain hb2 hb3))
  have HZ3 := Lib.hid (((HZ.out.below hbq).below hb2).below hb3)
  clear r2 R1 HZ
  obtain ⟨Y, eY⟩ : ∃ Y : Int, (8 : Int) - (nf : Int) = Y := ⟨_, rfl⟩
  obtain ⟨Z, eZ⟩ : ∃ Z : Int, Y - (ng : Int) = Z := ⟨_, rfl⟩
  have wY : IntKind.i64.wrap Y = Y := by rw [IntKind.wrap_i64]; omega
  have wZ : IntKind.i64.wrap Z = Z := by rw [IntKind.wrap_i64]; omega
  by_cases hbad : 8 < nf + ng ∨ f ≠ decide (nf + ng < 8)
  · have HD : Hid (R = none) := Lib.hid (by rw [← HR.out, if_pos hbad])
    have hfalse : ∀ (P : Prop), (Z < 0 → P) → (f = true → ¬ Z < 0 → ¬ 0 < Z → P) → (f = false → ¬ Z < 0 → 0 < Z → P) → P := by
      intro P h1 h2 h3
      by_cases hz : Z < 0
      · exact h1 hz
      · rcases hbad with hbad | hbad
        · omega
        · by_cases h8 : nf + ng < 8
          · rw [decide_eq_true h8] at hbad
            exact h3 (by cases f <;> simp_all) hz (by omega)
          · rw [decide_eq_false h8] at hbad
            exact h2 (by cases f <;> simp_all) hz (by omega)
    clear hbad
    obtain ⟨r0, r1, r2, r3, r4, r5, r6, r7⟩ := HZ3.out.all
    obtain ⟨f0, f1, f2, f3, f4, f5, f6, f7⟩ := HZ3.out.lives
    have E1 := Lib.hid (storeS_arr ⟨#[]⟩ ⟨#[]⟩ ⟨#[]⟩ ⟨#[]⟩ ⟨#[]⟩ ⟨#[]⟩ ⟨#[]⟩ ⟨#[]⟩ HZ3.out)
    have E2 := Lib.hid (storeS_below ⟨#[]⟩ ⟨#[]⟩ ⟨#[]⟩ ⟨#[]⟩ ⟨#[]⟩ ⟨#[]⟩ ⟨#[]⟩ ⟨#[]⟩ b1 (Nat.le_refl w.heap.size))
    refine hfalse _ (fun hz => ?_) (fun hf hz hz2 => ?_) (fun hf hz hz2 => ?_)
    rotate_left
    · have dz : decide (Z < 0) = false := decide_eq_false hz
      have dp : decide (0 < Z) = false := decide_eq_false hz2
      clear hfalse hz hz2
      subst hf
      go_wp2_with fail
      change bodyPost _ _ _ _ _ (storeS w3 w.heap.size ⟨#[]⟩ ⟨#[]⟩ ⟨#[]⟩ ⟨#[]⟩ ⟨#[]⟩ ⟨#[]⟩ ⟨#[]⟩ ⟨#[]⟩)
      generalize storeS w3 w.heap.size ⟨#[]⟩ ⟨#[]⟩ ⟨#[]⟩ ⟨#[]⟩ ⟨#[]⟩ ⟨#[]⟩ ⟨#[]⟩ ⟨#[]⟩ = W at *
      clear r0 r1 r2 r3 r4 r5 r6 r7 f0 f1 f2 f3 f4 f5 f6 f7
      obtain ⟨r0, r1, r2, r3, r4, r5, r6, r7⟩ := E1.out.all
      refine bodyPost_ret (v := placesRet none) (by simp [results, Tryd.results23, go_sem, r0, r1, r2, r3, r4, r5, r6, r7, placesRet, arrS, List.replicate]) rfl ⟨by rw [HD.out], E2.out⟩
    · have dz : decide (Z < 0) = false := decide_eq_false hz
      have dp : decide (0 < Z) = true := decide_eq_true hz2
      clear hfalse hz hz2
      subst hf
      go_wp2_with fail
      change bodyPost _ _ _ _ _ (storeS w3 w.heap.size ⟨#[]⟩ ⟨#[]⟩ ⟨#[]⟩ ⟨#[]⟩ ⟨#[]⟩ ⟨#[]⟩ ⟨#[]⟩ ⟨#[]⟩)
      generalize storeS w3 w.heap.size ⟨#[]⟩ ⟨#[]⟩ ⟨#[]⟩ ⟨#[]⟩ ⟨#[]⟩ ⟨#[]⟩ ⟨#[]⟩ ⟨#[]⟩ = W at *
      clear r0 r1 r2 r3 r4 r5 r6 r7 f0 f1 f2 f3 f4 f5 f6 f7
      obtain ⟨r0, r1, r2, r3, r4, r5, r6, r7⟩ := E1.out.all
      refine bodyPost_ret (v := placesRet none) (by simp [results, Tryd.results23, go_sem, r0, r1, r2, r3, r4, r5, r6, r7, placesRet, arrS, List.replicate]) rfl ⟨by rw [HD.out], E2.out⟩
    · have dz : decide (Z < 0) = true := decide_eq_true hz
      clear hfalse hz
      go_wp2_with fail
      change bodyPost _ _ _ _ _ (storeS w3 w.heap.size ⟨#[]⟩ ⟨#[]⟩ ⟨#[]⟩ ⟨#[]⟩ ⟨#[]⟩ ⟨#[]⟩ ⟨#[]⟩ ⟨#[]⟩)
      generalize storeS w3 w.heap.size ⟨#[]⟩ ⟨#[]⟩ ⟨#[]⟩ ⟨#[]⟩ ⟨#[]⟩ ⟨#[]⟩ ⟨#[]⟩ ⟨#[]⟩ = W at *
      clear r0 r1 r2 r3 r4 r5 r6 r7 f0 f1 f2 f3 f4 f5 f6 f7
      obtain ⟨r0, r1, r2, r3, r4, r5, r6, r7⟩ := E1.out.all
      refine bodyPost_ret (v := placesRet none) (by simp [results, Tryd.results23, go_sem, r0, r1, r2, r3, r4, r5, r6, r7, placesRet, arrS, List.replicate]) rfl ⟨by rw [HD.out], E2.out⟩
  · have hle : nf + ng ≤ 8 := by omega
    have hfd : f = decide (nf + ng < 8) := by
      by_cases h : f = decide (nf + ng < 8)
      · exact h
      · exact absurd (.inr h) hbad
    have HD : Hid (R = some (F ++ List.replicate (8 - nf - ng) zeroS ++ G)) := Lib.hid (by rw [← HR.out, if_neg hbad])
    obtain ⟨z, hz⟩ : ∃ z : Nat, 8 - nf - ng = z := ⟨_, rfl⟩
    rw [hz] at HD
    obtain rfl : Z = (z : Int) := by omega
    have dz : decide ((z : Int) < 0) = false := decide_eq_false (by omega)
    have dp : decide ((0 : Int) < (z : Int)) = f := by rw [hfd, decide_eq_decide]; omega
    have dpn : decide (0 < z) = f := by rw [hfd, decide_eq_decide]; omega
    have hsum : nf + z + ng = 8 := by omega
    clear hbad hfd HR hz
    obtain ⟨X1, hX1⟩ : ∃ X1, F.map Value.string = X1 := ⟨_, rfl⟩
    obtain ⟨X2, hX2⟩ : ∃ X2, G.map Value.string = X2 := ⟨_, rfl⟩
    obtain ⟨C1, hC1⟩ : ∃ C1, (List.replicate 8 (⟨#[]⟩ : ByteArray)).map Value.string = C1 := ⟨_, rfl⟩
    have lX1 : X1.length = nf := by rw [← hX1, List.length_map, HNF.out]
    have lX2 : X2.length = ng := by rw [← hX2, List.length_map, HNG.out]
    have lC1 : C1.length = 8 := by rw [← hC1]; rfl
    have one : ∀ l : List ByteArray, ∀ v ∈ l.map Value.string, v.oneCell' = true := by
      intro l v hv
      obtain ⟨x, _, rfl⟩ := List.mem_map.1 hv
      rfl
    have src : ∀ {w' : World} {B : Nat} {p : Option Addr} {n c : Nat} {l : List ByteArray}, SideRow w' B p n c l → 0 < n → ∃ ad, p = some ad ∧ ∀ j v, (l.map Value.string)[j]? = some v → w'.cell? (ad.add j) = some v := by
      intro w' B p n c l h h0
      rcases h.lies with h1 | ⟨g, e, _, _, hc⟩
      · omega
      · refine ⟨_, e, fun j v hv => ?_⟩
        rw [List.getElem?_map] at hv
        cases hj : l[j]? with
        | none => rw [hj] at hv; cases hv
        | some x =>
          rw [hj] at hv
          have hjl : j < l.length := (List.getElem?_eq_some_iff.1 hj).1
          rw [add_none, hc j (by rw [← h.len]; exact hjl), List.getD_eq_getElem?_getD, hj]
          exact hv
    have ba : Below w3.heap.size w3 (w3.alloc (.cells #[.string { data := #[] }, .string { data := #[] }, .string { data := #[] }, .string { data := #[] }, .string { data := #[] }, .string { data := #[] }, .string { data := #[] }, .string { data := #[] }] 44)) := (Below.refl _ _).alloc (Nat.le_refl _) _
    have G1 : Hid ((w3.alloc (.cells #[.string { data := #[] }, .string { data := #[] }, .string { data := #[] }, .string { data := #[] }, .string { data := #[] }, .string { data := #[] }, .string { data := #[] }, .string { data := #[] }] 44)).heap[w3.heap.size]? = some (.cells C1.toArray 44 (0, 0))) := Lib.hid (by rw [← hC1]; exact (ArrS.zero w3).row)
    have G2 : Hid (0 < X1.length → ∃ ad, p1 = some ad ∧ ∀ j v, X1[j]? = some v → (w3.alloc (.cells #[.string { data := #[] }, .string { data := #[] }, .string { data := #[] }, .string { data := #[] }, .string { data := #[] }, .string { data := #[] }, .string { data := #[] }, .string { data := #[] }] 44)).cell? (ad.add j) = some v) := Lib.hid (fun h => by
      rw [← hX1]
      exact src (R1b.out.below ba) (by omega))
    have G3 : Hid (∀ v ∈ X1, v.oneCell' = true) := Lib.hid (by rw [← hX1]; exact one F)
    have G4 : Hid (∀ v ∈ X2, v.oneCell' = true) := Lib.hid (by rw [← hX2]; exact one G)
    have G5 : Hid (∀ w' : World, Below w3.heap.size w3 w' → 0 < X2.length → ∃ ad, p2 = some ad ∧ ∀ j v, X2[j]? = some v → w'.cell? (ad.add j) = some v) := Lib.hid (fun w' hb' h => by
      rw [← hX2]
      exact src (R2.out.below hb') (by omega))
    have HX1 := Lib.hid hX1
    have HX2 := Lib.hid hX2
    have HC1 := Lib.hid hC1
    have hi1 : (Tryd.prog.info? 9).map (·.size) = some 1 := by kernel_rfl
    have HI := Lib.hid hi1
    have HB0 := Lib.hid ba
    have L1 := Lib.hid lX1
    have L2 := Lib.hid lX2
    have LC := Lib.hid lC1
    clear src one hX1 hX2 hC1 hi1 ba lX1 lX2 lC1
    have N1 : Hid (X1.length = Nat.min nf 8) := Lib.hid (by rw [L1.out]; exact (Nat.min_eq_left (by omega)).symm)
    go_wp2_with (with_reducible refine wpList_copy_splice (o := ⟨some 39, _, _, _, _, _⟩) rfl (.tmp 37) (.tmp 38) 37 37 rfl 9 Tryd.underlying37 HI.out _ _ _ _ _ _ rfl rfl w3.heap.size 0 C1 44 G1.out X1 N1.out (fun h => ⟨rfl, G2.out h⟩) (by rw [L1.out, LC.out]; omega) G3.out w3.heap.size w3 HB0.out (Nat.le_refl _) (fun w5 HG5 hB5 => ?_))
    have A5 : Hid (ArrS w5 w3.heap.size (F ++ List.replicate 0 zeroS ++ List.replicate (8 - nf - 0) ⟨#[]⟩)) := Lib.hid ⟨by have := HNF.out; simp; omega, by rw [HG5.out, ← HC1.out, ← HX1.out, splice_front F nf HNF.out (by omega)]⟩
    clear HG5 G1 G2 G3 N1
    go_wp2_with fail
    go_loopw [41] (fun i wr => ∃ k : Nat, k ≤ z ∧ i = .int .i64 k ∧ Hid (ArrS wr w3.heap.size (F ++ List.replicate k zeroS ++ List.replicate (8 - nf - k) ⟨#[]⟩)) ∧ Below w3.heap.size w3 wr) (fun i _ => z - (intOf i).toNat)
    case atStart => exact ⟨0, Nat.zero_le _, rfl, A5, hB5⟩
    case round =>
      obtain ⟨k, hk, rfl, HA, hbel⟩ := hrel
      by_cases hkz : k < z
      · have hcell := HA.out.cell (nf + k) (by omega)
        have hlive := HA.out.live (nf + k)
        have hix : (nf : Int) + (k : Int) < 8 := by omega
        have HS := Lib.hid (HA.out.set (i := nf + k) (by omega) zeroS)
        rw [set_zero F nf k ⟨#[]⟩ HNF.out (by omega)] at HS
        generalize (F ++ List.replicate k zeroS ++ List.replicate (8 - nf - k) (⟨#[]⟩ : ByteArray)).getD (nf + k) ⟨#[]⟩ = old at *
        go_wp2_with fail
        go_roundw
        case rel => exact ⟨k + 1, by omega, by go_num, HS, hbel.setCell (p := ⟨w3.heap.size, nf + k, none⟩) (Nat.le_refl _) _⟩
        case measure => simp [intOf]; omega
      · obtain rfl : k = z := by omega
        obtain ⟨C2, hC2⟩ : ∃ C2, (F ++ List.replicate k zeroS ++ List.replicate (8 - nf - k) (⟨#[]⟩ : ByteArray)).map Value.string = C2 := ⟨_, rfl⟩
        have G6 : Hid (wr.heap[w3.heap.size]? = some (.cells C2.toArray 44 (0, 0))) := Lib.hid (by rw [← hC2]; exact HA.out.row)
        have LC2 : Hid (C2.length = 8) := Lib.hid (by rw [← hC2]; have := HNF.out; simp; omega)
        have HC2 := Lib.hid hC2
        clear hC2
        obtain ⟨mg, hmg⟩ : ∃ mg : Nat, 8 - ng = mg := ⟨_, rfl⟩
        have emg : (8 : Int) - (ng : Int) = (mg : Int) := by omega
        have wmg : IntKind.i64.wrap (mg : Int) = (mg : Int) := by rw [IntKind.wrap_i64]; omega
        have mg0 : (0 : Int) ≤ (mg : Int) := by omega
        have mg8 : (mg : Int) ≤ 8 := by omega
        by_cases hg0 : ng = 0
        · have HM : Hid (mg = 8) := Lib.hid (by omega)
          obtain rfl : mg = 8 := HM.out
          subst hg0
          clear wmg emg mg0 mg8 hmg
          have N2 : Hid (X2.length = Nat.min 0 0) := Lib.hid (by rw [L2.out]; rfl)
          go_wp2_with (with_reducible refine wpList_copy_splice (o := ⟨some 55, _, _, _, _, _⟩) rfl (.tmp 53) (.tmp 54) 37 37 rfl 9 Tryd.underlying37 HI.out _ _ _ _ _ _ rfl rfl w3.heap.size 8 C2 44 G6.out X2 N2.out (fun h => absurd h (by rw [L2.out]; omega)) (by rw [L2.out, LC2.out]; omega) G4.out w3.heap.size w3 hbel (Nat.le_refl _) (fun w6 HG6 hB6 => ?_); have A6 : Hid (ArrS w6 w3.heap.size (F ++ List.replicate k zeroS ++ G)) := Lib.hid ⟨by have := HNF.out; have := HNG.out; simp; omega, by rw [HG6.out, ← HC2.out, ← HX2.out, show 8 = 8 - 0 from rfl, splice_back F G nf 0 k HNF.out HNG.out hsum]⟩; clear HG6; have hl8 := A6.out.len; obtain ⟨y0, y1, y2, y3, y4, y5, y6, y7, hy⟩ := list8 _ hl8; rw [hy] at A6 HD; obtain ⟨k0, k1, k2, k3, k4, k5, k6, k7⟩ := A6.out.all; obtain ⟨r0, r1, r2, r3, r4, r5, r6, r7⟩ := (HZ3.out.below hB6).all; obtain ⟨f0, f1, f2, f3, f4, f5, f6, f7⟩ := (HZ3.out.below hB6).lives; have E1 := Lib.hid (storeS_arr y0 y1 y2 y3 y4 y5 y6 y7 (HZ3.out.below hB6)); have E2 := Lib.hid (storeS_below y0 y1 y2 y3 y4 y5 y6 y7 (chain b1 hB6) (Nat.le_refl w.heap.size)); clear hy hl8)
          change bodyPost _ _ _ _ _ (storeS w6 w.heap.size y0 y1 y2 y3 y4 y5 y6 y7)
          generalize storeS w6 w.heap.size y0 y1 y2 y3 y4 y5 y6 y7 = W at *
          clear r0 r1 r2 r3 r4 r5 r6 r7 f0 f1 f2 f3 f4 f5 f6 f7 k0 k1 k2 k3 k4 k5 k6 k7
          obtain ⟨r0, r1, r2, r3, r4, r5, r6, r7⟩ := E1.out.all
          refine bodyPost_ret (v := placesRet (some [y0, y1, y2, y3, y4, y5, y6, y7])) (by simp [results, Tryd.results23, go_sem, r0, r1, r2, r3, r4, r5, r6, r7, placesRet, arrS]) rfl ⟨by rw [HD.out], E2.out⟩
        · have hmn : ¬ 8 = mg := by omega
          have N2 : Hid (X2.length = Nat.min ng (8 - mg)) := Lib.hid (by rw [L2.out]; exact (Nat.min_eq_left (by omega)).symm)
          have HMG := Lib.hid hmg
          clear hmg
          go_wp2_with (with_reducible refine wpList_copy_splice (o := ⟨some 55, _, _, _, _, _⟩) rfl (.tmp 53) (.tmp 54) 37 37 rfl 9 Tryd.underlying37 HI.out _ _ _ _ _ _ rfl rfl w3.heap.size mg C2 44 G6.out X2 N2.out (fun h => ⟨rfl, G5.out _ hbel h⟩) (by have := HMG.out; rw [L2.out, LC2.out]; omega) G4.out w3.heap.size w3 hbel (Nat.le_refl _) (fun w6 HG6 hB6 => ?_); have A6 : Hid (ArrS w6 w3.heap.size (F ++ List.replicate k zeroS ++ G)) := Lib.hid ⟨by have := HNF.out; have := HNG.out; simp; omega, by rw [HG6.out, ← HC2.out, ← HX2.out, ← HMG.out, splice_back F G nf ng k HNF.out HNG.out hsum]⟩; clear HG6; have hl8 := A6.out.len; obtain ⟨y0, y1, y2, y3, y4, y5, y6, y7, hy⟩ := list8 _ hl8; rw [hy] at A6 HD; obtain ⟨k0, k1, k2, k3, k4, k5, k6, k7⟩ := A6.out.all; obtain ⟨r0, r1, r2, r3, r4, r5, r6, r7⟩ := (HZ3.out.below hB6).all; obtain ⟨f0, f1, f2, f3, f4, f5, f6, f7⟩ := (HZ3.out.below hB6).lives; have E1 := Lib.hid (storeS_arr y0 y1 y2 y3 y4 y5 y6 y7 (HZ3.out.below hB6)); have E2 := Lib.hid (storeS_below y0 y1 y2 y3 y4 y5 y6 y7 (chain b1 hB6) (Nat.le_refl w.heap.size)); clear hy hl8)
          change bodyPost _ _ _ _ _ (storeS w6 w.heap.size y0 y1 y2 y3 y4 y5 y6 y7)
          generalize storeS w6 w.heap.size y0 y1 y2 y3 y4 y5 y6 y7 = W at *
          clear r0 r1 r2 r3 r4 r5 r6 r7 f0 f1 f2 f3 f4 f5 f6 f7 k0 k1 k2 k3 k4 k5 k6 k7
          obtain ⟨r0, r1, r2, r3, r4, r5, r6, r7⟩ := E1.out.all
          refine bodyPost_ret (v := placesRet (some [y0, y1, y2, y3, y4, y5, y6, y7])) (by simp [results, Tryd.results23, go_sem, r0, r1, r2, r3, r4, r5, r6, r7, placesRet, arrS]) rfl ⟨by rw [HD.out], E2.out⟩
end Go.Proofs.YtkdinhgflkfbkaaDoor

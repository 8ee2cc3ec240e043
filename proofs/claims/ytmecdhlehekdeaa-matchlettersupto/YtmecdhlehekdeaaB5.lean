/- Texts that belong together, one behind the other: MatRefAn, MatOwn1, MatOwnTe, MatOwnFo, MatOwnAn, MatHelp, MatLives, OpenMsg. -/
import Derived.Test.YtmecdhlehekdeaaB4
import Derived.Deep.RegionHeld3
import Derived.Deep.Cut
import Derived.Laws.Tables
import Derived.Test.YtmecdhlehekdeaaRows
import Derived.Deep.Strs
/- The reference's layer 11: Answers. -/
namespace Go.Proofs.Ytmecdhlehekdeaa
open Go.RowKit
set_option linter.unusedVariables false
set_option maxRecDepth 20000
set_option linter.unusedSimpArgs false

/-- A question boxed. -/
theorem qu_boxed (w : World) (t : TypeId) (nm : ByteArray) (ty cl : Int) : CellsAt (w.alloc (.cells #[.string nm, .int .i64 ty, .int .i64 cl] t)) w.heap.size [.string nm, .int .i64 ty, .int .i64 cl] := CellsAt.new w t _
theorem len_one {α : Type} {l : List α} (h : l.length = 1) : ∃ a, l = [a] := by
  match l, h with
  | [a], _ => exact ⟨a, rfl⟩
set_option maxRecDepth 100000 in
set_option maxHeartbeats 2000000 in
theorem refAnswers11_any (q : Qry) (sv : Int) (m : Msg) (aq a1 a2 a3 : Option Addr) (cq c1 c2 c3 : Nat) (w : World) (hM : QusAt w aq cq m.qs) (hn : q.nm.size ≤ 2000000) (hq : ∀ a ∈ m.qs, a.name.size ≤ 2000000) :
    Calls Try.prog 11 #[qryV q, .int .i64 sv, msgV m aq a1 a2 a3 cq c1 c2 c3] w fun e w' => e = .returned (.bool (ansP q sv m)) ∧ Below w.heap.size w w' := by
  have h1 := ansP_1 (q := q) (sv := sv) (m := m)
  have h2 := ansP_2 (q := q) (sv := sv) (m := m)
  have h3 := ansP_3 (q := q) (sv := sv) (m := m)
  have h4 := ansP_4 (q := q) (sv := sv) (m := m)
  have h5 := fun a => ansP_5 (q := q) (sv := sv) (m := m) (a := a)
  have HM := Lib.hid hM
  have HBI := fun W => And.intro (Lib.hid (refBits11_any m.fl 15 1 W (by decide) (by decide))) (And.intro (Lib.hid (refBits11_any m.fl 11 4 W (by decide) (by decide))) (Lib.hid (refBits11_any m.fl 9 1 W (by decide) (by decide))))
  have HFL : Hid (flagOk m.fl = (decide (bitS m.fl 15 1 = 1) && (decide (bitS m.fl 11 4 = 0) && decide (bitS m.fl 9 1 = 0)))) := Lib.hid rfl
  obtain ⟨b1, hb1⟩ : ∃ b, bitS m.fl 15 1 = b := ⟨_, rfl⟩
  obtain ⟨b2, hb2⟩ : ∃ b, bitS m.fl 11 4 = b := ⟨_, rfl⟩
  obtain ⟨b3, hb3⟩ : ∃ b, bitS m.fl 9 1 = b := ⟨_, rfl⟩
  rw [hb1, hb2, hb3] at HFL
  simp only [hb1, hb2, hb3] at HBI
  have HQN := Lib.hid hq
  have HQ1 := Lib.hid hn
  clear hb1 hb2 hb3 hM hq hn
  obtain ⟨R, hR⟩ : ∃ R, ansP q sv m = R := ⟨_, rfl⟩
  rw [hR] at h1 h2 h3 h4 ⊢
  have h5' := fun a (e1 : q.sv = sv) e2 e3 e4 => (hR.symm.trans (h5 a e1 e2 e3 e4))
  clear h5 hR
  obtain ⟨qid, qnm, qty, qsv⟩ := q
  unfold qryV msgV
  simp only at h1 h2 h3 h4 h5' HQ1 ⊢
  obtain ⟨W0, hW0⟩ : ∃ W0, (w.alloc (.cells #[.int .i64 qid, .string qnm, .int .i64 qty, .int .i64 qsv] 30)).alloc (.cells #[.int .i64 m.id, .int .i64 m.fl, .slice aq m.qs.length cq, .slice a1 m.an.length c1, .slice a2 m.au.length c2, .slice a3 m.mo.length c3] 27) = W0 := ⟨_, rfl⟩
  have HX : Hid (CellsAt W0 (w.heap.size + 1) [.int .i64 m.id, .int .i64 m.fl, .slice aq m.qs.length cq, .slice a1 m.an.length c1, .slice a2 m.au.length c2, .slice a3 m.mo.length c3]) := Lib.hid (by
    have := CellsAt.new (w.alloc (.cells #[.int .i64 qid, .string qnm, .int .i64 qty, .int .i64 qsv] 30)) 27 [.int .i64 m.id, .int .i64 m.fl, .slice aq m.qs.length cq, .slice a1 m.an.length c1, .slice a2 m.au.length c2, .slice a3 m.mo.length c3]
    rw [← hW0]; simpa using this)
  have HQ : Hid (CellsAt W0 w.heap.size [.int .i64 qid, .string qnm, .int .i64 qty, .int .i64 qsv]) := Lib.hid (by
    rw [← hW0]; exact (CellsAt.new w 30 [.int .i64 qid, .string qnm, .int .i64 qty, .int .i64 qsv]).below ((Below.refl _ _).alloc (Nat.le_refl _) _))
  have HB0 : Hid (Below w.heap.size w W0) := Lib.hid (by rw [← hW0]; exact ((Below.refl _ _).alloc (Nat.le_refl _) _).alloc (by simp) _)
  have HS0 : Hid (W0.heap.size = w.heap.size + 2) := Lib.hid (by rw [← hW0]; simp)
  have HQL : Hid (∀ n, m.qs.length = n → n ≠ 1 → R = false) := Lib.hid (fun n e h => h3 (by rw [e]; exact h))
  obtain ⟨N, hN⟩ : ∃ N, m.qs.length = N := ⟨_, rfl⟩
  have HN := Lib.hid hN
  rw [hN] at HX hW0 h3 ⊢
  generalize m.an.length = n1 at *
  generalize m.au.length = n2 at *
  generalize m.mo.length = n3 at *
  have H4 := Lib.hid h4
  have H5 := Lib.hid h5'
  generalize m.id = mid at *
  generalize m.fl = mfl at *
  clear hN h4 h5' HQL
  go_enter Try.func11, Try.ntmps11
  go_upto_region 1 with fail
  try rw [hW0]
  clear hW0
  obtain ⟨G, hG⟩ : ∃ G, w.heap.size = G := ⟨_, rfl⟩
  have HG := Lib.hid hG
  rw [hG] at HX HQ
  try rw [hG]
  clear hG
  have q0 := HQ.out.cell 0 _ rfl
  have q1 := HQ.out.cell 1 _ rfl
  have q2 := HQ.out.cell 2 _ rfl
  have q3 := HQ.out.cell 3 _ rfl
  have x0 := HX.out.cell 0 _ rfl
  have x1 := HX.out.cell 1 _ rfl
  have x2 := HX.out.cell 2 _ rfl
  by_cases e1 : qsv = sv
  · have d1 : (qsv != sv) = false := by simp [e1]
    have H1 := Lib.hid e1
    by_cases e2 : qid = mid
    · have d2 : (qid != mid) = false := by simp [e2]
      have H2 := Lib.hid e2
      by_cases e3 : N = 1
      · have d3 : ((N : Int) != 1) = false := by simp [e3]
        have d4 : (N != 1) = false := by simp [e3]
        clear e1 e2 h1 h2 h3
        subst e3
        obtain ⟨u, hu⟩ := len_one HN.out
        have HU := Lib.hid hu
        obtain ⟨g, o, rfl, hg, y0, y1, y2⟩ := (HM.out.below HB0.out).at 0 (by rw [hu]; exact Nat.zero_lt_one)
        simp only [hu, List.getElem_cons_zero, Nat.zero_mul, Nat.add_zero] at y0 y1 y2
        have HLK := fun W => Lib.hid (refLike_any u.name qnm W (HQN.out u (by rw [hu]; simp)) HQ1.out)
        obtain ⟨un, uy, uc⟩ := u
        simp only at y0 y1 y2 HLK
        clear hu
        go_upto_region 4 with fail
        obtain ⟨W1, hW1⟩ : ∃ W1, W0.alloc (.cells #[.string un, .int .i64 uy, .int .i64 uc] 35) = W1 := ⟨_, rfl⟩
        have HU1 : Hid (CellsAt W1 W0.heap.size [.string un, .int .i64 uy, .int .i64 uc]) := Lib.hid (by rw [← hW1]; exact qu_boxed _ _ _ _ _)
        have HB1 : Hid (Below W0.heap.size W0 W1) := Lib.hid (by rw [← hW1]; exact (Below.refl _ _).alloc (Nat.le_refl _) _)
        try rw [hW1]
        clear hW1
        have HX1 := Lib.hid (HX.out.below HB1.out)
        have HQ2 := Lib.hid (HQ.out.below HB1.out)
        have HBB := Lib.hid (chain HB0.out HB1.out)
        have hs0 := HS0.out
        rw [HG.out] at hs0
        rw [hs0] at HU1
        try rw [hs0]
        clear q0 q1 q2 q3 x0 x1 x2 y0 y1 y2 hs0 HX HQ hg HB0 HB1
        have q1 := HQ2.out.cell 1 _ rfl
        have q2 := HQ2.out.cell 2 _ rfl
        have x1 := HX1.out.cell 1 _ rfl
        have u0 := HU1.out.cell 0 _ rfl
        have u1 := HU1.out.cell 1 _ rfl
        have u2 := HU1.out.cell 2 _ rfl
        by_cases f1 : b1 = 1
        · have d5 : ((b1 : Int) == 1) = true := by simp [f1]
          have d5b : (b1 == 1) = true := by simp [f1]
          have d5c : decide ((b1 : Int) = 1) = true := by simp [f1]
          have d5d : decide (b1 = 1) = true := by simp [f1]
          have F1 := Lib.hid f1
          by_cases f2 : b2 = 0
          · have d6 : ((b2 : Int) == 0) = true := by simp [f2]
            have d6b : (b2 == 0) = true := by simp [f2]
            have d6c : decide ((b2 : Int) = 0) = true := by simp [f2]
            have d6d : decide (b2 = 0) = true := by simp [f2]
            have F2 := Lib.hid f2
            by_cases f3 : b3 = 0
            · have d7 : ((b3 : Int) == 0) = true := by simp [f3]
              have d7b : (b3 == 0) = true := by simp [f3]
              have d7c : decide ((b3 : Int) = 0) = true := by simp [f3]
              have d7d : decide (b3 = 0) = true := by simp [f3]
              have HRA : Hid (R = (likeB un qnm && (decide (uy = qty) && decide (uc = 1)))) := Lib.hid (H5.out ⟨un, uy, uc⟩ H1.out H2.out HU.out (by rw [HFL.out, f1, f2, f3]; rfl))
              clear f1 f2 f3 F1 F2 H4 H5 HFL
              generalize likeB un qnm = lk at *
              go_wp2_with fail
              refine (HBI _).1.out.mono ?_
              rintro e _ ⟨rfl, rfl⟩
              go_wp2_with fail
              refine (HBI _).2.1.out.mono ?_
              rintro e _ ⟨rfl, rfl⟩
              go_wp2_with fail
              refine (HBI _).2.2.out.mono ?_
              rintro e _ ⟨rfl, rfl⟩
              go_wp2_with fail
              refine (HLK _).out.mono ?_
              rintro e w2 ⟨rfl, hb⟩
              have HU2 := Lib.hid (HU1.out.below hb)
              have HQ3 := Lib.hid (HQ2.out.below hb)
              have HB2 := Lib.hid (chain HBB.out hb)
              clear hb HU1 HQ2 HX1 HBB q1 q2 x1 u0 u1 u2
              have q2 := HQ3.out.cell 2 _ rfl
              have u1 := HU2.out.cell 1 _ rfl
              have u2 := HU2.out.cell 2 _ rfl
              by_cases g1 : uy = qty
              all_goals by_cases g2 : uc = 1
              all_goals cases lk
              all_goals
                have ER := HRA.out
                simp only [g1, g2, decide_true, decide_false, Bool.and_true, Bool.and_false, Bool.true_and, Bool.false_and] at ER
                clear HRA
                subst ER
                have k1 : (uy == qty) = decide (uy = qty) := rfl
                have k2 : (uc == 1) = decide (uc = 1) := rfl
                simp only [g1, g2, decide_true, decide_false] at k1 k2
                go_wp2_with fail
                go_ret
                exact ⟨rfl, HB2.out⟩
            · have HBB2 := HBB
              have d7 : ((b3 : Int) == 0) = false := by simp; omega
              have d7b : (b3 == 0) = false := by simp; omega
              have d7c : decide ((b3 : Int) = 0) = false := by simp; omega
              have d7d : decide (b3 = 0) = false := by simp; omega
              have ER : R = false := H4.out (by rw [HFL.out, d7d]; simp)
              subst ER
              clear f3 H4 H5 HFL
              go_wp2_with fail
              refine (HBI _).1.out.mono ?_
              rintro e _ ⟨rfl, rfl⟩
              go_wp2_with fail
              refine (HBI _).2.1.out.mono ?_
              rintro e _ ⟨rfl, rfl⟩
              go_wp2_with fail
              refine (HBI _).2.2.out.mono ?_
              rintro e _ ⟨rfl, rfl⟩
              go_wp2_with fail
              go_ret
              exact ⟨rfl, HBB.out⟩
          · have HBB2 := HBB
            have d6 : ((b2 : Int) == 0) = false := by simp; omega
            have d6b : (b2 == 0) = false := by simp; omega
            have d6c : decide ((b2 : Int) = 0) = false := by simp; omega
            have d6d : decide (b2 = 0) = false := by simp; omega
            have ER : R = false := H4.out (by rw [HFL.out, d6d]; simp)
            subst ER
            clear f2 H4 H5 HFL
            go_wp2_with fail
            refine (HBI _).1.out.mono ?_
            rintro e _ ⟨rfl, rfl⟩
            go_wp2_with fail
            refine (HBI _).2.1.out.mono ?_
            rintro e _ ⟨rfl, rfl⟩
            go_wp2_with fail
            go_ret
            exact ⟨rfl, HBB.out⟩
        · have HBB2 := HBB
          have d5 : ((b1 : Int) == 1) = false := by simp; omega
          have d5b : (b1 == 1) = false := by simp; omega
          have d5c : decide ((b1 : Int) = 1) = false := by simp; omega
          have d5d : decide (b1 = 1) = false := by simp; omega
          have ER : R = false := H4.out (by rw [HFL.out, d5d]; simp)
          subst ER
          clear f1 H4 H5 HFL
          go_wp2_with fail
          refine (HBI _).1.out.mono ?_
          rintro e _ ⟨rfl, rfl⟩
          go_wp2_with fail
          go_ret
          exact ⟨rfl, HBB.out⟩
      · have d3 : ((N : Int) != 1) = true := by simp; omega
        have ER := h3 e3
        clear e1 e2 e3 h1 h2 h3
        subst ER
        go_wp2_with fail
        go_ret
        exact ⟨rfl, HB0.out⟩
    · have d2 : (qid != mid) = true := by simp [e2]
      have ER := h2 e2
      clear e1 e2 h1 h2 h3
      subst ER
      go_wp2_with fail
      go_ret
      exact ⟨rfl, HB0.out⟩
  · have d1 : (qsv != sv) = true := by simp [e1]
    have ER := h1 e1
    clear e1 h1 h2 h3
    subst ER
    go_wp2_with fail
    go_ret
    exact ⟨rfl, HB0.out⟩
end Go.Proofs.Ytmecdhlehekdeaa
/- The landed match: wholeAnswer, fault, Answers. -/
namespace Go.Proofs.Ytmecdhlehekdeaa
open Go.RowKit
set_option linter.unusedVariables false
set_option maxRecDepth 20000
set_option linter.unusedSimpArgs false

/-- Bits of a number by masks, and by division. -/
def bitsOk (fl : Int) : Bool := decide (maskN fl 32768 ≠ 0) && decide (maskN fl 31232 = 0)
theorem mask_and (x : Int) (m : Nat) (hm : m < 4611686018427387904) : maskN x m = (BitVec.ofInt 64 x).toNat &&& m := by
  have h1 : (BitVec.ofInt 64 (m : Int)).toNat = m := by
    rw [BitVec.ofInt_natCast, BitVec.toNat_ofNat]
    exact Nat.mod_eq_of_lt (by omega)
  have h2 : bits .and .i64 x (m : Int) = IntKind.i64.wrap (((BitVec.ofInt 64 x &&& BitVec.ofInt 64 (m : Int)).toNat : Nat) : Int) := rfl
  have h3 : (BitVec.ofInt 64 x &&& BitVec.ofInt 64 (m : Int)).toNat = (BitVec.ofInt 64 x).toNat &&& m := by rw [BitVec.toNat_and, h1]
  have h4 : (BitVec.ofInt 64 x).toNat &&& m ≤ m := Nat.and_le_right
  unfold maskN
  rw [h2, h3, wrap_small _ m h4 hm]
  simp
theorem bit_one (y i : Nat) : y / 2 ^ i % 2 = if y.testBit i then 1 else 0 := by
  rw [Nat.testBit_eq_decide_div_mod_eq]
  have : y / 2 ^ i % 2 < 2 := Nat.mod_lt _ (by decide)
  by_cases h : y / 2 ^ i % 2 = 1
  · simp [h]
  · simp [h]; omega
theorem mask_zero (y m : Nat) : y &&& m = 0 ↔ ∀ i, y.testBit i = true → m.testBit i = false := by
  constructor
  · intro h i hi
    have := congrArg (fun z => z.testBit i) h
    simp [hi] at this
    simpa using this
  · intro h
    apply Nat.eq_of_testBit_eq
    intro i
    rw [Nat.testBit_and, Nat.zero_testBit]
    cases hy : y.testBit i with
    | false => rfl
    | true => rw [h i hy]; rfl
theorem mask_31232 (y : Nat) : y &&& 31232 = 0 ↔ y.testBit 9 = false ∧ y.testBit 11 = false ∧ y.testBit 12 = false ∧ y.testBit 13 = false ∧ y.testBit 14 = false := by
  rw [mask_zero]
  constructor
  · intro h
    have hh : ∀ i, (31232 : Nat).testBit i = true → y.testBit i = false := fun i hi => by
      cases hy : y.testBit i with
      | false => rfl
      | true => rw [h i hy] at hi; cases hi
    exact ⟨hh 9 (by decide), hh 11 (by decide), hh 12 (by decide), hh 13 (by decide), hh 14 (by decide)⟩
  · rintro ⟨h1, h2, h3, h4, h5⟩ i hi
    by_cases hl : i < 15
    · have : i = 0 ∨ i = 1 ∨ i = 2 ∨ i = 3 ∨ i = 4 ∨ i = 5 ∨ i = 6 ∨ i = 7 ∨ i = 8 ∨ i = 9 ∨ i = 10 ∨ i = 11 ∨ i = 12 ∨ i = 13 ∨ i = 14 := by omega
      rcases this with rfl | rfl | rfl | rfl | rfl | rfl | rfl | rfl | rfl | rfl | rfl | rfl | rfl | rfl | rfl
      all_goals first
        | (rw [h1] at hi; cases hi)
        | (rw [h2] at hi; cases hi)
        | (rw [h3] at hi; cases hi)
        | (rw [h4] at hi; cases hi)
        | (rw [h5] at hi; cases hi)
        | decide
    · exact Nat.testBit_lt_two_pow (Nat.lt_of_lt_of_le (by decide : (31232 : Nat) < 2 ^ 15) (Nat.pow_le_pow_right (by decide) (by omega)))
theorem mask_32768 (y : Nat) : (y &&& 32768 ≠ 0) ↔ y.testBit 15 = true := by
  constructor
  · intro h
    cases hy : y.testBit 15 with
    | true => rfl
    | false =>
      refine absurd ((mask_zero y 32768).2 fun i hi => ?_) h
      have : i ≠ 15 := fun e => by rw [e, hy] at hi; cases hi
      rw [show (32768 : Nat) = 2 ^ 15 from rfl, Nat.testBit_two_pow]
      simp; omega
  · intro h e
    have := (mask_zero y 32768).1 e 15 h
    exact absurd this (by decide)
theorem bit_mod (y i : Nat) (hi : i < 16) : (y &&& 65535) / 2 ^ i % 2 = if y.testBit i then 1 else 0 := by
  rw [bit_one, Nat.testBit_and]
  have : (65535 : Nat).testBit i = true := by
    rw [show (65535 : Nat) = 2 ^ 16 - 1 from rfl, Nat.testBit_two_pow_sub_one]
    exact decide_eq_true hi
  rw [this, Bool.and_true]
theorem flags_same (fl : Int) : bitsOk fl = flagOk fl := by
  unfold bitsOk flagOk bitS
  rw [mask_and _ _ (by decide), mask_and _ _ (by decide), mask_and _ _ (by decide)]
  generalize (BitVec.ofInt 64 fl).toNat = y
  have h15 := bit_mod y 15 (by decide)
  have h9 := bit_mod y 9 (by decide)
  have h11 := bit_mod y 11 (by decide)
  have h12 := bit_mod y 12 (by decide)
  have h13 := bit_mod y 13 (by decide)
  have h14 := bit_mod y 14 (by decide)
  have e1 : decide (y &&& 32768 ≠ 0) = y.testBit 15 := by
    cases hy : y.testBit 15 with
    | true => exact decide_eq_true ((mask_32768 y).2 hy)
    | false => exact decide_eq_false (fun h => by rw [(mask_32768 y).1 h] at hy; cases hy)
  have e2 : decide (y &&& 31232 = 0) = (!y.testBit 9 && (!y.testBit 11 && (!y.testBit 12 && (!y.testBit 13 && !y.testBit 14)))) := by
    rw [Bool.eq_iff_iff, decide_eq_true_iff, mask_31232]
    simp
  rw [e1, e2]
  generalize y &&& 65535 = z at *
  cases b15 : y.testBit 15 <;> cases b9 : y.testBit 9 <;> cases b11 : y.testBit 11 <;> cases b12 : y.testBit 12 <;> cases b13 : y.testBit 13 <;> cases b14 : y.testBit 14 <;> simp only [b15, b9, b11, b12, b13, b14, if_true, Bool.false_eq_true, if_false] at h15 h9 h11 h12 h13 h14 <;> simp <;> omega
set_option maxRecDepth 100000 in
theorem whole_any (fl : Int) (w : World) : Calls Try.prog 28 #[.int .i64 fl] w fun e w' => e = .returned (.bool (flagOk fl)) ∧ w' = w := by
  obtain ⟨hm1, hk1⟩ := mask_is fl 32768 (by decide)
  obtain ⟨hm2, hk2⟩ := mask_is fl 31232 (by decide)
  have hm1 : bits .and .i64 fl 32768 = ((maskN fl 32768 : Nat) : Int) := hm1
  have hm2 : bits .and .i64 fl 31232 = ((maskN fl 31232 : Nat) : Int) := hm2
  have HR : Hid (bitsOk fl = (decide (maskN fl 32768 ≠ 0) && decide (maskN fl 31232 = 0))) := Lib.hid rfl
  rw [← flags_same]
  obtain ⟨R, hR⟩ : ∃ R, bitsOk fl = R := ⟨_, rfl⟩
  rw [hR] at HR ⊢
  clear hR
  generalize maskN fl 32768 = m1 at *
  generalize maskN fl 31232 = m2 at *
  by_cases h1 : m1 = 0
  · have e1 : ((m1 : Int) != 0) = false := by simp [h1]
    have e2 : (m1 != 0) = false := by simp [h1]
    have ER : R = false := by rw [HR.out]; simp [h1]
    clear HR h1
    subst ER
    go_enter Try.func28, Try.ntmps28
    go_wp2_with fail
    go_ret
    exact ⟨rfl, rfl⟩
  · have e1 : ((m1 : Int) != 0) = true := by simp [h1]
    have e2 : (m1 != 0) = true := by simp [h1]
    by_cases h2 : m2 = 0
    · have e3 : ((m2 : Int) == 0) = true := by simp [h2]
      have e4 : decide ((m2 : Int) = 0) = true := by simp [h2]
      have e5 : (m2 == 0) = true := by simp [h2]
      have ER : R = true := by rw [HR.out]; simp [h1, h2]
      clear HR h1 h2
      subst ER
      go_enter Try.func28, Try.ntmps28
      go_wp2_with fail
      go_ret
      exact ⟨rfl, rfl⟩
    · have e3 : ((m2 : Int) == 0) = false := by simp; omega
      have e4 : decide ((m2 : Int) = 0) = false := by simp; omega
      have e5 : (m2 == 0) = false := by simp; omega
      have ER : R = false := by rw [HR.out]; simp [h2]
      clear HR h1 h2
      subst ER
      go_enter Try.func28, Try.ntmps28
      go_wp2_with fail
      go_ret
      exact ⟨rfl, rfl⟩
theorem mask_15 (fl : Int) : bitS fl 0 4 = maskN fl 15 := by
  unfold bitS
  rw [mask_and _ _ (by decide), mask_and _ _ (by decide)]
  generalize (BitVec.ofInt 64 fl).toNat = y
  rw [show (65535 : Nat) = 2 ^ 16 - 1 from rfl, show (15 : Nat) = 2 ^ 4 - 1 from rfl, Nat.and_two_pow_sub_one_eq_mod, Nat.and_two_pow_sub_one_eq_mod]
  omega
/-- The error that Flags tell. -/
def faultP (fl : Int) : Int := if bitS fl 0 4 = 3 then 8 else if bitS fl 0 4 ≠ 0 then 7 else 0
set_option maxRecDepth 100000 in
theorem fault_any (fl : Int) (w : World) : Calls Try.prog 32 #[.int .i64 fl] w fun e w' => e = .returned (.int .i64 (faultP fl)) ∧ w' = w := by
  obtain ⟨hm1, hk1⟩ := mask_is fl 15 (by decide)
  have hm1 : bits .and .i64 fl 15 = ((maskN fl 15 : Nat) : Int) := hm1
  unfold faultP
  rw [mask_15]
  generalize maskN fl 15 = m at *
  by_cases h0 : m = 0
  · have e3 : ((m : Int) == 0) = true := by simp [h0]
    have e4 : decide ((m : Int) = 0) = true := by simp [h0]
    have e5 : (m == 0) = true := by simp [h0]
    rw [if_neg (by omega), if_neg (by simpa using h0)]
    clear h0
    go_enter Try.func32, Try.ntmps32
    go_wp2_with fail
    go_ret
    exact ⟨rfl, rfl⟩
  · have e3 : ((m : Int) == 0) = false := by simp; omega
    have e4 : decide ((m : Int) = 0) = false := by simp; omega
    have e5 : (m == 0) = false := by simp; omega
    by_cases h3 : m = 3
    · have f3 : ((m : Int) == 3) = true := by simp [h3]
      have f4 : decide ((m : Int) = 3) = true := by simp [h3]
      have f5 : (m == 3) = true := by simp [h3]
      rw [if_pos h3]
      clear h3 h0
      go_enter Try.func32, Try.ntmps32
      go_wp2_with fail
      go_ret
      exact ⟨rfl, rfl⟩
    · have f3 : ((m : Int) == 3) = false := by simp; omega
      have f4 : decide ((m : Int) = 3) = false := by simp; omega
      have f5 : (m == 3) = false := by simp; omega
      rw [if_neg h3, if_pos h0]
      clear h3 h0
      go_enter Try.func32, Try.ntmps32
      go_wp2_with fail
      go_ret
      exact ⟨rfl, rfl⟩
end Go.Proofs.Ytmecdhlehekdeaa
/- The landed match: Tell. -/
namespace Go.Proofs.Ytmecdhlehekdeaa
open Go.RowKit
set_option linter.unusedVariables false
set_option maxRecDepth 20000
set_option linter.unusedSimpArgs false

theorem tell_keeps (D : List Rec) : ∀ (x : Int × List Ad), x.2 ≠ [] → (tellAll x D).2 ≠ [] := by
  induction D with
  | nil => intro x h; exact h
  | cons r D ih =>
    intro x h
    rw [tell_cons]
    refine ih _ ?_
    unfold tellStep
    by_cases hin : (r.f, r.b) ∈ x.2
    · simp [hin, h]
    · simp [hin]
theorem tell_empty (D : List Rec) (t : Int) : (tellAll (t, []) D).2 = [] → (tellAll (t, []) D).1 = t := by
  cases D with
  | nil => intro _; rfl
  | cons r D =>
    intro h
    rw [tell_cons] at h
    exact absurd h (tell_keeps D _ (by simp [tellStep]))
set_option maxRecDepth 100000 in
set_option maxHeartbeats 4000000 in
theorem tell_any (q : Qry) (m : Msg) (aq a1 a2 a3 : Option Addr) (cq c1 c2 c3 : Nat) (w : World) (hM : RecsAt w a1 c1 m.an) (hD : All2 m.an) (hn : q.nm.size ≤ 2000000) (hl : m.an.length ≤ 900) :
    Calls Try.prog 18 #[qryV q, msgV m aq a1 a2 a3 cq c1 c2 c3] w (TellRet w (tellP m.fl q.nm q.ty m.an)) := by
  have HM := Lib.hid hM
  have HD := Lib.hid hD
  have HQN := Lib.hid hn
  have HLN := Lib.hid hl
  have HFA := fun W => Lib.hid (fault_any m.fl W)
  have HFP : Hid (faultP m.fl = if bitS m.fl 0 4 = 3 then 8 else if bitS m.fl 0 4 ≠ 0 then 7 else 0) := Lib.hid rfl
  have HTP : Hid (tellP m.fl q.nm q.ty m.an = if bitS m.fl 0 4 = 3 then errT 8 else if bitS m.fl 0 4 ≠ 0 then errT 7 else
    if (chainP m.an 8 q.nm 604800).2.2 = true then endT (chainP m.an 8 q.nm 604800).1 (tellAll ((chainP m.an 8 q.nm 604800).2.1, []) (m.an.filter (isRec (lastB (chainP m.an 8 q.nm 604800).1) q.ty))) else errT 3) := Lib.hid rfl
  obtain ⟨X, hX⟩ : ∃ X, tellP m.fl q.nm q.ty m.an = X := ⟨_, rfl⟩
  rw [hX] at HTP ⊢
  obtain ⟨b4, hb4⟩ : ∃ b, bitS m.fl 0 4 = b := ⟨_, rfl⟩
  rw [hb4] at HTP HFP
  simp only [HFP.out] at HFA
  have HCH := fun W (h : Below w.heap.size w W) => Lib.hid (chain_any a1 c1 m.an q.nm 8 W (hM.below h) hD hn (by decide) hl)
  simp only [show ((8 : Int)).toNat = 8 from rfl] at HCH
  obtain ⟨CH, hCH⟩ : ∃ CH, chainP m.an 8 q.nm 604800 = CH := ⟨_, rfl⟩
  have HTL : Hid (CH.2.1 ≤ 604800) := Lib.hid (by rw [← hCH]; exact chain_ttl _ _ _ _)
  have HPOS : Hid (∃ l, CH.1 = q.nm :: l ∧ l.length ≤ 8) := Lib.hid (by rw [← hCH]; exact chain_pos _ _ _ _)
  have HSM : Hid (∀ p ∈ CH.1, p.size ≤ 2000000) := Lib.hid (by rw [← hCH]; exact chain_small hD 8 hn _)
  rw [hCH] at HTP
  simp only [hCH] at HCH
  clear hX hb4 hM hD hn hl hCH
  obtain ⟨qid, qnm, qty, qsv⟩ := q
  unfold qryV msgV
  simp only at HTP HCH HQN HPOS ⊢
  obtain ⟨W0, hW0⟩ : ∃ W0, ((w.alloc (.cells #[.int .i64 qid, .string qnm, .int .i64 qty, .int .i64 qsv] 23)).alloc (.cells #[.int .i64 m.id, .int .i64 m.fl, .slice aq m.qs.length cq, .slice a1 m.an.length c1, .slice a2 m.au.length c2, .slice a3 m.mo.length c3] 27)).alloc (.cells #[.int .i64 0, .slice none 0 0, .int .i64 0, .string ⟨#[]⟩, .int .i64 0] 43) = W0 := ⟨_, rfl⟩
  have HB0 : Hid (Below w.heap.size w W0) := Lib.hid (by rw [← hW0]; exact (((Below.refl _ _).alloc (Nat.le_refl _) _).alloc (by simp) _).alloc (by simp; omega) _)
  have HS0 : Hid (W0.heap.size = w.heap.size + 3) := Lib.hid (by rw [← hW0]; simp)
  have HQ : Hid (CellsAt W0 w.heap.size [.int .i64 qid, .string qnm, .int .i64 qty, .int .i64 qsv]) := Lib.hid (by
    rw [← hW0]; exact (CellsAt.new w 23 [.int .i64 qid, .string qnm, .int .i64 qty, .int .i64 qsv]).below (((Below.refl _ _).alloc (Nat.le_refl _) _).alloc (by simp) _))
  have HX : Hid (CellsAt W0 (w.heap.size + 1) [.int .i64 m.id, .int .i64 m.fl, .slice aq m.qs.length cq, .slice a1 m.an.length c1, .slice a2 m.au.length c2, .slice a3 m.mo.length c3]) := Lib.hid (by
    have := (CellsAt.new (w.alloc (.cells #[.int .i64 qid, .string qnm, .int .i64 qty, .int .i64 qsv] 23)) 27 [.int .i64 m.id, .int .i64 m.fl, .slice aq m.qs.length cq, .slice a1 m.an.length c1, .slice a2 m.au.length c2, .slice a3 m.mo.length c3]).below ((Below.refl _ _).alloc (Nat.le_refl _) (.cells #[.int .i64 0, .slice none 0 0, .int .i64 0, .string ⟨#[]⟩, .int .i64 0] 43))
    rw [← hW0]; simpa using this)
  have HZ : Hid (CellsAt W0 (w.heap.size + 2) zT) := Lib.hid (by
    have := CellsAt.new ((w.alloc (.cells #[.int .i64 qid, .string qnm, .int .i64 qty, .int .i64 qsv] 23)).alloc (.cells #[.int .i64 m.id, .int .i64 m.fl, .slice aq m.qs.length cq, .slice a1 m.an.length c1, .slice a2 m.au.length c2, .slice a3 m.mo.length c3] 27)) 43 zT
    rw [← hW0]; simpa using this)
  have HMM := Lib.hid HM.out.2.2.1
  obtain ⟨N, hN⟩ : ∃ N, m.an.length = N := ⟨_, rfl⟩
  have HN := Lib.hid hN
  rw [hN] at HX hW0 HLN ⊢
  simp only [hN] at HCH
  generalize m.qs.length = n1 at *
  generalize m.au.length = n2 at *
  generalize m.mo.length = n3 at *
  generalize m.id = mid at *
  generalize m.fl = mfl at *
  generalize m.an = D at *
  clear hN
  have FIN : Hid (∀ (tm : Array Value) (V U : World) (v : Value) (y : Tld), y = X → tm.getD 4 undef = .pointer (some ⟨w.heap.size + 2, 0, none⟩) → Below w.heap.size w V → RowA V W0.heap.size v y.ad → U = V.setCells (w.heap.size + 2) 0 (tldL y v) → CellsAt U (w.heap.size + 2) (tldL y v) → bodyPost Try.prog Try.f18 (TellRet w X) .ret { tmps := tm, defers := [] } U) := Lib.hid (fun tm V U v y hy ht hb hr hU hc => by
    have hs := HS0.out
    subst hy
    refine bodyPost_ret (v := .agg (tldL y v).toArray) (results_of Try.results18 ht hc Try.underlying43 rfl (by kernel_rfl)) rfl ⟨v, rfl, ?_, ?_⟩
    · refine (hr.cells (G := w.heap.size + 2) (by omega) (fun k hk => ?_)).mono (by omega)
      rw [hU]; exact heap_setCells_other _ _ _ _ _ hk
    · rw [hU]; exact below_cells (by omega) _ _ _ hb)
  go_enter Try.func18, Try.ntmps18
  go_upto_region 1 with fail
  try rw [hW0]
  clear hW0
  obtain ⟨G, hG⟩ : ∃ G, w.heap.size = G := ⟨_, rfl⟩
  have HG := Lib.hid hG
  rw [hG] at HX HQ HZ FIN HS0 HB0
  rw [hG] at HCH
  try rw [hG]
  clear hG
  have x1 := HX.out.cell 1 _ rfl
  have hsT : (Try.prog.info? 43).map (·.size) = some 5 := by kernel_rfl
  go_wp2_with fail
  refine (HFA _).out.mono ?_
  rintro e wq ⟨rfl, hwq⟩
  obtain rfl : W0 = wq := hwq.symm
  clear HFA hwq HFP
  by_cases f3 : b4 = 3
  · have HE : Hid (errT 8 = X) := Lib.hid (by rw [HTP.out, if_pos f3])
    rw [if_pos f3]
    clear HTP f3
    go_wp2_with (refine store_of HZ rfl hsT _ _ rfl rfl rfl (vs := tldL (errT 8) (.slice none 0 0)) rfl rfl rfl (fun U HU HUC => ?_))
    exact FIN.out _ _ U (.slice none 0 0) (errT 8) HE.out rfl HB0.out (RowA.nil _ _) HU.out HUC.out
  · by_cases f0 : b4 = 0
    · have HE : Hid (X = if CH.2.2 = true then endT CH.1 (tellAll (CH.2.1, []) (D.filter (isRec (lastB CH.1) qty))) else errT 3) := Lib.hid (by rw [HTP.out, if_neg f3, if_neg (by simpa using f0)])
      have HC1 := HCH W0 HB0.out
      rw [if_neg f3, if_neg (by simpa using f0)]
      clear HTP f3 HCH
      have q1 := HQ.out.cell 1 _ rfl
      have x3 := HX.out.cell 3 _ rfl
      go_wp2_with fail
      refine HC1.out.mono ?_
      rintro e w1 ⟨v1, rfl, hr1, hb1⟩
      obtain ⟨pre, last, hpl⟩ : ∃ pre last, CH.1 = pre ++ [last] := by
        obtain ⟨l, e, _⟩ := HPOS.out
        exact ⟨CH.1.dropLast, CH.1.getLast (by rw [e]; simp), (List.dropLast_concat_getLast (by rw [e]; simp)).symm⟩
      have hL8 : pre.length ≤ 8 := by
        obtain ⟨l, e, h8⟩ := HPOS.out
        have := congrArg List.length (e.symm.trans hpl)
        simp at this; omega
      have hls : last.size ≤ 2000000 := HSM.out last (by rw [hpl]; simp)
      rw [hpl] at hr1
      obtain ⟨g, c, rfl, hg, hlc⟩ := hr1.last
      have HB1 := Lib.hid hb1
      have HE2 : Hid (X = if CH.2.2 = true then endT (pre ++ [last]) (tellAll (CH.2.1, []) (D.filter (isRec last qty))) else errT 3) := Lib.hid (by rw [HE.out, hpl, lastB_app])
      obtain ⟨cn, T0, ends⟩ := CH
      simp only at HE2 HTL ⊢
      obtain ⟨L, hL⟩ : ∃ L, pre.length = L := ⟨_, rfl⟩
      have HL := Lib.hid hL
      rw [hL] at hlc hL8 ⊢
      clear hL hpl hr1 hb1 HE HC1 HPOS HSM
      have hi1 : (0 : Int) ≤ (L : Int) := by omega
      have hi2 : (L : Int) < (L : Int) + 1 := by omega
      have HZ1 := Lib.hid (HZ.out.below HB1.out)
      have HQ1 := Lib.hid (HQ.out.below HB1.out)
      have HX1 := Lib.hid (HX.out.below HB1.out)
      clear x1 q1 x3
      cases ends with
      | false =>
        have HE3 : Hid (errT 3 = X) := Lib.hid (by rw [HE2.out]; rfl)
        clear HE2
        go_wp2_with (refine store_of HZ1 rfl hsT _ _ rfl rfl rfl (vs := tldL (errT 3) (.slice none 0 0)) rfl rfl rfl (fun U HU HUC => ?_))
        exact FIN.out _ w1 U (.slice none 0 0) (errT 3) HE3.out rfl (HB0.out.trans (HB1.out.mono (by have := HS0.out; omega))) (RowA.nil _ _) HU.out HUC.out
      | true =>
        have HE3 : Hid (X = endT (pre ++ [last]) (min T0 (tellAll (604800, []) (D.filter (isRec last qty))).1, (tellAll (604800, []) (D.filter (isRec last qty))).2)) := Lib.hid (by
          rw [HE2.out, if_pos rfl, ← tell_min, show min T0 604800 = T0 by have := HTL.out; omega])
        have HTE := Lib.hid (tell_empty (D.filter (isRec last qty)) 604800)
        have HAD := Lib.hid (addresses_any last qty a1 c1 D w1 (((HM.out.below (by rw [HG.out]; exact HB0.out)).below HB1.out)) HD.out hls (by rw [HN.out]; exact HLN.out))
        simp only [HN.out] at HAD
        clear HE2
        have q2 := HQ1.out.cell 2 _ rfl
        have x3 := HX1.out.cell 3 _ rfl
        go_wp2_with fail
        refine HAD.out.mono ?_
        rintro e w2 ⟨v2, rfl, hr2, hb2⟩
        generalize tellAll (604800, []) (D.filter (isRec last qty)) = y at *
        obtain ⟨T, acc⟩ := y
        simp only at hr2 HE3 HTE ⊢
        have HR2 := Lib.hid (hr2.mono HB1.out.size)
        have HB2 := Lib.hid (chain HB1.out hb2)
        have HZ2 := Lib.hid (HZ.out.below HB2.out)
        obtain ⟨av, cv, rfl, hav⟩ := hr2.ads
        clear hr2 hb2 HB1 HAD q2 x3 HZ1 HQ1 HX1 hlc hg hav
        have hlen : (pre ++ [last]).length = L + 1 := by rw [List.length_append, HL.out]; rfl
        by_cases hac : acc = []
        · subst hac
          have hl0 : ([] : List Ad).length = 0 := rfl
          have HT0 : Hid (T = 604800) := Lib.hid (HTE.out rfl)
          have hmin : min T0 T = T0 := by have := HTL.out; have := HT0.out; omega
          rw [hmin] at HE3
          rw [hl0] at HR2 ⊢
          clear hmin
          by_cases hL0 : L = 0
          · have HE5 : Hid (errT 8 = X) := Lib.hid (by rw [HE3.out]; unfold endT; rw [if_pos rfl, if_pos (by rw [hlen, hL0])])
            have e4 : (L == 0) = true := by simp [hL0]
            have e5 : ((L : Int) == 0) = true := by simp [hL0]
            have e6 : decide ((L : Int) = 0) = true := by simp [hL0]
            clear HE3 hL0 hlen HTE
            go_wp2_with (refine store_of HZ2 rfl hsT _ _ rfl rfl rfl (vs := tldL (errT 8) (.slice none 0 0)) rfl rfl rfl (fun U HU HUC => ?_))
            exact FIN.out _ w2 U (.slice none 0 0) (errT 8) HE5.out rfl (HB0.out.trans (HB2.out.mono (by have := HS0.out; omega))) (RowA.nil _ _) HU.out HUC.out
          · have HE5 : Hid (⟨0, [], T0, last, L⟩ = X) := Lib.hid (by rw [HE3.out]; unfold endT; rw [if_pos rfl, if_neg (by rw [hlen]; omega), hlen, lastB_app]; rfl)
            have e4 : (L == 0) = false := by simp; omega
            have e5 : ((L : Int) == 0) = false := by simp; omega
            have e6 : decide ((L : Int) = 0) = false := by simp; omega
            clear HE3 hlen HTE
            go_wp2_with (refine store_of HZ2 rfl hsT _ _ rfl rfl rfl (vs := tldL ⟨0, [], T0, last, L⟩ (.slice none 0 0)) rfl rfl rfl (fun U HU HUC => ?_))
            exact FIN.out _ w2 U (.slice none 0 0) ⟨0, [], T0, last, L⟩ HE5.out rfl (HB0.out.trans (HB2.out.mono (by have := HS0.out; omega))) (RowA.nil _ _) HU.out HUC.out
        · obtain ⟨T1, hT1⟩ : ∃ T1, min T0 T = T1 := ⟨_, rfl⟩
          have HT1 := Lib.hid hT1
          rw [hT1] at HE3
          have HE5 : Hid (⟨0, acc, T1, ⟨#[]⟩, L⟩ = X) := Lib.hid (by rw [HE3.out]; unfold endT; rw [if_neg hac, hlen]; rfl)
          obtain ⟨M, hM⟩ : ∃ M, acc.length = M := ⟨_, rfl⟩
          have hM0 : 0 < M := by rw [← hM]; exact List.length_pos_iff.2 hac
          have hdM : decide ((0 : Int) < (M : Int)) = true := decide_eq_true (by omega)
          rw [hM] at HR2 ⊢
          clear HE3 hac hM hlen HTE hT1
          go_wp2_with (first | (refine min_step rfl _ _ rfl rfl rfl ?_; rw [HT1.out]) | refine store_of HZ2 rfl hsT _ _ rfl rfl rfl (vs := tldL ⟨0, acc, T1, ⟨#[]⟩, L⟩ (.slice av M cv)) rfl rfl rfl (fun U HU HUC => ?_))
          exact FIN.out _ w2 U (.slice av M cv) ⟨0, acc, T1, ⟨#[]⟩, L⟩ HE5.out rfl (HB0.out.trans (HB2.out.mono (by have := HS0.out; omega))) HR2.out HU.out HUC.out
    · have HE : Hid (errT 7 = X) := Lib.hid (by rw [HTP.out, if_neg f3, if_pos f0])
      rw [if_neg f3, if_pos f0]
      clear HTP f3 f0
      go_wp2_with (refine store_of HZ rfl hsT _ _ rfl rfl rfl (vs := tldL (errT 7) (.slice none 0 0)) rfl rfl rfl (fun U HU HUC => ?_))
      exact FIN.out _ _ U (.slice none 0 0) (errT 7) HE.out rfl HB0.out (RowA.nil _ _) HU.out HUC.out
end Go.Proofs.Ytmecdhlehekdeaa
/- The landed match: Forge. -/
namespace Go.Proofs.Ytmecdhlehekdeaa
open Go.RowKit
set_option linter.unusedVariables false
set_option maxRecDepth 20000
set_option linter.unusedSimpArgs false

theorem wp_build_quM {op : Oper} {a : Act} {w : World} {K : Act → World → Prop} {Q : Exit → Act → World → Prop} {q : Qu} (x : Operand) (ho : op.op = .buildSlice 24 1 #[(0, x)])
    (hx : a.eval x = quV q) (h : ∀ W, Hid (W = w.alloc (.cells (quL q).toArray 35)) → K (a.put op.dst (.slice (some ⟨w.heap.size, 0, none⟩) 1 1)) W) : op.wp Try.prog a w K Q := by
  unfold Oper.wp execOp
  simp only [ho, List.map_toArray, List.map_cons, List.map_nil, hx, Sem.run_bind, run_buildQ q w, Result.andThen_ok]
  exact h _ (Lib.hid rfl)
theorem quM_size : (Try.prog.info? 35).map (·.size) = some 3 := by kernel_rfl
theorem yields_quM {ops : Array Oper} {S : World → Prop} {op : Oper} {a : Act} {G o : Nat} {q : Qu} (hS : Hid (∀ w, S w → w.rangeAt G o (quL q))) (hw : Region.wanted op (yielded ops a.tmps) = true) (x : Operand) (ho : op.op = .load 35 x) (hx : a.eval x = .pointer (some ⟨G, o, none⟩)) : YieldsIf Try.prog ops S op (quV q) a :=
  yieldsIf_load_mid hw 35 x ho G o hx (quL q) _ (fun w h => hS.out w h) Try.underlying35 rfl (by rw [quM_size]; rfl)
/-- What Forge tells. -/
def ForgeRet (w : World) (q : Qry) (D : List Rec) (e : Ending) (w' : World) : Prop :=
  Below w.heap.size w w' ∧ ∃ aq a1 c1, e = .returned (msgV (forgeM q D) aq a1 none none 1 c1 0 0) ∧ MsgIn w' (forgeM q D) aq a1 none none 1 c1 0 0
set_option maxRecDepth 100000 in
set_option maxHeartbeats 4000000 in
theorem forge_any (q : Qry) (a : Option Addr) (c : Nat) (D : List Rec) (w : World) (hA : RecsAt w a c D) (hl : D.length ≤ 100000) (hq : (Lit.int .i64 q.ty).wf = true) (hn : q.nm.size ≤ maxLen) :
    Calls Try.prog 24 #[qryV q, .slice a D.length c] w (ForgeRet w q D) := by
  have HF : Hid (FitQ ⟨q.nm, q.ty, 1⟩) := Lib.hid ⟨hq, (by decide : (Lit.int .i64 1).wf = true), hn⟩
  have HCR := fun V (h : Below w.heap.size w V) => Lib.hid (cloneR_any a c D V (hA.below h) hl)
  have HFR := Lib.hid hA.2.2.1
  obtain ⟨id, nm, ty, sv⟩ := q
  unfold qryV
  simp only at HF ⊢
  obtain ⟨W0, hW0⟩ : ∃ W0, (w.alloc (.cells #[.int .i64 id, .string nm, .int .i64 ty, .int .i64 sv] 23)).alloc (.cells #[.int .i64 0, .int .i64 0, .slice none 0 0, .slice none 0 0, .slice none 0 0, .slice none 0 0] 27) = W0 := ⟨_, rfl⟩
  have HZ0 : Hid (CellsAt W0 (w.heap.size + 1) zM) := Lib.hid (by
    have := CellsAt.new (w.alloc (.cells #[.int .i64 id, .string nm, .int .i64 ty, .int .i64 sv] 23)) 27 zM
    rw [← hW0]; simpa using this)
  have HQ0 : Hid (CellsAt W0 w.heap.size [.int .i64 id, .string nm, .int .i64 ty, .int .i64 sv]) := Lib.hid (by
    rw [← hW0]; exact (CellsAt.new w 23 [.int .i64 id, .string nm, .int .i64 ty, .int .i64 sv]).below ((Below.refl _ _).alloc (Nat.le_refl _) _))
  have HB0 : Hid (Below w.heap.size w W0) := Lib.hid (by rw [← hW0]; exact ((Below.refl _ _).alloc (Nat.le_refl _) _).alloc (by simp) _)
  have HS0 : Hid (W0.heap.size = w.heap.size + 2) := Lib.hid (by rw [← hW0]; simp)
  have HMV : Hid (∀ aq a1 c1 v1, v1 = .slice a1 D.length c1 → Value.agg #[.int .i64 id, .int .i64 33152, .slice aq 1 1, v1, .slice none 0 0, .slice none 0 0] = msgV (forgeM ⟨id, nm, ty, sv⟩ D) aq a1 none none 1 c1 0 0) := Lib.hid (fun aq a1 c1 v1 e => by rw [e]; rfl)
  obtain ⟨N, hN⟩ : ∃ N, D.length = N := ⟨_, rfl⟩
  have HN := Lib.hid hN
  rw [hN] at HCR HMV ⊢
  clear hA hl hq hn hN
  go_enter Try.func24, Try.ntmps24
  go_upto_region 1 with fail
  try rw [hW0]
  clear hW0
  obtain ⟨G, hG⟩ : ∃ G, w.heap.size = G := ⟨_, rfl⟩
  have HG := Lib.hid hG
  rw [hG] at HZ0 HQ0 HS0
  try rw [hG]
  clear hG
  have hc1 := HQ0.out.cell 1 _ rfl
  have hc2 := HQ0.out.cell 2 _ rfl
  go_upto_region 2 with fail
  obtain ⟨W1, hW1⟩ : ∃ W1, W0.alloc (.cells #[.string nm, .int .i64 ty, .int .i64 1] 35) = W1 := ⟨_, rfl⟩
  have hb1 : Below W0.heap.size W0 W1.drew := by rw [← hW1]; exact ((Below.refl _ _).alloc (Nat.le_refl _) _).drew
  have HU : Hid (W1.drew.rangeAt W0.heap.size 0 (quL ⟨nm, ty, 1⟩)) := Lib.hid (by
    have := (CellsAt.new W0 35 (quL ⟨nm, ty, 1⟩)).range
    rw [show W0.alloc (.cells (quL ⟨nm, ty, 1⟩).toArray 35) = W1 from hW1] at this
    exact this)
  have HUL : Hid (W0.heap.size < W1.drew.heap.size) := Lib.hid (by show W0.heap.size < W1.heap.size; rw [← hW1]; simp)
  have HZ1 := Lib.hid (HZ0.out.below hb1)
  have HQ1 := Lib.hid (HQ0.out.below hb1)
  have HB1 := Lib.hid (chain HB0.out hb1)
  try rw [hW1]
  clear hW1 hb1 hc1 hc2 HZ0 HQ0 HB0
  obtain ⟨S, hS⟩ : ∃ S : World → Prop, (fun V => V.cell? ⟨G, 0, none⟩ = some (.int .i64 id) ∧ V.rangeAt W0.heap.size 0 (quL ⟨nm, ty, 1⟩)) = S := ⟨_, rfl⟩
  have C1 : Hid (∀ w', S w' → w'.cell? ⟨G, 0, none⟩ = some (.int .i64 id)) := Lib.hid (fun w' h => by rw [← hS] at h; exact h.1)
  have C2 : Hid (∀ w', S w' → w'.rangeAt W0.heap.size 0 (quL ⟨nm, ty, 1⟩)) := Lib.hid (fun w' h => by rw [← hS] at h; exact h.2)
  have HSI : Hid (∀ V, CellsAt V G [.int .i64 id, .string nm, .int .i64 ty, .int .i64 sv] → V.rangeAt W0.heap.size 0 (quL ⟨nm, ty, 1⟩) → S V) := Lib.hid (fun V h k => by rw [← hS]; exact ⟨h.cell 0 _ rfl, k⟩)
  clear hS
  refine wp_region_noPanic ?_
  refine wp_region_held_drew (S := S) (by kernel_rfl) (HSI.out _ HQ1.out HU.out) (fun hHeld => ?_)
  generalize W1.drew = V at *
  have FIN : Hid (∀ (tm : Array Value) (V5 U : World) (B2 B3 : Nat) (g : Nat) (v3 : Value), tm.getD 4 undef = .pointer (some ⟨G + 1, 0, none⟩) → RowQ V5 B2 (.slice (some ⟨g, 0, none⟩) 1 1) [⟨nm, ty, 1⟩] → RowR V5 B3 v3 D → G + 1 < B2 → G + 1 < B3 → Below w.heap.size w V5 → U = V5.setCells (G + 1) 0 [.int .i64 id, .int .i64 33152, .slice (some ⟨g, 0, none⟩) 1 1, v3, .slice none 0 0, .slice none 0 0] → CellsAt U (G + 1) [.int .i64 id, .int .i64 33152, .slice (some ⟨g, 0, none⟩) 1 1, v3, .slice none 0 0, .slice none 0 0] → bodyPost Try.prog Try.f24 (ForgeRet w ⟨id, nm, ty, sv⟩ D) .ret { tmps := tm, defers := [] } U) := Lib.hid (fun tm V5 U B2 B3 g v3 ht hq hr h2 h3 hb hU hc => by
    have hq2 : RowQ U B2 (.slice (some ⟨g, 0, none⟩) 1 1) [⟨nm, ty, 1⟩] := by rw [hU]; exact row_apart hq h2
    have hr2 : RowR U B3 v3 D := by rw [hU]; exact ⟨row_apart hr.1 h3, hr.2⟩
    obtain ⟨a1, c1, e1, m1⟩ := hr2.recs HFR.out
    obtain ⟨aq, cq, eq, mq⟩ := hq2.qus (fun x hx => by rw [List.mem_singleton.1 hx]; exact HF.out)
    have eq2 : aq = some ⟨g, 0, none⟩ ∧ cq = 1 := by injection eq with h1 h2 h3; exact ⟨h1.symm, h3.symm⟩
    obtain ⟨rfl, rfl⟩ := eq2
    rw [HN.out] at e1
    refine bodyPost_ret (v := msgV (forgeM ⟨id, nm, ty, sv⟩ D) (some ⟨g, 0, none⟩) a1 none none 1 c1 0 0) ?_ rfl ⟨?_, _, _, _, rfl, ?_⟩
    · rw [← HMV.out _ _ _ v3 e1]
      exact results_msg Try.results24 ht hc rfl
    · rw [hU]; exact below_cells (by have := HG.out; omega) _ _ _ hb
    · exact ⟨mq, m1, RecsAt.none0 _, RecsAt.none0 _⟩)
  refine wpAnyH_take (i := 0) (v := ?_) rfl (by kernel_rfl) (by kernel_rfl) (by kernel_rfl) (fun _ _ _ h => h) (Or.inl ⟨by rfl, ?_⟩) (by assumption) ?_
  rotate_left
  · (intro w hSw; go_simp; try (with_reducible rfl))
  try simp only [Act.put, List.getElem_toArray, List.getElem_cons_zero, List.setIfInBounds_toArray, List.set_cons_zero, List.set_cons_succ]
  refine wpAnyH_take (i := 1) (v := ?_) rfl (by kernel_rfl) (by kernel_rfl) (by kernel_rfl) (fun _ _ _ h => h) (Or.inl ⟨by rfl, ?_⟩) (by assumption) ?_
  rotate_left
  · (intro w hSw; have hc0 := C1.out w hSw; go_simp; try (with_reducible rfl))
  try simp only [Act.put, List.getElem_toArray, List.getElem_cons_zero, List.getElem_cons_succ, List.setIfInBounds_toArray, List.set_cons_zero, List.set_cons_succ]
  refine wpAnyH_take (i := 2) rfl (by kernel_rfl) (by kernel_rfl) (by kernel_rfl) (fun _ _ _ h => h) (yields_quM C2 (by rfl) _ rfl rfl) (by assumption) ?_
  try simp only [Act.put, List.getElem_toArray, List.getElem_cons_zero, List.getElem_cons_succ, List.setIfInBounds_toArray, List.set_cons_zero, List.set_cons_succ]
  refine wpAnyH_take (i := 4) (v := ?_) rfl (by kernel_rfl) (by kernel_rfl) (by kernel_rfl) (fun _ _ _ h => h) (Or.inl ⟨by rfl, ?_⟩) (by assumption) ?_
  rotate_left
  · (intro w hSw; go_simp; try (with_reducible rfl))
  try simp only [Act.put, List.getElem_toArray, List.getElem_cons_zero, List.getElem_cons_succ, List.setIfInBounds_toArray, List.set_cons_zero, List.set_cons_succ]
  refine wpAnyH_ready (rs := [3, 5]) (by kernel_rfl) (by simp) ?_
  refine AllReadyH.cons rfl (fun K hK => ?_) (ready_one rfl rfl (fun K hK => ?_))
  · rw [if_pos (by rfl)]
    refine wp_build_quM _ rfl rfl (fun W5 HW5 => ?_)
    have hb5 : Below V.heap.size V W5 := by rw [HW5.out]; exact (Below.refl _ _).alloc (Nat.le_refl _) _
    have HR5 : Hid (RowQ W5 V.heap.size (.slice (some ⟨V.heap.size, 0, none⟩) 1 1) [⟨nm, ty, 1⟩]) := Lib.hid (by rw [HW5.out]; exact ownQ_new V ⟨nm, ty, 1⟩)
    have HZ5 := Lib.hid (HZ1.out.below hb5)
    have HQ5 := Lib.hid (HQ1.out.below hb5)
    have HB5 := Lib.hid (chain HB1.out hb5)
    have HU5 : Hid (W5.rangeAt W0.heap.size 0 (quL ⟨nm, ty, 1⟩)) := Lib.hid (fun j u hu => (hb5.cell (p := ⟨W0.heap.size, 0 + j, none⟩) HUL.out).trans (HU.out j u hu))
    have HUL5 : Hid (W0.heap.size < W5.heap.size) := Lib.hid (Nat.lt_of_lt_of_le HUL.out hb5.size)
    refine hK.out _ _ (HSI.out _ HQ5.out HU5.out) (fun hHeld5 => ?_)
    clear hK K hb5 HW5
    try simp only [Act.put, List.getElem_toArray, List.getElem_cons_zero, List.getElem_cons_succ, List.setIfInBounds_toArray, List.set_cons_zero, List.set_cons_succ]
    refine wpAnyH_ready (rs := [5]) (by kernel_rfl) (by simp) ?_
    refine ready_one rfl rfl (fun K hK => ?_)
    go_simp
    refine (HCR _ HB5.out).out.mono ?_
    rintro e w6 ⟨v6, rfl, hr6, hb6⟩
    obtain ⟨x6, y6, rfl⟩ := own_slice (show w6.ownsRow _ _ _ v6 _ _ from hr6.1)
    have HR6 := Lib.hid hr6
    have HR7 := Lib.hid (HR5.out.below hb6)
    have HZ6 := Lib.hid (HZ5.out.below hb6)
    have HQ6 := Lib.hid (HQ5.out.below hb6)
    have HB6 := Lib.hid (chain HB5.out hb6)
    have HU6 : Hid (w6.rangeAt W0.heap.size 0 (quL ⟨nm, ty, 1⟩)) := Lib.hid (fun j u hu => (hb6.cell (p := ⟨W0.heap.size, 0 + j, none⟩) HUL5.out).trans (HU5.out j u hu))
    clear hr6 hb6 HCR
    go_wp2_with fail
    refine hK.out _ _ (HSI.out _ HQ6.out HU6.out) (fun hHeld6 => ?_)
    clear hK K
    try simp only [Act.put, List.getElem_toArray, List.getElem_cons_zero, List.getElem_cons_succ, List.setIfInBounds_toArray, List.set_cons_zero, List.set_cons_succ]
    refine wpAnyH_take (i := 6) (v := ?_) rfl (by kernel_rfl) (by kernel_rfl) (by kernel_rfl) (fun _ _ _ h => h) (Or.inl ⟨by rfl, ?_⟩) (by assumption) ?_
    rotate_left
    · (intro w hSw; go_simp; try (with_reducible rfl))
    try simp only [Act.put, List.getElem_toArray, List.getElem_cons_zero, List.getElem_cons_succ, List.setIfInBounds_toArray, List.set_cons_zero, List.set_cons_succ]
    refine wpAnyH_ready (rs := [7]) (by kernel_rfl) (by simp) ?_
    refine ready_one rfl rfl (fun K hK => ?_)
    refine wp_store_msg HZ6 rfl _ _ rfl rfl rfl rfl rfl (fun U HU HUC => ?_)
    have hs := HS0.out
    refine hK.out _ _ (HSI.out _ (by rw [HU.out]; exact HQ6.out.apart (by omega) _) (by rw [HU.out]; exact World.rangeAt_setCells_apart HU6.out _ _ _ (.inl (by omega)))) (fun hHeld7 => ?_)
    clear hK K
    try simp only [Act.put, List.getElem_toArray, List.getElem_cons_zero, List.getElem_cons_succ, List.setIfInBounds_toArray, List.set_cons_zero, List.set_cons_succ]
    refine wpAnyH_done (by kernel_rfl) ?_ _
    refine NoPanic.normal ?_
    clear hHeld hHeld5 hHeld6 hHeld7 C1 C2
    go_wp2_with fail
    exact FIN.out _ w6 U V.heap.size W5.heap.size V.heap.size _ rfl HR7.out HR6.out (by have := HUL.out; omega) (by have := HUL5.out; omega) HB6.out HU.out HUC.out
  · go_simp
    refine (HCR _ HB1.out).out.mono ?_
    rintro e w6 ⟨v6, rfl, hr6, hb6⟩
    obtain ⟨x6, y6, rfl⟩ := own_slice (show w6.ownsRow _ _ _ v6 _ _ from hr6.1)
    have HR6 := Lib.hid hr6
    have HZ6 := Lib.hid (HZ1.out.below hb6)
    have HQ6 := Lib.hid (HQ1.out.below hb6)
    have HB6 := Lib.hid (chain HB1.out hb6)
    have HU6 : Hid (w6.rangeAt W0.heap.size 0 (quL ⟨nm, ty, 1⟩)) := Lib.hid (fun j u hu => (hb6.cell (p := ⟨W0.heap.size, 0 + j, none⟩) HUL.out).trans (HU.out j u hu))
    have HUL6 : Hid (W0.heap.size < w6.heap.size) := Lib.hid (Nat.lt_of_lt_of_le HUL.out hb6.size)
    clear hr6 hb6 HCR
    go_wp2_with fail
    refine hK.out _ _ (HSI.out _ HQ6.out HU6.out) (fun hHeld6 => ?_)
    clear hK K
    try simp only [Act.put, List.getElem_toArray, List.getElem_cons_zero, List.getElem_cons_succ, List.setIfInBounds_toArray, List.set_cons_zero, List.set_cons_succ]
    refine wpAnyH_ready (rs := [3]) (by kernel_rfl) (by simp) ?_
    refine ready_one rfl rfl (fun K hK => ?_)
    refine wp_build_quM _ rfl rfl (fun W5 HW5 => ?_)
    have hb5 : Below w6.heap.size w6 W5 := by rw [HW5.out]; exact (Below.refl _ _).alloc (Nat.le_refl _) _
    have HR5 : Hid (RowQ W5 w6.heap.size (.slice (some ⟨w6.heap.size, 0, none⟩) 1 1) [⟨nm, ty, 1⟩]) := Lib.hid (by rw [HW5.out]; exact ownQ_new w6 ⟨nm, ty, 1⟩)
    have HR7 := Lib.hid (HR6.out.below hb5)
    have HZ5 := Lib.hid (HZ6.out.below hb5)
    have HQ5 := Lib.hid (HQ6.out.below hb5)
    have HB5 := Lib.hid (chain HB6.out hb5)
    have HU5 : Hid (W5.rangeAt W0.heap.size 0 (quL ⟨nm, ty, 1⟩)) := Lib.hid (fun j u hu => (hb5.cell (p := ⟨W0.heap.size, 0 + j, none⟩) HUL6.out).trans (HU6.out j u hu))
    refine hK.out _ _ (HSI.out _ HQ5.out HU5.out) (fun hHeld5 => ?_)
    clear hK K hb5 HW5
    try simp only [Act.put, List.getElem_toArray, List.getElem_cons_zero, List.getElem_cons_succ, List.setIfInBounds_toArray, List.set_cons_zero, List.set_cons_succ]
    refine wpAnyH_take (i := 6) (v := ?_) rfl (by kernel_rfl) (by kernel_rfl) (by kernel_rfl) (fun _ _ _ h => h) (Or.inl ⟨by rfl, ?_⟩) (by assumption) ?_
    rotate_left
    · (intro w hSw; go_simp; try (with_reducible rfl))
    try simp only [Act.put, List.getElem_toArray, List.getElem_cons_zero, List.getElem_cons_succ, List.setIfInBounds_toArray, List.set_cons_zero, List.set_cons_succ]
    refine wpAnyH_ready (rs := [7]) (by kernel_rfl) (by simp) ?_
    refine ready_one rfl rfl (fun K hK => ?_)
    refine wp_store_msg HZ5 rfl _ _ rfl rfl rfl rfl rfl (fun U HU HUC => ?_)
    have hs := HS0.out
    refine hK.out _ _ (HSI.out _ (by rw [HU.out]; exact HQ5.out.apart (by omega) _) (by rw [HU.out]; exact World.rangeAt_setCells_apart HU5.out _ _ _ (.inl (by omega)))) (fun hHeld7 => ?_)
    clear hK K
    try simp only [Act.put, List.getElem_toArray, List.getElem_cons_zero, List.getElem_cons_succ, List.setIfInBounds_toArray, List.set_cons_zero, List.set_cons_succ]
    refine wpAnyH_done (by kernel_rfl) ?_ _
    refine NoPanic.normal ?_
    clear hHeld hHeld5 hHeld6 hHeld7 C1 C2
    go_wp2_with fail
    exact FIN.out _ W5 U w6.heap.size V.heap.size w6.heap.size _ rfl HR5.out HR7.out (by have := HUL6.out; omega) (by have := HUL.out; omega) HB5.out HU.out HUC.out
end Go.Proofs.Ytmecdhlehekdeaa
/- The landed match: Answers. -/
namespace Go.Proofs.Ytmecdhlehekdeaa
open Go.RowKit
set_option linter.unusedVariables false
set_option maxRecDepth 20000
set_option linter.unusedSimpArgs false

set_option maxRecDepth 100000 in
set_option maxHeartbeats 2000000 in
theorem answers11_any (q : Qry) (sv : Int) (m : Msg) (aq a1 a2 a3 : Option Addr) (cq c1 c2 c3 : Nat) (w : World) (hM : QusAt w aq cq m.qs) (hn : q.nm.size ≤ 2000000) (hq : ∀ a ∈ m.qs, a.name.size ≤ 2000000) :
    Calls Try.prog 10 #[qryV q, .int .i64 sv, msgV m aq a1 a2 a3 cq c1 c2 c3] w fun e w' => e = .returned (.bool (ansP q sv m)) ∧ Below w.heap.size w w' := by
  have h1 := ansP_1 (q := q) (sv := sv) (m := m)
  have h2 := ansP_2 (q := q) (sv := sv) (m := m)
  have h3 := ansP_3 (q := q) (sv := sv) (m := m)
  have h4 := ansP_4 (q := q) (sv := sv) (m := m)
  have h5 := fun a => ansP_5 (q := q) (sv := sv) (m := m) (a := a)
  have HM := Lib.hid hM
  have HWA := fun W => Lib.hid (whole_any m.fl W)
  have HQN := Lib.hid hq
  have HQ1 := Lib.hid hn
  obtain ⟨fo, hfo⟩ : ∃ b, flagOk m.fl = b := ⟨_, rfl⟩
  rw [hfo] at h4
  simp only [hfo] at h5 HWA
  clear hfo hM hq hn
  obtain ⟨R, hR⟩ : ∃ R, ansP q sv m = R := ⟨_, rfl⟩
  rw [hR] at h1 h2 h3 h4 ⊢
  have h5' := fun a (e1 : q.sv = sv) e2 e3 e4 => (hR.symm.trans (h5 a e1 e2 e3 e4))
  clear h5 hR
  obtain ⟨qid, qnm, qty, qsv⟩ := q
  unfold qryV msgV
  simp only at h1 h2 h3 h4 h5' HQ1 ⊢
  obtain ⟨W0, hW0⟩ : ∃ W0, (w.alloc (.cells #[.int .i64 qid, .string qnm, .int .i64 qty, .int .i64 qsv] 23)).alloc (.cells #[.int .i64 m.id, .int .i64 m.fl, .slice aq m.qs.length cq, .slice a1 m.an.length c1, .slice a2 m.au.length c2, .slice a3 m.mo.length c3] 27) = W0 := ⟨_, rfl⟩
  have HX : Hid (CellsAt W0 (w.heap.size + 1) [.int .i64 m.id, .int .i64 m.fl, .slice aq m.qs.length cq, .slice a1 m.an.length c1, .slice a2 m.au.length c2, .slice a3 m.mo.length c3]) := Lib.hid (by
    have := CellsAt.new (w.alloc (.cells #[.int .i64 qid, .string qnm, .int .i64 qty, .int .i64 qsv] 23)) 27 [.int .i64 m.id, .int .i64 m.fl, .slice aq m.qs.length cq, .slice a1 m.an.length c1, .slice a2 m.au.length c2, .slice a3 m.mo.length c3]
    rw [← hW0]; simpa using this)
  have HQ : Hid (CellsAt W0 w.heap.size [.int .i64 qid, .string qnm, .int .i64 qty, .int .i64 qsv]) := Lib.hid (by
    rw [← hW0]; exact (CellsAt.new w 23 [.int .i64 qid, .string qnm, .int .i64 qty, .int .i64 qsv]).below ((Below.refl _ _).alloc (Nat.le_refl _) _))
  have HB0 : Hid (Below w.heap.size w W0) := Lib.hid (by rw [← hW0]; exact ((Below.refl _ _).alloc (Nat.le_refl _) _).alloc (by simp) _)
  have HS0 : Hid (W0.heap.size = w.heap.size + 2) := Lib.hid (by rw [← hW0]; simp)
  have HQL : Hid (∀ n, m.qs.length = n → n ≠ 1 → R = false) := Lib.hid (fun n e h => h3 (by rw [e]; exact h))
  obtain ⟨N, hN⟩ : ∃ N, m.qs.length = N := ⟨_, rfl⟩
  have HN := Lib.hid hN
  rw [hN] at HX hW0 h3 ⊢
  generalize m.an.length = n1 at *
  generalize m.au.length = n2 at *
  generalize m.mo.length = n3 at *
  have H4 := Lib.hid h4
  have H5 := Lib.hid h5'
  generalize m.id = mid at *
  generalize m.fl = mfl at *
  clear hN h4 h5' HQL
  go_enter Try.func10, Try.ntmps10
  go_upto_region 1 with fail
  try rw [hW0]
  clear hW0
  obtain ⟨G, hG⟩ : ∃ G, w.heap.size = G := ⟨_, rfl⟩
  have HG := Lib.hid hG
  rw [hG] at HX HQ
  try rw [hG]
  clear hG
  have q0 := HQ.out.cell 0 _ rfl
  have q1 := HQ.out.cell 1 _ rfl
  have q2 := HQ.out.cell 2 _ rfl
  have q3 := HQ.out.cell 3 _ rfl
  have x0 := HX.out.cell 0 _ rfl
  have x1 := HX.out.cell 1 _ rfl
  have x2 := HX.out.cell 2 _ rfl
  by_cases e1 : qsv = sv
  · have d1 : (sv != qsv) = false := by simp [e1]
    have H1 := Lib.hid e1
    by_cases e2 : qid = mid
    · have d2 : (mid != qid) = false := by simp [e2]
      have H2 := Lib.hid e2
      cases fo with
      | false =>
        have ER := H4.out rfl
        clear e1 e2 h1 h2 h3 H4 H5
        subst ER
        go_wp2_with fail
        refine (HWA _).out.mono ?_
        rintro e wq ⟨rfl, hwq⟩
        obtain rfl : W0 = wq := hwq.symm
        go_wp2_with fail
        go_ret
        exact ⟨rfl, HB0.out⟩
      | true =>
        by_cases e3 : N = 1
        · have d3 : ((N : Int) != 1) = false := by simp [e3]
          have d4 : (N != 1) = false := by simp [e3]
          clear e1 e2 h1 h2 h3
          subst e3
          obtain ⟨u, hu⟩ := len_one HN.out
          have HU := Lib.hid hu
          obtain ⟨g, o, rfl, hg, y0, y1, y2⟩ := (HM.out.below HB0.out).at 0 (by rw [hu]; exact Nat.zero_lt_one)
          simp only [hu, List.getElem_cons_zero, Nat.zero_mul, Nat.add_zero] at y0 y1 y2
          have HLK := fun W => Lib.hid (like_any u.name qnm W (HQN.out u (by rw [hu]; simp)) HQ1.out)
          obtain ⟨un, uy, uc⟩ := u
          simp only at y0 y1 y2 HLK
          have HRA : Hid (R = (likeB un qnm && (decide (uy = qty) && decide (uc = 1)))) := Lib.hid (H5.out ⟨un, uy, uc⟩ H1.out H2.out HU.out rfl)
          clear hu H4 H5
          go_wp2_with fail
          refine (HWA _).out.mono ?_
          rintro e wq ⟨rfl, hwq⟩
          obtain rfl : W0 = wq := hwq.symm
          clear HWA hwq
          go_upto_region 4 with fail
          obtain ⟨W1, hW1⟩ : ∃ W1, W0.alloc (.cells #[.string un, .int .i64 uy, .int .i64 uc] 35) = W1 := ⟨_, rfl⟩
          have HU1 : Hid (CellsAt W1 W0.heap.size [.string un, .int .i64 uy, .int .i64 uc]) := Lib.hid (by rw [← hW1]; exact qu_boxed _ _ _ _ _)
          have HB1 : Hid (Below W0.heap.size W0 W1) := Lib.hid (by rw [← hW1]; exact (Below.refl _ _).alloc (Nat.le_refl _) _)
          try rw [hW1]
          clear hW1
          have HX1 := Lib.hid (HX.out.below HB1.out)
          have HQ2 := Lib.hid (HQ.out.below HB1.out)
          have HBB := Lib.hid (chain HB0.out HB1.out)
          have hs0 := HS0.out
          rw [HG.out] at hs0
          rw [hs0] at HU1
          try rw [hs0]
          clear q0 q1 q2 q3 x0 x1 x2 y0 y1 y2 hs0 HX HQ hg HB0 HB1
          have q1 := HQ2.out.cell 1 _ rfl
          have u0 := HU1.out.cell 0 _ rfl
          generalize likeB un qnm = lk at *
          go_wp2_with fail
          refine (HLK _).out.mono ?_
          rintro e w2 ⟨rfl, qq, hq2⟩
          have hb : Below W1.heap.size W1 w2 := by rw [hq2]; exact belowN (Below.refl _ _) _
          have HU2 := Lib.hid (HU1.out.below hb)
          have HQ3 := Lib.hid (HQ2.out.below hb)
          have HB2 := Lib.hid (chain HBB.out hb)
          clear hb HU1 HQ2 HX1 HBB q1 u0 hq2
          have q2 := HQ3.out.cell 2 _ rfl
          have u1 := HU2.out.cell 1 _ rfl
          have u2 := HU2.out.cell 2 _ rfl
          by_cases g1 : uy = qty
          all_goals by_cases g2 : uc = 1
          all_goals cases lk
          all_goals
            have ER := HRA.out
            simp only [g1, g2, decide_true, decide_false, Bool.and_true, Bool.and_false, Bool.true_and, Bool.false_and] at ER
            clear HRA
            subst ER
            have k1 : (uy == qty) = decide (uy = qty) := rfl
            have k2 : (uc == 1) = decide (uc = 1) := rfl
            simp only [g1, g2, decide_true, decide_false] at k1 k2
            go_wp2_with fail
            go_ret
            exact ⟨rfl, HB2.out⟩
        · have d3 : ((N : Int) != 1) = true := by simp; omega
          have d4 : (N != 1) = true := by simp; omega
          have ER := h3 e3
          clear e1 e2 e3 h1 h2 h3 H4 H5
          subst ER
          go_wp2_with fail
          refine (HWA _).out.mono ?_
          rintro e wq ⟨rfl, hwq⟩
          obtain rfl : W0 = wq := hwq.symm
          go_wp2_with fail
          go_ret
          exact ⟨rfl, HB0.out⟩
    · have d2 : (mid != qid) = true := by simp; exact fun h => e2 h.symm
      have ER := h2 e2
      clear e1 e2 h1 h2 h3
      subst ER
      go_wp2_with fail
      go_ret
      exact ⟨rfl, HB0.out⟩
  · have d1 : (sv != qsv) = true := by simp; exact fun h => e1 h.symm
    have ER := h1 e1
    clear e1 h1 h2 h3
    subst ER
    go_wp2_with fail
    go_ret
    exact ⟨rfl, HB0.out⟩
end Go.Proofs.Ytmecdhlehekdeaa
/- The laws' helpers of layer 11: few, same, lives. -/
namespace Go.Proofs.Ytmecdhlehekdeaa
open Go.RowKit
set_option linter.unusedVariables false
set_option maxRecDepth 20000
set_option linter.unusedSimpArgs false

theorem some_of_recsM {w : World} {a : Option Addr} {c n : Nat} {D : List Rec} (h : RecsAt w a c D) (hn : D.length = n) (h3 : 0 < n) : ∃ g o, a = some ⟨g, o, none⟩ := by
  rcases h.2.2.2 with e | ⟨g, o, e, _⟩
  · omega
  · exact ⟨g, o, e⟩
set_option maxRecDepth 100000 in
theorem few11_any (a : Option Addr) (c : Nat) (D : List Rec) (most : Nat) (w : World) (hA : RecsAt w a c D) (hm : most ≤ 1000) :
    Calls Try.prog 16 #[.slice a D.length c, .int .i64 (most : Int)] w fun e w' => e = .returned (.slice a (D.take most).length c) ∧ w' = w := by
  have h1 := hA.1
  have h2 := hA.2.1
  have HS := fun h => some_of_recsM (n := D.length) hA rfl h
  have hl : (D.take most).length = min most D.length := List.length_take
  rw [hl]
  generalize D.length = n at *
  clear hA hl
  unfold maxLen at h2
  by_cases hn : most < n
  · obtain ⟨g, o, rfl⟩ := HS (by omega)
    have hd : decide ((most : Int) < (n : Int)) = true := decide_eq_true (by omega)
    have hd2 : decide (most < n) = true := decide_eq_true hn
    rw [show min most n = most by omega]
    go_enter Try.func16, Try.ntmps16
    go_wp2_with fail
    go_ret
    exact ⟨rfl, rfl⟩
  · have hd : decide ((most : Int) < (n : Int)) = false := decide_eq_false (by omega)
    have hd2 : decide (most < n) = false := decide_eq_false hn
    rw [show min most n = n by omega]
    go_enter Try.func16, Try.ntmps16
    go_wp2_with fail
    go_ret
    exact ⟨rfl, rfl⟩
set_option maxRecDepth 100000 in
set_option maxHeartbeats 2000000 in
theorem same11_any (x : Tld) (v1 v2 : Value) (B1 B2 : Nat) (w : World) (h1 : RowA w B1 v1 x.ad) (h2 : RowA w B2 v2 x.ad) :
    Calls Try.prog 17 #[.agg (tldL x v1).toArray, .agg (tldL x v2).toArray] w fun e w' => e = .returned (.bool true) ∧ Below w.heap.size w w' := by
  obtain ⟨a1, c1, rfl, m1⟩ := h1.ads
  obtain ⟨a2, c2, rfl, m2⟩ := h2.ads
  have hl : x.ad.length ≤ 1000 := h1.2.2
  have HSA := fun V (h : Below w.heap.size w V) => Lib.hid (sameAdsC_any a1 a2 c1 c2 x.ad x.ad V (m1.1.below h) (m2.1.below h) (by omega) (by omega))
  simp only [decide_true] at HSA
  obtain ⟨e, ad, ttl, nx, st⟩ := x
  simp only [tldL, List.toArray] at HSA ⊢
  generalize ad.length = n at *
  clear h1 h2 m1 m2 hl
  obtain ⟨W0, hW0⟩ : ∃ W0, (w.alloc (.cells #[.int .i64 e, .slice a1 n c1, .int .i64 ttl, .string nx, .int .i64 (st : Int)] 43)).alloc (.cells #[.int .i64 e, .slice a2 n c2, .int .i64 ttl, .string nx, .int .i64 (st : Int)] 45) = W0 := ⟨_, rfl⟩
  have HB0 : Hid (Below w.heap.size w W0) := Lib.hid (by rw [← hW0]; exact ((Below.refl _ _).alloc (Nat.le_refl _) _).alloc (by simp) _)
  have H1 : Hid (CellsAt W0 w.heap.size [.int .i64 e, .slice a1 n c1, .int .i64 ttl, .string nx, .int .i64 (st : Int)]) := Lib.hid (by
    rw [← hW0]; exact (CellsAt.new w 43 [.int .i64 e, .slice a1 n c1, .int .i64 ttl, .string nx, .int .i64 (st : Int)]).below ((Below.refl _ _).alloc (Nat.le_refl _) _))
  have H2 : Hid (CellsAt W0 (w.heap.size + 1) [.int .i64 e, .slice a2 n c2, .int .i64 ttl, .string nx, .int .i64 (st : Int)]) := Lib.hid (by
    have := CellsAt.new (w.alloc (.cells #[.int .i64 e, .slice a1 n c1, .int .i64 ttl, .string nx, .int .i64 (st : Int)] 43)) 45 [.int .i64 e, .slice a2 n c2, .int .i64 ttl, .string nx, .int .i64 (st : Int)]
    rw [← hW0]; simpa using this)
  have HS := HSA W0 HB0.out
  go_enter Try.func17, Try.ntmps17
  go_upto_region 1 with fail
  try rw [hW0]
  clear hW0
  have x0 := H1.out.cell 0 _ rfl
  have x1 := H1.out.cell 1 _ rfl
  have y0 := H2.out.cell 0 _ rfl
  have y1 := H2.out.cell 1 _ rfl
  go_wp2_with fail
  refine HS.out.mono ?_
  rintro e2 w2 ⟨rfl, hb⟩
  have H3 := Lib.hid (H1.out.below hb)
  have H4 := Lib.hid (H2.out.below hb)
  have HB2 := Lib.hid (chain HB0.out hb)
  clear hb x0 x1 y0 y1 HS
  have x2 := H3.out.cell 2 _ rfl
  have x3 := H3.out.cell 3 _ rfl
  have x4 := H3.out.cell 4 _ rfl
  have y2 := H4.out.cell 2 _ rfl
  have y3 := H4.out.cell 3 _ rfl
  have y4 := H4.out.cell 4 _ rfl
  go_wp2_with fail
  go_ret
  exact ⟨rfl, HB2.out⟩
end Go.Proofs.Ytmecdhlehekdeaa
/- lives of layer 11 (walks/MatLives.py prints this text). -/
namespace Go.Proofs.Ytmecdhlehekdeaa
open Go.RowKit
set_option linter.unusedVariables false
set_option maxRecDepth 20000
set_option linter.unusedSimpArgs false

theorem yields_build {ops : Array Oper} {S : World → Prop} {op : Oper} {a : Act} {t : TypeId} {parts : Array (Nat × Operand)} {vals : List (Nat × Value)} {cs : Array Value} (hw : Region.wanted op (yielded ops a.tmps) = true) (ho : op.op = .build t parts) (hb : Try.prog.built t vals = some cs) (hv : (parts.map fun (i, x) => (i, a.eval x)).toList = vals) : YieldsIf Try.prog ops S op (.agg cs) a := by
  refine .inl ⟨hw, fun w _ => ?_⟩
  unfold execOp
  rw [← hv] at hb
  simp only [ho, Sem.run_bind, run_build w t _ cs hb, Result.andThen_ok]
  rfl
theorem yields_row {ops : Array Oper} {S : World → Prop} {op : Oper} {a : Act} {G o : Nat} {t : TypeId} {d : TypeDesc} {vs : List Value} (hS : Hid (∀ w, S w → w.rangeAt G o vs)) (hu : Try.prog.underlying t = some d) (hd : d.isRow = true) (hi : (Try.prog.info? t).map (·.size) = some vs.length) (hw : Region.wanted op (yielded ops a.tmps) = true) (x : Operand) (ho : op.op = .load t x) (hx : a.eval x = .pointer (some ⟨G, o, none⟩)) : YieldsIf Try.prog ops S op (.agg vs.toArray) a :=
  yieldsIf_load_mid hw t x ho G o hx vs _ (fun w h => hS.out w h) hu hd hi
theorem wp_store_of {op : Oper} {a : Act} {w : World} {K : Act → World → Prop} {Q : Exit → Act → World → Prop} {G : Nat} {us vs : List Value} {t : TypeId} {n : Nat} (hA : Hid (CellsAt w G us)) (hu : us.length = n) (hi : (Try.prog.info? t).map (·.size) = some n) (x y : Operand) (ho : op.op = .store t x y)
    (hx : a.eval x = .pointer (some ⟨G, 0, none⟩)) (hy : a.eval y = .agg vs.toArray) (hl : vs.length = n) (h1 : vs.all (fun u => u.oneCell') = true) (hg : op.guard = none) (h : ∀ W, Hid (W = w.setCells G 0 vs) → Hid (CellsAt W G vs) → K (a.put op.dst undef) W) : op.wp Try.prog a w K Q :=
  wp_store_mid t x y ho G 0 vs.toArray hx hy (by rw [List.size_toArray, hl, ← hu]; exact hA.out.there) (by rw [hi, List.size_toArray, hl]) (all_oneCell_toArray (List.all_eq_true.1 h1)) (h _ (Lib.hid rfl) (Lib.hid (hA.out.stored vs (hl.trans hu.symm))))
def livesA : Ad := (4, [1, 2, 3, 4, 0, 0, 0, 0, 0, 0, 0, 0, 0, 0, 0, 0])
def livesQ : Qry := ⟨1, ⟨#[97]⟩, 1, 0⟩
def livesR : Rec := ⟨⟨#[97]⟩, 5, 1, 9, 0, List.replicate 16 0, ⟨#[98]⟩, ⟨#[]⟩⟩
def livesS : Rec := ⟨⟨#[98]⟩, 1, 1, 60, 4, [1, 2, 3, 4, 0, 0, 0, 0, 0, 0, 0, 0, 0, 0, 0, 0], ⟨#[]⟩, ⟨#[]⟩⟩
def livesD : List Rec := [livesR, livesS]
def livesX : Tld := ⟨0, [livesA], 9, ⟨#[]⟩, 1⟩
theorem lives_all : All2 livesD := by
  intro r hr
  simp only [livesD, List.mem_cons, List.not_mem_nil, or_false] at hr
  rcases hr with rfl | rfl
  · exact ⟨by decide, by decide⟩
  · exact ⟨by decide, by decide⟩
theorem lives_told : tellP 33152 ⟨#[97]⟩ 1 livesD = livesX := by kernel_rfl
theorem lives_fit : ∀ r ∈ livesD, Fit r := by
  intro r hr
  simp only [livesD, List.mem_cons, List.not_mem_nil, or_false] at hr
  rcases hr with rfl | rfl
  · exact ⟨rfl, by decide, by decide, by decide, by decide, by decide, by decide, by decide, by decide⟩
  · exact ⟨rfl, by decide, by decide, by decide, by decide, by decide, by decide, by decide, by decide⟩
theorem lives_fill : Instr.fill (fun i => some (i * 23, 23)) ((Array.range (2 * 23)).map fun j => zC[j % zC.size]!) [(0, recV livesR), (1, recV livesS)] = some (flatR livesD).toArray := by kernel_rfl
theorem run_buildR2 (w : World) : (Instr.buildSlice 25 2 #[(0, recV livesR), (1, recV livesS)]).run Try.prog w = .ok (.slice (some ⟨w.heap.size, 0, none⟩) 2 2) (w.alloc (.cells (flatR livesD).toArray 57)) := by
  obtain ⟨i0, hi0, hz0, hz1, hz2⟩ := info_parts infoR
  have hf := lives_fill
  obtain ⟨Z, hZ⟩ : ∃ Z : Array Value, zC = Z := ⟨_, rfl⟩
  rw [hZ] at hf hz0
  have hsz : (sizeOf 57).run Try.prog w = .ok 23 w := by simp [sizeOf, typeInfo, hi0, hz1]
  have hzv : (zeroValue 57).run Try.prog w = .ok (.agg Z) w := by simp [zeroValue, typeInfo, hi0, hz0]
  have hnr : ∀ cs : Array Value, (newRow 57 cs).run Try.prog w = .ok ⟨w.heap.size, 0, none⟩ (w.alloc (.cells cs 57)) := fun cs => by simp [newRow]
  have hu : (underlying 25).run Try.prog w = .ok _ w := run_underlying Try.underlying25 w
  have hfc : Instr.fill (fun i => some (i * 23, 23)) ((Array.range (2 * 23)).map fun j => (Value.agg Z).cells[j % (Value.agg Z).cells.size]!) (#[(0, recV livesR), (1, recV livesS)] : Array (Nat × Value)).toList = some (flatR livesD).toArray := hf
  unfold Instr.buildSlice
  simp only [Sem.run_bind, hu, Result.andThen_ok, hsz, if_neg (show ¬ (2 * 23 > 2 ^ 24) by decide), Sem.run_pure, if_neg (show ¬ (2 * 23 = 0) by decide), hzv, hfc, hnr]
theorem wp_build_recs2 {op : Oper} {a : Act} {w : World} {K : Act → World → Prop} {Q : Exit → Act → World → Prop} (x y : Operand) (ho : op.op = .buildSlice 25 2 #[(0, x), (1, y)])
    (hx : a.eval x = recV livesR) (hy : a.eval y = recV livesS) (h : ∀ W, Hid (W = w.alloc (.cells (flatR livesD).toArray 57)) → K (a.put op.dst (.slice (some ⟨w.heap.size, 0, none⟩) 2 2)) W) : op.wp Try.prog a w K Q := by
  unfold Oper.wp execOp
  simp only [ho, List.map_toArray, List.map_cons, List.map_nil, hx, hy, Sem.run_bind, run_buildR2 w, Result.andThen_ok]
  exact h _ (Lib.hid rfl)
theorem lives_recs (w : World) : RecsAt (w.alloc (.cells (flatR livesD).toArray 57)) (some ⟨w.heap.size, 0, none⟩) 2 livesD := by
  refine ⟨Nat.le_refl _, by decide, lives_fit, .inr ⟨w.heap.size, 0, rfl, by simp, ?_⟩⟩
  exact (CellsAt.new w 57 (flatR livesD)).range
set_option maxRecDepth 100000 in
set_option maxHeartbeats 8000000 in
theorem lives11_any (w : World) : Calls Try.prog 15 #[] w fun e w' => e = .returned (.bool true) ∧ Below w.heap.size w w' := by
  have BR : Try.prog.built 57 [(0, .string ⟨#[97]⟩), (1, .int .i64 5), (2, .int .i64 1), (3, .int .i64 9), (5, .string ⟨#[98]⟩)] = some (recL livesR).toArray := by kernel_rfl
  have BS : Try.prog.built 57 [(0, .string ⟨#[98]⟩), (1, .int .i64 1), (2, .int .i64 1), (3, .int .i64 60), (4, .agg (adL livesA).toArray)] = some (recL livesS).toArray := by kernel_rfl
  have hsT : (Try.prog.info? 43).map (·.size) = some 5 := by kernel_rfl
  go_enter Try.func15, Try.ntmps15
  go_upto_region 3 with fail
  obtain ⟨W0, hW0⟩ : ∃ W0, (w.alloc (.cells #[.int .i64 4, .int .u8 1, .int .u8 2, .int .u8 3, .int .u8 4, .int .u8 0, .int .u8 0, .int .u8 0, .int .u8 0, .int .u8 0, .int .u8 0, .int .u8 0, .int .u8 0, .int .u8 0, .int .u8 0, .int .u8 0, .int .u8 0] 55)).alloc (.cells #[.int .i64 1, .string ⟨#[97]⟩, .int .i64 1, .int .i64 0] 23) = W0 := ⟨_, rfl⟩
  have HB0 : Hid (Below w.heap.size w W0.drew) := Lib.hid (by rw [← hW0]; exact (((Below.refl _ _).alloc (Nat.le_refl _) _).alloc (by simp) _).drew)
  have HAD : Hid (CellsAt W0.drew w.heap.size (adL livesA)) := Lib.hid (by
    have := ((CellsAt.new w 55 (adL livesA)).below ((Below.refl _ _).alloc (Nat.le_refl _) (.cells #[.int .i64 1, .string ⟨#[97]⟩, .int .i64 1, .int .i64 0] 23))).below (Below.refl _ _).drew
    rw [← hW0]; exact this)
  have HQ : Hid (CellsAt W0.drew (w.heap.size + 1) (qryL livesQ)) := Lib.hid (by
    have := CellsAt.new (w.alloc (.cells #[.int .i64 4, .int .u8 1, .int .u8 2, .int .u8 3, .int .u8 4, .int .u8 0, .int .u8 0, .int .u8 0, .int .u8 0, .int .u8 0, .int .u8 0, .int .u8 0, .int .u8 0, .int .u8 0, .int .u8 0, .int .u8 0, .int .u8 0] 55)) 23 (qryL livesQ)
    rw [World.size_alloc] at this
    have h2 := this.below (Below.refl _ _).drew
    rw [← hW0]; exact h2)
  try rw [hW0]
  clear hW0
  go_cut [3] from 4 (fun s3 wx => ∃ (B : Nat) (av : Option Addr) (cv : Nat), s3 = .pointer (some ⟨B, 0, none⟩) ∧ Hid (CellsAt wx B (tldL livesX (.slice av 1 cv))) ∧ Hid (RowA wx w.heap.size (.slice av 1 cv) livesX.ad) ∧ Hid (wx.rangeAt w.heap.size 0 (adL livesA)) ∧ Hid (Below w.heap.size w wx))
  case first =>
    obtain ⟨S, hS⟩ : ∃ S : World → Prop, (fun U => U.rangeAt (w.heap.size + 1) 0 (qryL livesQ) ∧ U.rangeAt w.heap.size 0 (adL livesA)) = S := ⟨_, rfl⟩
    have C1 : Hid (∀ w', S w' → w'.rangeAt (w.heap.size + 1) 0 (qryL livesQ)) := Lib.hid (fun w' h => by rw [← hS] at h; exact h.1)
    have C2 : Hid (∀ w', S w' → w'.rangeAt w.heap.size 0 (adL livesA)) := Lib.hid (fun w' h => by rw [← hS] at h; exact h.2)
    have HSI : Hid (∀ U, Below W0.drew.heap.size W0.drew U → S U) := Lib.hid (fun U h => by rw [← hS]; exact ⟨(HQ.out.below h).range, (HAD.out.below h).range⟩)
    have HSO : Hid (∀ U, Below W0.drew.heap.size W0.drew U → ∀ B, W0.drew.heap.size ≤ B → ∀ vs X, X = U.setCells B 0 vs → S X) := Lib.hid (fun U h B hB vs X e => by
      have h1 := HQ.out.lt
      have h2 := HAD.out.lt
      rw [← hS, e]
      exact ⟨((HQ.out.below h).apart (by omega) _).range, ((HAD.out.below h).apart (by omega) _).range⟩)
    clear hS
    refine wp_region_noPanic ?_
    refine wp_region_held_drew (S := S) (by kernel_rfl) (HSI.out _ (Below.refl _ _)) (fun hHeld => ?_)
    have HBV := HB0
    generalize W0.drew = V at *
    have HG0 : Hid (Below V.heap.size V V) := Lib.hid (Below.refl _ _)
    have hsQ : (Try.prog.info? 23).map (·.size) = some (qryL livesQ).length := by kernel_rfl
    have hsA : (Try.prog.info? 55).map (·.size) = some (adL livesA).length := by kernel_rfl
    refine wpAnyH_take (i := 0) rfl (by kernel_rfl) (by kernel_rfl) (by kernel_rfl) (fun _ _ _ h => h) (yields_row C1 Try.underlying23 rfl hsQ (by rfl) _ rfl rfl) (by assumption) ?_
    try simp only [Act.put, List.getElem_toArray, List.getElem_cons_zero, List.setIfInBounds_toArray, List.set_cons_zero, List.set_cons_succ]
    refine wpAnyH_take (i := 1) rfl (by kernel_rfl) (by kernel_rfl) (by kernel_rfl) (fun _ _ _ h => h) (yields_row C1 Try.underlying23 rfl hsQ (by rfl) _ rfl rfl) (by assumption) ?_
    try simp only [Act.put, List.getElem_toArray, List.getElem_cons_zero, List.getElem_cons_succ, List.setIfInBounds_toArray, List.set_cons_zero, List.set_cons_succ]
    refine wpAnyH_take (i := 2) rfl (by kernel_rfl) (by kernel_rfl) (by kernel_rfl) (fun _ _ _ h => h) (yields_build (by rfl) rfl BR (by simp only [List.map_toArray, List.map_cons, List.map_nil]; rfl)) (by assumption) ?_
    try simp only [Act.put, List.getElem_toArray, List.getElem_cons_zero, List.getElem_cons_succ, List.setIfInBounds_toArray, List.set_cons_zero, List.set_cons_succ]
    refine wpAnyH_take (i := 3) rfl (by kernel_rfl) (by kernel_rfl) (by kernel_rfl) (fun _ _ _ h => h) (yields_row C2 Try.underlying55 rfl hsA (by rfl) _ rfl rfl) (by assumption) ?_
    try simp only [Act.put, List.getElem_toArray, List.getElem_cons_zero, List.getElem_cons_succ, List.setIfInBounds_toArray, List.set_cons_zero, List.set_cons_succ]
    refine wpAnyH_take (i := 4) rfl (by kernel_rfl) (by kernel_rfl) (by kernel_rfl) (fun _ _ _ h => h) (yields_build (by rfl) rfl BS (by simp only [List.map_toArray, List.map_cons, List.map_nil]; rfl)) (by assumption) ?_
    try simp only [Act.put, List.getElem_toArray, List.getElem_cons_zero, List.getElem_cons_succ, List.setIfInBounds_toArray, List.set_cons_zero, List.set_cons_succ]
    clear BR BS hsQ hsA
    obtain ⟨U0, HG0, hU0⟩ : ∃ U0, Hid (Below V.heap.size V U0) ∧ V = U0 := ⟨V, HG0, rfl⟩
    rw [show wpAnyH Try.prog .any _ _ S _ _ _ V = wpAnyH Try.prog .any _ _ S _ _ _ U0 by rw [hU0]]
    clear hU0
    refine wpAnyH_ready (rs := [5, 8]) (by kernel_rfl) (by simp) ?_
    refine AllReadyH.cons rfl (fun K hK => ?_) (ready_one rfl rfl (fun K hK => ?_))
    · rw [if_pos (by rfl)]
      refine wp_build_recs2 _ _ rfl rfl rfl (fun U1 HU => ?_)
      have hb : Below U0.heap.size U0 U1 := by rw [HU.out]; exact (Below.refl _ _).alloc (Nat.le_refl _) _
      have HG1 : Hid (RecsAt U1 (some ⟨U0.heap.size, 0, none⟩) 2 livesD) := Lib.hid (by rw [HU.out]; exact lives_recs U0)
      clear HU
      obtain ⟨P, hP⟩ : ∃ P, U0.heap.size = P := ⟨_, rfl⟩
      rw [hP] at HG1
      try rw [hP]
      clear hP
      have HG0n := Lib.hid (chain HG0.out hb)
      clear HG0
      have HG0 := HG0n
      clear HG0n
      clear hb
      refine hK.out _ _ (HSI.out _ HG0.out) (fun hHeld1 => ?_)
      clear hK K
      try simp only [Act.put, List.getElem_toArray, List.getElem_cons_zero, List.getElem_cons_succ, List.setIfInBounds_toArray, List.set_cons_zero, List.set_cons_succ]
      refine wpAnyH_ready (rs := [6, 8]) (by kernel_rfl) (by simp) ?_
      refine AllReadyH.cons rfl (fun K hK => ?_) (ready_one rfl rfl (fun K hK => ?_))
      · rw [if_pos (by rfl)]
        have HF : Hid (Calls Try.prog 24 #[qryV livesQ, .slice (some ⟨P, 0, none⟩) 2 2] U1 (ForgeRet U1 livesQ livesD)) := Lib.hid (forge_any livesQ _ 2 livesD U1 HG1.out (by decide) (by decide) (by decide))
        go_simp
        refine HF.out.mono ?_
        rintro e U2 ⟨hb, aq, a1, c1, rfl, hm⟩
        have HG2 := Lib.hid hm.an
        clear hm HF
        go_wp2_with fail
        have HG0n := Lib.hid (chain HG0.out hb)
        clear HG0
        have HG0 := HG0n
        clear HG0n
        clear hb
        refine hK.out _ _ (HSI.out _ HG0.out) (fun hHeld2 => ?_)
        clear hK K
        try simp only [Act.put, List.getElem_toArray, List.getElem_cons_zero, List.getElem_cons_succ, List.setIfInBounds_toArray, List.set_cons_zero, List.set_cons_succ]
        refine wpAnyH_ready (rs := [7, 8]) (by kernel_rfl) (by simp) ?_
        refine AllReadyH.cons rfl (fun K hK => ?_) (ready_one rfl rfl (fun K hK => ?_))
        · rw [if_pos (by rfl)]
          have HF : Hid (Calls Try.prog 18 #[qryV livesQ, msgV (forgeM livesQ livesD) aq a1 none none 1 c1 0 0] U2 (TellRet U2 livesX)) := Lib.hid (by rw [← lives_told]; exact tell_any livesQ (forgeM livesQ livesD) aq a1 none none 1 c1 0 0 U2 HG2.out lives_all (by decide) (by decide))
          go_simp
          refine HF.out.mono ?_
          rintro e U3 ⟨v, rfl, hr, hb⟩
          obtain ⟨av, cv, rfl, _⟩ := hr.ads
          have HG3 : Hid (RowA U3 V.heap.size (.slice av 1 cv) livesX.ad) := Lib.hid (hr.mono HG0.out.size)
          clear hr HF
          go_wp2_with fail
          have HG0n := Lib.hid (chain HG0.out hb)
          clear HG0
          have HG0 := HG0n
          clear HG0n
          clear hb
          refine hK.out _ _ (HSI.out _ HG0.out) (fun hHeld3 => ?_)
          clear hK K
          try simp only [Act.put, List.getElem_toArray, List.getElem_cons_zero, List.getElem_cons_succ, List.setIfInBounds_toArray, List.set_cons_zero, List.set_cons_succ]
          refine wpAnyH_ready (rs := [8]) (by kernel_rfl) (by simp) ?_
          refine ready_one rfl rfl (fun K hK => ?_)
          go_wp2_with fail
          obtain ⟨U4, hU⟩ : ∃ X, U3.alloc (.cells #[.int .i64 0, .slice none 0 0, .int .i64 0, .string ⟨#[]⟩, .int .i64 0] 43) = X := ⟨_, rfl⟩
          have hb : Below U3.heap.size U3 U4 := by rw [← hU]; exact (Below.refl _ _).alloc (Nat.le_refl _) _
          have HZ : Hid (CellsAt U4 U3.heap.size zT) := Lib.hid (by rw [← hU]; exact CellsAt.new U3 43 zT)
          try rw [hU]
          clear hU
          obtain ⟨B, hB⟩ : ∃ B, U3.heap.size = B := ⟨_, rfl⟩
          have HBL : Hid (V.heap.size ≤ B) := Lib.hid (by rw [← hB]; exact HG0.out.size)
          have HNE : Hid (∀ g, (Value.slice av 1 cv).ownBlock = some g → g ≠ B) := Lib.hid (fun g hg => by rw [← hB]; exact Nat.ne_of_lt (HG3.out.lt g hg).2)
          rw [hB] at HZ
          try rw [hB]
          clear hB
          have HG0n := Lib.hid (chain HG0.out hb)
          clear HG0
          have HG0 := HG0n
          clear HG0n
          have HG3n := Lib.hid (HG3.out.below hb)
          clear HG3
          have HG3 := HG3n
          clear HG3n
          clear hb
          refine hK.out _ _ (HSI.out _ HG0.out) (fun hHeld4 => ?_)
          clear hK K
          try simp only [Act.put, List.getElem_toArray, List.getElem_cons_zero, List.getElem_cons_succ, List.setIfInBounds_toArray, List.set_cons_zero, List.set_cons_succ]
          refine wpAnyH_ready (rs := [9]) (by kernel_rfl) (by simp) ?_
          refine ready_one rfl rfl (fun K hK => ?_)
          refine wp_store_of HZ rfl hsT _ _ rfl rfl rfl (vs := tldL livesX (.slice av 1 cv)) rfl rfl rfl (fun X HX HXC => ?_)
          have HSX : Hid (S X) := Lib.hid (HSO.out _ HG0.out B HBL.out _ _ HX.out)
          refine hK.out _ _ HSX.out (fun hHeldX => ?_)
          clear hK K
          try simp only [Act.put, List.getElem_toArray, List.getElem_cons_zero, List.getElem_cons_succ, List.setIfInBounds_toArray, List.set_cons_zero, List.set_cons_succ]
          refine wpAnyH_done (by kernel_rfl) ?_ _
          refine NoPanic.normal ?_
          clear hHeld1 hHeld2 hHeld3 hHeld4
          go_wp2_with fail
          go_meet
          case rel => exact ⟨B, av, cv, rfl, Lib.hid HXC.out, Lib.hid ((HG3.out.kept2 (w' := X) (fun g hg => by rw [HX.out]; exact heap_setCells_other _ _ _ _ _ (HNE.out g hg))).mono HBV.out.size), Lib.hid (C2.out _ HSX.out), Lib.hid (by rw [HX.out]; exact below_cells (Nat.le_trans HBV.out.size HBL.out) _ _ _ (chain HBV.out HG0.out))⟩
        · go_wp2_with fail
          obtain ⟨U3, hU⟩ : ∃ X, U2.alloc (.cells #[.int .i64 0, .slice none 0 0, .int .i64 0, .string ⟨#[]⟩, .int .i64 0] 43) = X := ⟨_, rfl⟩
          have hb : Below U2.heap.size U2 U3 := by rw [← hU]; exact (Below.refl _ _).alloc (Nat.le_refl _) _
          have HZ : Hid (CellsAt U3 U2.heap.size zT) := Lib.hid (by rw [← hU]; exact CellsAt.new U2 43 zT)
          try rw [hU]
          clear hU
          obtain ⟨B, hB⟩ : ∃ B, U2.heap.size = B := ⟨_, rfl⟩
          have HBL : Hid (V.heap.size ≤ B) := Lib.hid (by rw [← hB]; exact HG0.out.size)
          rw [hB] at HZ
          try rw [hB]
          clear hB
          have HG0n := Lib.hid (chain HG0.out hb)
          clear HG0
          have HG0 := HG0n
          clear HG0n
          have HG2n := Lib.hid (HG2.out.below hb)
          clear HG2
          have HG2 := HG2n
          clear HG2n
          clear hb
          refine hK.out _ _ (HSI.out _ HG0.out) (fun hHeld3 => ?_)
          clear hK K
          try simp only [Act.put, List.getElem_toArray, List.getElem_cons_zero, List.getElem_cons_succ, List.setIfInBounds_toArray, List.set_cons_zero, List.set_cons_succ]
          refine wpAnyH_ready (rs := [7]) (by kernel_rfl) (by simp) ?_
          refine ready_one rfl rfl (fun K hK => ?_)
          have HF : Hid (Calls Try.prog 18 #[qryV livesQ, msgV (forgeM livesQ livesD) aq a1 none none 1 c1 0 0] U3 (TellRet U3 livesX)) := Lib.hid (by rw [← lives_told]; exact tell_any livesQ (forgeM livesQ livesD) aq a1 none none 1 c1 0 0 U3 HG2.out lives_all (by decide) (by decide))
          go_simp
          refine HF.out.mono ?_
          rintro e U4 ⟨v, rfl, hr, hb⟩
          obtain ⟨av, cv, rfl, _⟩ := hr.ads
          have HNE : Hid (∀ g, (Value.slice av 1 cv).ownBlock = some g → g ≠ B) := Lib.hid (fun g hg => by have h1 := (hr.lt g hg).1; have h2 := HZ.out.lt; omega)
          have HG3 : Hid (RowA U4 V.heap.size (.slice av 1 cv) livesX.ad) := Lib.hid (hr.mono HG0.out.size)
          clear hr HF
          go_wp2_with fail
          have HG0n := Lib.hid (chain HG0.out hb)
          clear HG0
          have HG0 := HG0n
          clear HG0n
          have HZn := Lib.hid (HZ.out.below hb)
          clear HZ
          have HZ := HZn
          clear HZn
          clear hb
          refine hK.out _ _ (HSI.out _ HG0.out) (fun hHeld4 => ?_)
          clear hK K
          try simp only [Act.put, List.getElem_toArray, List.getElem_cons_zero, List.getElem_cons_succ, List.setIfInBounds_toArray, List.set_cons_zero, List.set_cons_succ]
          refine wpAnyH_ready (rs := [9]) (by kernel_rfl) (by simp) ?_
          refine ready_one rfl rfl (fun K hK => ?_)
          refine wp_store_of HZ rfl hsT _ _ rfl rfl rfl (vs := tldL livesX (.slice av 1 cv)) rfl rfl rfl (fun X HX HXC => ?_)
          have HSX : Hid (S X) := Lib.hid (HSO.out _ HG0.out B HBL.out _ _ HX.out)
          refine hK.out _ _ HSX.out (fun hHeldX => ?_)
          clear hK K
          try simp only [Act.put, List.getElem_toArray, List.getElem_cons_zero, List.getElem_cons_succ, List.setIfInBounds_toArray, List.set_cons_zero, List.set_cons_succ]
          refine wpAnyH_done (by kernel_rfl) ?_ _
          refine NoPanic.normal ?_
          clear hHeld1 hHeld2 hHeld3 hHeld4
          go_wp2_with fail
          go_meet
          case rel => exact ⟨B, av, cv, rfl, Lib.hid HXC.out, Lib.hid ((HG3.out.kept2 (w' := X) (fun g hg => by rw [HX.out]; exact heap_setCells_other _ _ _ _ _ (HNE.out g hg))).mono HBV.out.size), Lib.hid (C2.out _ HSX.out), Lib.hid (by rw [HX.out]; exact below_cells (Nat.le_trans HBV.out.size HBL.out) _ _ _ (chain HBV.out HG0.out))⟩
      · go_wp2_with fail
        obtain ⟨U2, hU⟩ : ∃ X, U1.alloc (.cells #[.int .i64 0, .slice none 0 0, .int .i64 0, .string ⟨#[]⟩, .int .i64 0] 43) = X := ⟨_, rfl⟩
        have hb : Below U1.heap.size U1 U2 := by rw [← hU]; exact (Below.refl _ _).alloc (Nat.le_refl _) _
        have HZ : Hid (CellsAt U2 U1.heap.size zT) := Lib.hid (by rw [← hU]; exact CellsAt.new U1 43 zT)
        try rw [hU]
        clear hU
        obtain ⟨B, hB⟩ : ∃ B, U1.heap.size = B := ⟨_, rfl⟩
        have HBL : Hid (V.heap.size ≤ B) := Lib.hid (by rw [← hB]; exact HG0.out.size)
        rw [hB] at HZ
        try rw [hB]
        clear hB
        have HG0n := Lib.hid (chain HG0.out hb)
        clear HG0
        have HG0 := HG0n
        clear HG0n
        have HG1n := Lib.hid (HG1.out.below hb)
        clear HG1
        have HG1 := HG1n
        clear HG1n
        clear hb
        refine hK.out _ _ (HSI.out _ HG0.out) (fun hHeld2 => ?_)
        clear hK K
        try simp only [Act.put, List.getElem_toArray, List.getElem_cons_zero, List.getElem_cons_succ, List.setIfInBounds_toArray, List.set_cons_zero, List.set_cons_succ]
        refine wpAnyH_ready (rs := [6]) (by kernel_rfl) (by simp) ?_
        refine ready_one rfl rfl (fun K hK => ?_)
        have HF : Hid (Calls Try.prog 24 #[qryV livesQ, .slice (some ⟨P, 0, none⟩) 2 2] U2 (ForgeRet U2 livesQ livesD)) := Lib.hid (forge_any livesQ _ 2 livesD U2 HG1.out (by decide) (by decide) (by decide))
        go_simp
        refine HF.out.mono ?_
        rintro e U3 ⟨hb, aq, a1, c1, rfl, hm⟩
        have HG2 := Lib.hid hm.an
        clear hm HF
        go_wp2_with fail
        have HG0n := Lib.hid (chain HG0.out hb)
        clear HG0
        have HG0 := HG0n
        clear HG0n
        have HZn := Lib.hid (HZ.out.below hb)
        clear HZ
        have HZ := HZn
        clear HZn
        clear hb
        refine hK.out _ _ (HSI.out _ HG0.out) (fun hHeld3 => ?_)
        clear hK K
        try simp only [Act.put, List.getElem_toArray, List.getElem_cons_zero, List.getElem_cons_succ, List.setIfInBounds_toArray, List.set_cons_zero, List.set_cons_succ]
        refine wpAnyH_ready (rs := [7]) (by kernel_rfl) (by simp) ?_
        refine ready_one rfl rfl (fun K hK => ?_)
        have HF : Hid (Calls Try.prog 18 #[qryV livesQ, msgV (forgeM livesQ livesD) aq a1 none none 1 c1 0 0] U3 (TellRet U3 livesX)) := Lib.hid (by rw [← lives_told]; exact tell_any livesQ (forgeM livesQ livesD) aq a1 none none 1 c1 0 0 U3 HG2.out lives_all (by decide) (by decide))
        go_simp
        refine HF.out.mono ?_
        rintro e U4 ⟨v, rfl, hr, hb⟩
        obtain ⟨av, cv, rfl, _⟩ := hr.ads
        have HNE : Hid (∀ g, (Value.slice av 1 cv).ownBlock = some g → g ≠ B) := Lib.hid (fun g hg => by have h1 := (hr.lt g hg).1; have h2 := HZ.out.lt; omega)
        have HG3 : Hid (RowA U4 V.heap.size (.slice av 1 cv) livesX.ad) := Lib.hid (hr.mono HG0.out.size)
        clear hr HF
        go_wp2_with fail
        have HG0n := Lib.hid (chain HG0.out hb)
        clear HG0
        have HG0 := HG0n
        clear HG0n
        have HZn := Lib.hid (HZ.out.below hb)
        clear HZ
        have HZ := HZn
        clear HZn
        clear hb
        refine hK.out _ _ (HSI.out _ HG0.out) (fun hHeld4 => ?_)
        clear hK K
        try simp only [Act.put, List.getElem_toArray, List.getElem_cons_zero, List.getElem_cons_succ, List.setIfInBounds_toArray, List.set_cons_zero, List.set_cons_succ]
        refine wpAnyH_ready (rs := [9]) (by kernel_rfl) (by simp) ?_
        refine ready_one rfl rfl (fun K hK => ?_)
        refine wp_store_of HZ rfl hsT _ _ rfl rfl rfl (vs := tldL livesX (.slice av 1 cv)) rfl rfl rfl (fun X HX HXC => ?_)
        have HSX : Hid (S X) := Lib.hid (HSO.out _ HG0.out B HBL.out _ _ HX.out)
        refine hK.out _ _ HSX.out (fun hHeldX => ?_)
        clear hK K
        try simp only [Act.put, List.getElem_toArray, List.getElem_cons_zero, List.getElem_cons_succ, List.setIfInBounds_toArray, List.set_cons_zero, List.set_cons_succ]
        refine wpAnyH_done (by kernel_rfl) ?_ _
        refine NoPanic.normal ?_
        clear hHeld1 hHeld2 hHeld3 hHeld4
        go_wp2_with fail
        go_meet
        case rel => exact ⟨B, av, cv, rfl, Lib.hid HXC.out, Lib.hid ((HG3.out.kept2 (w' := X) (fun g hg => by rw [HX.out]; exact heap_setCells_other _ _ _ _ _ (HNE.out g hg))).mono HBV.out.size), Lib.hid (C2.out _ HSX.out), Lib.hid (by rw [HX.out]; exact below_cells (Nat.le_trans HBV.out.size HBL.out) _ _ _ (chain HBV.out HG0.out))⟩
    · go_wp2_with fail
      obtain ⟨U1, hU⟩ : ∃ X, U0.alloc (.cells #[.int .i64 0, .slice none 0 0, .int .i64 0, .string ⟨#[]⟩, .int .i64 0] 43) = X := ⟨_, rfl⟩
      have hb : Below U0.heap.size U0 U1 := by rw [← hU]; exact (Below.refl _ _).alloc (Nat.le_refl _) _
      have HZ : Hid (CellsAt U1 U0.heap.size zT) := Lib.hid (by rw [← hU]; exact CellsAt.new U0 43 zT)
      try rw [hU]
      clear hU
      obtain ⟨B, hB⟩ : ∃ B, U0.heap.size = B := ⟨_, rfl⟩
      have HBL : Hid (V.heap.size ≤ B) := Lib.hid (by rw [← hB]; exact HG0.out.size)
      rw [hB] at HZ
      try rw [hB]
      clear hB
      have HG0n := Lib.hid (chain HG0.out hb)
      clear HG0
      have HG0 := HG0n
      clear HG0n
      clear hb
      refine hK.out _ _ (HSI.out _ HG0.out) (fun hHeld1 => ?_)
      clear hK K
      try simp only [Act.put, List.getElem_toArray, List.getElem_cons_zero, List.getElem_cons_succ, List.setIfInBounds_toArray, List.set_cons_zero, List.set_cons_succ]
      refine wpAnyH_ready (rs := [5]) (by kernel_rfl) (by simp) ?_
      refine ready_one rfl rfl (fun K hK => ?_)
      refine wp_build_recs2 _ _ rfl rfl rfl (fun U2 HU => ?_)
      have hb : Below U1.heap.size U1 U2 := by rw [HU.out]; exact (Below.refl _ _).alloc (Nat.le_refl _) _
      have HG1 : Hid (RecsAt U2 (some ⟨U1.heap.size, 0, none⟩) 2 livesD) := Lib.hid (by rw [HU.out]; exact lives_recs U1)
      clear HU
      obtain ⟨P, hP⟩ : ∃ P, U1.heap.size = P := ⟨_, rfl⟩
      rw [hP] at HG1
      try rw [hP]
      clear hP
      have HG0n := Lib.hid (chain HG0.out hb)
      clear HG0
      have HG0 := HG0n
      clear HG0n
      have HZn := Lib.hid (HZ.out.below hb)
      clear HZ
      have HZ := HZn
      clear HZn
      clear hb
      refine hK.out _ _ (HSI.out _ HG0.out) (fun hHeld2 => ?_)
      clear hK K
      try simp only [Act.put, List.getElem_toArray, List.getElem_cons_zero, List.getElem_cons_succ, List.setIfInBounds_toArray, List.set_cons_zero, List.set_cons_succ]
      refine wpAnyH_ready (rs := [6]) (by kernel_rfl) (by simp) ?_
      refine ready_one rfl rfl (fun K hK => ?_)
      have HF : Hid (Calls Try.prog 24 #[qryV livesQ, .slice (some ⟨P, 0, none⟩) 2 2] U2 (ForgeRet U2 livesQ livesD)) := Lib.hid (forge_any livesQ _ 2 livesD U2 HG1.out (by decide) (by decide) (by decide))
      go_simp
      refine HF.out.mono ?_
      rintro e U3 ⟨hb, aq, a1, c1, rfl, hm⟩
      have HG2 := Lib.hid hm.an
      clear hm HF
      go_wp2_with fail
      have HG0n := Lib.hid (chain HG0.out hb)
      clear HG0
      have HG0 := HG0n
      clear HG0n
      have HZn := Lib.hid (HZ.out.below hb)
      clear HZ
      have HZ := HZn
      clear HZn
      clear hb
      refine hK.out _ _ (HSI.out _ HG0.out) (fun hHeld3 => ?_)
      clear hK K
      try simp only [Act.put, List.getElem_toArray, List.getElem_cons_zero, List.getElem_cons_succ, List.setIfInBounds_toArray, List.set_cons_zero, List.set_cons_succ]
      refine wpAnyH_ready (rs := [7]) (by kernel_rfl) (by simp) ?_
      refine ready_one rfl rfl (fun K hK => ?_)
      have HF : Hid (Calls Try.prog 18 #[qryV livesQ, msgV (forgeM livesQ livesD) aq a1 none none 1 c1 0 0] U3 (TellRet U3 livesX)) := Lib.hid (by rw [← lives_told]; exact tell_any livesQ (forgeM livesQ livesD) aq a1 none none 1 c1 0 0 U3 HG2.out lives_all (by decide) (by decide))
      go_simp
      refine HF.out.mono ?_
      rintro e U4 ⟨v, rfl, hr, hb⟩
      obtain ⟨av, cv, rfl, _⟩ := hr.ads
      have HNE : Hid (∀ g, (Value.slice av 1 cv).ownBlock = some g → g ≠ B) := Lib.hid (fun g hg => by have h1 := (hr.lt g hg).1; have h2 := HZ.out.lt; omega)
      have HG3 : Hid (RowA U4 V.heap.size (.slice av 1 cv) livesX.ad) := Lib.hid (hr.mono HG0.out.size)
      clear hr HF
      go_wp2_with fail
      have HG0n := Lib.hid (chain HG0.out hb)
      clear HG0
      have HG0 := HG0n
      clear HG0n
      have HZn := Lib.hid (HZ.out.below hb)
      clear HZ
      have HZ := HZn
      clear HZn
      clear hb
      refine hK.out _ _ (HSI.out _ HG0.out) (fun hHeld4 => ?_)
      clear hK K
      try simp only [Act.put, List.getElem_toArray, List.getElem_cons_zero, List.getElem_cons_succ, List.setIfInBounds_toArray, List.set_cons_zero, List.set_cons_succ]
      refine wpAnyH_ready (rs := [9]) (by kernel_rfl) (by simp) ?_
      refine ready_one rfl rfl (fun K hK => ?_)
      refine wp_store_of HZ rfl hsT _ _ rfl rfl rfl (vs := tldL livesX (.slice av 1 cv)) rfl rfl rfl (fun X HX HXC => ?_)
      have HSX : Hid (S X) := Lib.hid (HSO.out _ HG0.out B HBL.out _ _ HX.out)
      refine hK.out _ _ HSX.out (fun hHeldX => ?_)
      clear hK K
      try simp only [Act.put, List.getElem_toArray, List.getElem_cons_zero, List.getElem_cons_succ, List.setIfInBounds_toArray, List.set_cons_zero, List.set_cons_succ]
      refine wpAnyH_done (by kernel_rfl) ?_ _
      refine NoPanic.normal ?_
      clear hHeld1 hHeld2 hHeld3 hHeld4
      go_wp2_with fail
      go_meet
      case rel => exact ⟨B, av, cv, rfl, Lib.hid HXC.out, Lib.hid ((HG3.out.kept2 (w' := X) (fun g hg => by rw [HX.out]; exact heap_setCells_other _ _ _ _ _ (HNE.out g hg))).mono HBV.out.size), Lib.hid (C2.out _ HSX.out), Lib.hid (by rw [HX.out]; exact below_cells (Nat.le_trans HBV.out.size HBL.out) _ _ _ (chain HBV.out HG0.out))⟩
  case rest =>
    obtain ⟨B, av, cv, rfl, HT, HR, HA, HB⟩ := hcut
    clear BR BS hsT HB0 HAD HQ
    have h16 : livesA.2.length = 16 := rfl
    obtain ⟨g, rfl, HRG⟩ : ∃ g, av = some ⟨g, 0, none⟩ ∧ Hid (wc.rangeAt g 0 (adL livesA)) := by
      rcases HR.out.form with ⟨e, _⟩ | ⟨g, cap, e, _, _, _, _, h⟩
      · cases e
      · cases e
        refine ⟨g, rfl, Lib.hid ?_⟩
        have : flatA livesX.ad = adL livesA := List.append_nil _
        rwa [this] at h
    have HTC : Hid (CellsAt wc B [.int .i64 0, .slice (some ⟨g, 0, none⟩) 1 cv, .int .i64 9, .string ⟨#[]⟩, .int .i64 1]) := Lib.hid HT.out
    clear HT HR
    have H16 := Lib.hid h16
    generalize livesA = r at *
    have q := fun W => run_eq_addr r.1 r.1 r.2 r.2 W h16 h16
    have hde : decide (r.1 = r.1 ∧ r.2 = r.2) = true := by simp
    rw [hde] at q
    have gd := guard_ad
    clear hde h16
    obtain ⟨S, hS⟩ : ∃ S : World → Prop, (fun U => U = wc.drew) = S := ⟨_, rfl⟩
    have CT : Hid (∀ w', S w' → CellsAt w' B [.int .i64 0, .slice (some ⟨g, 0, none⟩) 1 cv, .int .i64 9, .string ⟨#[]⟩, .int .i64 1]) := Lib.hid (fun w' h => by rw [← hS] at h; rw [h]; exact HTC.out.below (Below.refl _ _).drew)
    have K0 : Hid (∀ w', S w' → w'.cell? ⟨B, 0, none⟩ = some (.int .i64 0)) := Lib.hid (fun w' h => (CT.out w' h).cell 0 _ rfl)
    have K1 : Hid (∀ w', S w' → w'.cell? ⟨B, 1, none⟩ = some (.slice (some ⟨g, 0, none⟩) 1 cv)) := Lib.hid (fun w' h => (CT.out w' h).cell 1 _ rfl)
    have K2 : Hid (∀ w', S w' → w'.cell? ⟨B, 2, none⟩ = some (.int .i64 9)) := Lib.hid (fun w' h => (CT.out w' h).cell 2 _ rfl)
    have K3 : Hid (∀ w', S w' → w'.cell? ⟨B, 3, none⟩ = some (.string ⟨#[]⟩)) := Lib.hid (fun w' h => (CT.out w' h).cell 3 _ rfl)
    have K4 : Hid (∀ w', S w' → w'.cell? ⟨B, 4, none⟩ = some (.int .i64 1)) := Lib.hid (fun w' h => (CT.out w' h).cell 4 _ rfl)
    have KA : Hid (∀ w', S w' → w'.rangeAt g 0 (adL r)) := Lib.hid (fun w' h => by rw [← hS] at h; rw [h]; exact HRG.out)
    have KB : Hid (∀ w', S w' → w'.rangeAt w.heap.size 0 (adL r)) := Lib.hid (fun w' h => by rw [← hS] at h; rw [h]; exact HA.out)
    have HSI : Hid (S wc.drew) := Lib.hid (by rw [← hS])
    clear hS CT
    go_upto_region 4 with fail
    refine wp_region_noPanic ?_
    refine wp_region_held_drew (S := S) (by kernel_rfl) HSI.out (fun hHeld => ?_)
    refine wpAnyH_take (i := 0) (v := ?_) rfl (by kernel_rfl) (by kernel_rfl) (by kernel_rfl) (fun _ _ _ h => h) (Or.inl ⟨by rfl, ?_⟩) (by assumption) ?_
    rotate_left
    · (intro w hSw; go_simp; try (with_reducible rfl))
    try simp only [Act.put, List.getElem_toArray, List.getElem_cons_zero, List.setIfInBounds_toArray, List.set_cons_zero, List.set_cons_succ]
    refine wpAnyH_take (i := 1) (v := ?_) rfl (by kernel_rfl) (by kernel_rfl) (by kernel_rfl) (fun _ _ _ h => h) (Or.inl ⟨by rfl, ?_⟩) (by assumption) ?_
    rotate_left
    · (intro w hSw; have hc0 := K0.out w hSw; go_simp; try (with_reducible rfl))
    try simp only [Act.put, List.getElem_toArray, List.getElem_cons_zero, List.getElem_cons_succ, List.setIfInBounds_toArray, List.set_cons_zero, List.set_cons_succ]
    refine wpAnyH_take (i := 2) (v := ?_) rfl (by kernel_rfl) (by kernel_rfl) (by kernel_rfl) (fun _ _ _ h => h) (Or.inl ⟨by rfl, ?_⟩) (by assumption) ?_
    rotate_left
    · (intro w hSw; go_simp; try (with_reducible rfl))
    try simp only [Act.put, List.getElem_toArray, List.getElem_cons_zero, List.getElem_cons_succ, List.setIfInBounds_toArray, List.set_cons_zero, List.set_cons_succ]
    refine wpAnyH_take (i := 3) (v := ?_) rfl (by kernel_rfl) (by kernel_rfl) (by kernel_rfl) (fun _ _ _ h => h) (Or.inl ⟨by rfl, ?_⟩) (by assumption) ?_
    rotate_left
    · (intro w hSw; go_simp; try (with_reducible rfl))
    try simp only [Act.put, List.getElem_toArray, List.getElem_cons_zero, List.getElem_cons_succ, List.setIfInBounds_toArray, List.set_cons_zero, List.set_cons_succ]
    refine wpAnyH_take (i := 4) (v := ?_) rfl (by kernel_rfl) (by kernel_rfl) (by kernel_rfl) (fun _ _ _ h => h) (Or.inl ⟨by rfl, ?_⟩) (by assumption) ?_
    rotate_left
    · (intro w hSw; go_simp; try (with_reducible rfl))
    try simp only [Act.put, List.getElem_toArray, List.getElem_cons_zero, List.getElem_cons_succ, List.setIfInBounds_toArray, List.set_cons_zero, List.set_cons_succ]
    refine wpAnyH_take (i := 5) (v := ?_) rfl (by kernel_rfl) (by kernel_rfl) (by kernel_rfl) (fun _ _ _ h => h) (Or.inl ⟨by rfl, ?_⟩) (by assumption) ?_
    rotate_left
    · (intro w hSw; have hc0 := K1.out w hSw; go_simp; try (with_reducible rfl))
    try simp only [Act.put, List.getElem_toArray, List.getElem_cons_zero, List.getElem_cons_succ, List.setIfInBounds_toArray, List.set_cons_zero, List.set_cons_succ]
    refine wpAnyH_take (i := 6) (v := ?_) rfl (by kernel_rfl) (by kernel_rfl) (by kernel_rfl) (fun _ _ _ h => h) (Or.inl ⟨by rfl, ?_⟩) (by assumption) ?_
    rotate_left
    · (intro w hSw; go_simp; try (with_reducible rfl))
    try simp only [Act.put, List.getElem_toArray, List.getElem_cons_zero, List.getElem_cons_succ, List.setIfInBounds_toArray, List.set_cons_zero, List.set_cons_succ]
    refine wpAnyH_take (i := 7) (v := ?_) rfl (by kernel_rfl) (by kernel_rfl) (by kernel_rfl) (fun _ _ _ h => h) (Or.inl ⟨by rfl, ?_⟩) (by assumption) ?_
    rotate_left
    · (intro w hSw; go_simp; try (with_reducible rfl))
    try simp only [Act.put, List.getElem_toArray, List.getElem_cons_zero, List.getElem_cons_succ, List.setIfInBounds_toArray, List.set_cons_zero, List.set_cons_succ]
    refine wpAnyH_take (i := 8) (v := ?_) rfl (by kernel_rfl) (by kernel_rfl) (by kernel_rfl) (fun _ _ _ h => h) (Or.inl ⟨by rfl, ?_⟩) (by assumption) ?_
    rotate_left
    · (intro w hSw; go_simp; try (with_reducible rfl))
    try simp only [Act.put, List.getElem_toArray, List.getElem_cons_zero, List.getElem_cons_succ, List.setIfInBounds_toArray, List.set_cons_zero, List.set_cons_succ]
    refine wpAnyH_take (i := 9) (v := ?_) rfl (by kernel_rfl) (by kernel_rfl) (by kernel_rfl) (fun _ _ _ h => h) (Or.inl ⟨by rfl, ?_⟩) (by assumption) ?_
    rotate_left
    · (intro w hSw; go_simp; try (with_reducible rfl))
    try simp only [Act.put, List.getElem_toArray, List.getElem_cons_zero, List.getElem_cons_succ, List.setIfInBounds_toArray, List.set_cons_zero, List.set_cons_succ]
    refine wpAnyH_take (i := 10) (v := ?_) rfl (by kernel_rfl) (by kernel_rfl) (by kernel_rfl) (fun _ _ _ h => h) (Or.inl ⟨by rfl, ?_⟩) (by assumption) ?_
    rotate_left
    · (intro w hSw; go_simp; try (with_reducible rfl))
    try simp only [Act.put, List.getElem_toArray, List.getElem_cons_zero, List.getElem_cons_succ, List.setIfInBounds_toArray, List.set_cons_zero, List.set_cons_succ]
    refine wpAnyH_take (i := 11) (v := ?_) rfl (by kernel_rfl) (by kernel_rfl) (by kernel_rfl) (fun _ _ _ h => h) (Or.inl ⟨by rfl, ?_⟩) (by assumption) ?_
    rotate_left
    · (intro w hSw; have hc0 := K1.out w hSw; go_simp; try (with_reducible rfl))
    try simp only [Act.put, List.getElem_toArray, List.getElem_cons_zero, List.getElem_cons_succ, List.setIfInBounds_toArray, List.set_cons_zero, List.set_cons_succ]
    refine wpAnyH_take (i := 12) (v := ?_) rfl (by kernel_rfl) (by kernel_rfl) (by kernel_rfl) (fun _ _ _ h => h) (Or.inl ⟨by rfl, ?_⟩) (by assumption) ?_
    rotate_left
    · (intro w hSw; go_simp; try (with_reducible rfl))
    try simp only [Act.put, List.getElem_toArray, List.getElem_cons_zero, List.getElem_cons_succ, List.setIfInBounds_toArray, List.set_cons_zero, List.set_cons_succ]
    refine wpAnyH_take (i := 13) rfl (by kernel_rfl) (by kernel_rfl) (by kernel_rfl) (fun _ _ _ h => h) (yields_ad H16 KA (by rfl) _ rfl rfl) (by assumption) ?_
    try simp only [Act.put, List.getElem_toArray, List.getElem_cons_zero, List.getElem_cons_succ, List.setIfInBounds_toArray, List.set_cons_zero, List.set_cons_succ]
    refine wpAnyH_take (i := 14) rfl (by kernel_rfl) (by kernel_rfl) (by kernel_rfl) (fun _ _ _ h => h) (yields_ad H16 KB (by rfl) _ rfl rfl) (by assumption) ?_
    try simp only [Act.put, List.getElem_toArray, List.getElem_cons_zero, List.getElem_cons_succ, List.setIfInBounds_toArray, List.set_cons_zero, List.set_cons_succ]
    refine wpAnyH_take (i := 15) (v := ?_) rfl (by kernel_rfl) (by kernel_rfl) (by kernel_rfl) (fun _ _ _ h => h) (Or.inl ⟨by rfl, ?_⟩) (by assumption) ?_
    rotate_left
    · (intro w hSw; go_simp; try (with_reducible rfl))
    try simp only [Act.put, List.getElem_toArray, List.getElem_cons_zero, List.getElem_cons_succ, List.setIfInBounds_toArray, List.set_cons_zero, List.set_cons_succ]
    refine wpAnyH_take (i := 16) (v := ?_) rfl (by kernel_rfl) (by kernel_rfl) (by kernel_rfl) (fun _ _ _ h => h) (Or.inl ⟨by rfl, ?_⟩) (by assumption) ?_
    rotate_left
    · (intro w hSw; go_simp; try (with_reducible rfl))
    try simp only [Act.put, List.getElem_toArray, List.getElem_cons_zero, List.getElem_cons_succ, List.setIfInBounds_toArray, List.set_cons_zero, List.set_cons_succ]
    refine wpAnyH_take (i := 17) (v := ?_) rfl (by kernel_rfl) (by kernel_rfl) (by kernel_rfl) (fun _ _ _ h => h) (Or.inl ⟨by rfl, ?_⟩) (by assumption) ?_
    rotate_left
    · (intro w hSw; go_simp; try (with_reducible rfl))
    try simp only [Act.put, List.getElem_toArray, List.getElem_cons_zero, List.getElem_cons_succ, List.setIfInBounds_toArray, List.set_cons_zero, List.set_cons_succ]
    refine wpAnyH_take (i := 18) (v := ?_) rfl (by kernel_rfl) (by kernel_rfl) (by kernel_rfl) (fun _ _ _ h => h) (Or.inl ⟨by rfl, ?_⟩) (by assumption) ?_
    rotate_left
    · (intro w hSw; go_simp; try (with_reducible rfl))
    try simp only [Act.put, List.getElem_toArray, List.getElem_cons_zero, List.getElem_cons_succ, List.setIfInBounds_toArray, List.set_cons_zero, List.set_cons_succ]
    refine wpAnyH_take (i := 19) (v := ?_) rfl (by kernel_rfl) (by kernel_rfl) (by kernel_rfl) (fun _ _ _ h => h) (Or.inl ⟨by rfl, ?_⟩) (by assumption) ?_
    rotate_left
    · (intro w hSw; have hc0 := K2.out w hSw; go_simp; try (with_reducible rfl))
    try simp only [Act.put, List.getElem_toArray, List.getElem_cons_zero, List.getElem_cons_succ, List.setIfInBounds_toArray, List.set_cons_zero, List.set_cons_succ]
    refine wpAnyH_take (i := 20) (v := ?_) rfl (by kernel_rfl) (by kernel_rfl) (by kernel_rfl) (fun _ _ _ h => h) (Or.inl ⟨by rfl, ?_⟩) (by assumption) ?_
    rotate_left
    · (intro w hSw; go_simp; try (with_reducible rfl))
    try simp only [Act.put, List.getElem_toArray, List.getElem_cons_zero, List.getElem_cons_succ, List.setIfInBounds_toArray, List.set_cons_zero, List.set_cons_succ]
    refine wpAnyH_take (i := 21) (v := ?_) rfl (by kernel_rfl) (by kernel_rfl) (by kernel_rfl) (fun _ _ _ h => h) (Or.inl ⟨by rfl, ?_⟩) (by assumption) ?_
    rotate_left
    · (intro w hSw; go_simp; try (with_reducible rfl))
    try simp only [Act.put, List.getElem_toArray, List.getElem_cons_zero, List.getElem_cons_succ, List.setIfInBounds_toArray, List.set_cons_zero, List.set_cons_succ]
    refine wpAnyH_take (i := 22) (v := ?_) rfl (by kernel_rfl) (by kernel_rfl) (by kernel_rfl) (fun _ _ _ h => h) (Or.inl ⟨by rfl, ?_⟩) (by assumption) ?_
    rotate_left
    · (intro w hSw; go_simp; try (with_reducible rfl))
    try simp only [Act.put, List.getElem_toArray, List.getElem_cons_zero, List.getElem_cons_succ, List.setIfInBounds_toArray, List.set_cons_zero, List.set_cons_succ]
    refine wpAnyH_take (i := 23) (v := ?_) rfl (by kernel_rfl) (by kernel_rfl) (by kernel_rfl) (fun _ _ _ h => h) (Or.inl ⟨by rfl, ?_⟩) (by assumption) ?_
    rotate_left
    · (intro w hSw; go_simp; try (with_reducible rfl))
    try simp only [Act.put, List.getElem_toArray, List.getElem_cons_zero, List.getElem_cons_succ, List.setIfInBounds_toArray, List.set_cons_zero, List.set_cons_succ]
    refine wpAnyH_take (i := 24) (v := ?_) rfl (by kernel_rfl) (by kernel_rfl) (by kernel_rfl) (fun _ _ _ h => h) (Or.inl ⟨by rfl, ?_⟩) (by assumption) ?_
    rotate_left
    · (intro w hSw; have hc0 := K4.out w hSw; go_simp; try (with_reducible rfl))
    try simp only [Act.put, List.getElem_toArray, List.getElem_cons_zero, List.getElem_cons_succ, List.setIfInBounds_toArray, List.set_cons_zero, List.set_cons_succ]
    refine wpAnyH_take (i := 25) (v := ?_) rfl (by kernel_rfl) (by kernel_rfl) (by kernel_rfl) (fun _ _ _ h => h) (Or.inl ⟨by rfl, ?_⟩) (by assumption) ?_
    rotate_left
    · (intro w hSw; go_simp; try (with_reducible rfl))
    try simp only [Act.put, List.getElem_toArray, List.getElem_cons_zero, List.getElem_cons_succ, List.setIfInBounds_toArray, List.set_cons_zero, List.set_cons_succ]
    refine wpAnyH_take (i := 26) (v := ?_) rfl (by kernel_rfl) (by kernel_rfl) (by kernel_rfl) (fun _ _ _ h => h) (Or.inl ⟨by rfl, ?_⟩) (by assumption) ?_
    rotate_left
    · (intro w hSw; go_simp; try (with_reducible rfl))
    try simp only [Act.put, List.getElem_toArray, List.getElem_cons_zero, List.getElem_cons_succ, List.setIfInBounds_toArray, List.set_cons_zero, List.set_cons_succ]
    refine wpAnyH_take (i := 27) (v := ?_) rfl (by kernel_rfl) (by kernel_rfl) (by kernel_rfl) (fun _ _ _ h => h) (Or.inl ⟨by rfl, ?_⟩) (by assumption) ?_
    rotate_left
    · (intro w hSw; go_simp; try (with_reducible rfl))
    try simp only [Act.put, List.getElem_toArray, List.getElem_cons_zero, List.getElem_cons_succ, List.setIfInBounds_toArray, List.set_cons_zero, List.set_cons_succ]
    refine wpAnyH_take (i := 28) (v := ?_) rfl (by kernel_rfl) (by kernel_rfl) (by kernel_rfl) (fun _ _ _ h => h) (Or.inl ⟨by rfl, ?_⟩) (by assumption) ?_
    rotate_left
    · (intro w hSw; go_simp; try (with_reducible rfl))
    try simp only [Act.put, List.getElem_toArray, List.getElem_cons_zero, List.getElem_cons_succ, List.setIfInBounds_toArray, List.set_cons_zero, List.set_cons_succ]
    refine wpAnyH_take (i := 29) (v := ?_) rfl (by kernel_rfl) (by kernel_rfl) (by kernel_rfl) (fun _ _ _ h => h) (Or.inl ⟨by rfl, ?_⟩) (by assumption) ?_
    rotate_left
    · (intro w hSw; have hc0 := K3.out w hSw; go_simp; try (with_reducible rfl))
    try simp only [Act.put, List.getElem_toArray, List.getElem_cons_zero, List.getElem_cons_succ, List.setIfInBounds_toArray, List.set_cons_zero, List.set_cons_succ]
    refine wpAnyH_take (i := 30) (v := ?_) rfl (by kernel_rfl) (by kernel_rfl) (by kernel_rfl) (fun _ _ _ h => h) (Or.inl ⟨by rfl, ?_⟩) (by assumption) ?_
    rotate_left
    · (intro w hSw; go_simp; try (with_reducible rfl))
    try simp only [Act.put, List.getElem_toArray, List.getElem_cons_zero, List.getElem_cons_succ, List.setIfInBounds_toArray, List.set_cons_zero, List.set_cons_succ]
    refine wpAnyH_take (i := 31) (v := ?_) rfl (by kernel_rfl) (by kernel_rfl) (by kernel_rfl) (fun _ _ _ h => h) (Or.inl ⟨by rfl, ?_⟩) (by assumption) ?_
    rotate_left
    · (intro w hSw; go_simp; try (with_reducible rfl))
    try simp only [Act.put, List.getElem_toArray, List.getElem_cons_zero, List.getElem_cons_succ, List.setIfInBounds_toArray, List.set_cons_zero, List.set_cons_succ]
    refine wpAnyH_take (i := 32) (v := ?_) rfl (by kernel_rfl) (by kernel_rfl) (by kernel_rfl) (fun _ _ _ h => h) (Or.inl ⟨by rfl, ?_⟩) (by assumption) ?_
    rotate_left
    · (intro w hSw; go_simp; try (with_reducible rfl))
    try simp only [Act.put, List.getElem_toArray, List.getElem_cons_zero, List.getElem_cons_succ, List.setIfInBounds_toArray, List.set_cons_zero, List.set_cons_succ]
    refine wpAnyH_done (by kernel_rfl) ?_ _
    refine NoPanic.normal ?_
    clear hHeld q gd K0 K1 K2 K3 K4 KA KB HSI
    go_wp2_with fail
    go_ret
    exact ⟨rfl, HB.out.drew⟩
end Go.Proofs.Ytmecdhlehekdeaa
/- Messages and rows of records that came in, opened: what they hold, where it lies, and how great it may be. -/
namespace Go.Proofs.Ytmecdhlehekdeaa
open Go.ChangeShapes Go.WideShapes Go.ChangeAt Go.RowKit
set_option linter.unusedVariables false
set_option maxRecDepth 20000

theorem bulk_one {H : Type} (d : DataW H) : 1 ≤ Rows.uptoBulk d := by
  cases d with
  | lit l => cases l <;> simp [Rows.uptoBulk]
  | _ => simp [Rows.uptoBulk]
theorem bulk_mem {H : Type} {d : DataW H} : ∀ {l : List (DataW H)}, d ∈ l → Rows.uptoBulk d ≤ Rows.uptoBulkAll l
  | [], h => by cases h
  | x :: r, h => by
    simp only [Rows.uptoBulkAll]
    rcases List.mem_cons.1 h with rfl | h
    · omega
    · have := bulk_mem h; omega
theorem bulk_len {H : Type} : ∀ (l : List (DataW H)), l.length ≤ Rows.uptoBulkAll l
  | [] => Nat.zero_le _
  | x :: r => by
    have h1 := bulk_one x
    have h2 := bulk_len r
    simp only [Rows.uptoBulkAll, List.length_cons]
    omega
theorem bulk_str {H : Type} (s : ByteArray) : s.size ≤ Rows.uptoBulk (DataW.lit (H := H) (.string s.data.toList)) := by
  have e : s.data.toList.length = s.size := by rw [Array.length_toList]; rfl
  simp only [Rows.uptoBulk, e]
  omega
theorem bulk_agg {H : Type} {d : DataW H} {l : List (DataW H)} (h : d ∈ l) : Rows.uptoBulk d ≤ Rows.uptoBulk (DataW.agg l) := by
  have := bulk_mem h
  simp only [Rows.uptoBulk]
  omega
section
variable {H : Type} {enc : TypeId × Value → H} {W : World} {spare : Nat → Bool}
theorem trod_struct7 {t : TypeId} {f0 f1 f2 f3 f4 f5 f6 : Field} {fuel : Nat} {cs : List Value} {x : DataW H × List MemPlace} (ht : Try.prog.underlying t = some (.struct #[f0, f1, f2, f3, f4, f5, f6])) (h : DataW.trod enc Try.prog W 0 spare true fuel t cs = some x) :
    ∃ y0 y1 y2 y3 y4 y5 y6 n, x.1 = .agg [y0.1, y1.1, y2.1, y3.1, y4.1, y5.1, y6.1] ∧ DataW.trod enc Try.prog W 0 spare true n f0.type ((cs.drop f0.offset).take (Try.prog.cellsOf f0.type)) = some y0 ∧ DataW.trod enc Try.prog W 0 spare true n f1.type ((cs.drop f1.offset).take (Try.prog.cellsOf f1.type)) = some y1 ∧ DataW.trod enc Try.prog W 0 spare true n f2.type ((cs.drop f2.offset).take (Try.prog.cellsOf f2.type)) = some y2 ∧
      DataW.trod enc Try.prog W 0 spare true n f3.type ((cs.drop f3.offset).take (Try.prog.cellsOf f3.type)) = some y3 ∧ DataW.trod enc Try.prog W 0 spare true n f4.type ((cs.drop f4.offset).take (Try.prog.cellsOf f4.type)) = some y4 ∧ DataW.trod enc Try.prog W 0 spare true n f5.type ((cs.drop f5.offset).take (Try.prog.cellsOf f5.type)) = some y5 ∧ DataW.trod enc Try.prog W 0 spare true n f6.type ((cs.drop f6.offset).take (Try.prog.cellsOf f6.type)) = some y6 := by
  obtain ⟨xs, n, _, rfl, hl, hlen, hf⟩ := DataW.trod_struct ht h
  match xs, hlen with
  | [y0, y1, y2, y3, y4, y5, y6], _ => exact ⟨y0, y1, y2, y3, y4, y5, y6, n, by simp, by simpa using hf 0 f0 rfl, by simpa using hf 1 f1 rfl, by simpa using hf 2 f2 rfl, by simpa using hf 3 f3 rfl, by simpa using hf 4 f4 rfl, by simpa using hf 5 f5 rfl, by simpa using hf 6 f6 rfl⟩
theorem trod_struct6 {t : TypeId} {f0 f1 f2 f3 f4 f5 : Field} {fuel : Nat} {cs : List Value} {x : DataW H × List MemPlace} (ht : Try.prog.underlying t = some (.struct #[f0, f1, f2, f3, f4, f5])) (h : DataW.trod enc Try.prog W 0 spare true fuel t cs = some x) :
    ∃ y0 y1 y2 y3 y4 y5 n, x.1 = .agg [y0.1, y1.1, y2.1, y3.1, y4.1, y5.1] ∧ DataW.trod enc Try.prog W 0 spare true n f0.type ((cs.drop f0.offset).take (Try.prog.cellsOf f0.type)) = some y0 ∧ DataW.trod enc Try.prog W 0 spare true n f1.type ((cs.drop f1.offset).take (Try.prog.cellsOf f1.type)) = some y1 ∧ DataW.trod enc Try.prog W 0 spare true n f2.type ((cs.drop f2.offset).take (Try.prog.cellsOf f2.type)) = some y2 ∧
      DataW.trod enc Try.prog W 0 spare true n f3.type ((cs.drop f3.offset).take (Try.prog.cellsOf f3.type)) = some y3 ∧ DataW.trod enc Try.prog W 0 spare true n f4.type ((cs.drop f4.offset).take (Try.prog.cellsOf f4.type)) = some y4 ∧ DataW.trod enc Try.prog W 0 spare true n f5.type ((cs.drop f5.offset).take (Try.prog.cellsOf f5.type)) = some y5 := by
  obtain ⟨xs, n, _, rfl, hl, hlen, hf⟩ := DataW.trod_struct ht h
  match xs, hlen with
  | [y0, y1, y2, y3, y4, y5], _ => exact ⟨y0, y1, y2, y3, y4, y5, n, by simp, by simpa using hf 0 f0 rfl, by simpa using hf 1 f1 rfl, by simpa using hf 2 f2 rfl, by simpa using hf 3 f3 rfl, by simpa using hf 4 f4 rfl, by simpa using hf 5 f5 rfl⟩
end
theorem cells_str : Try.prog.cellsOf 9 = 1 := by kernel_rfl
theorem cells_int : Try.prog.cellsOf 3 = 1 := by kernel_rfl
theorem cells_addr : Try.prog.cellsOf 55 = 17 := by kernel_rfl
theorem addr_of_trod9 {H : Type} {enc : TypeId × Value → H} {W : World} {spare : Nat → Bool} {fuel : Nat} {l : List Value} {x : DataW H × List MemPlace} (hl : l.length = 17)
    (hf : DataW.trod enc Try.prog W 0 spare true fuel 55 l = some x) : ∃ (f : Int) (bs : List Nat), l = addrL f bs ∧ (Lit.int .i64 f).wf = true ∧ bs.length = 16 ∧ ∀ x ∈ bs, x < 256 := by
  have hs := Try.underlying55
  obtain ⟨y0, y1, n, _, _, h0, h1⟩ := trod_struct2 hs hf
  obtain ⟨f, h2, _, h3⟩ := DataW.trod_int Try.underlying3 h0
  obtain ⟨zs, h4, h5, h6⟩ := ints_of_trod Try.underlying53 Try.underlying5 (by kernel_rfl) (by kernel_rfl) h1
  have hc1 : Try.prog.cellsOf 3 = 1 := by kernel_rfl
  have hc16 : Try.prog.cellsOf 53 = 16 := by kernel_rfl
  refine ⟨f, zs.map Int.toNat, ?_, h3, by simpa using h5, ?_⟩
  · unfold addrL
    have e1 : l = (l.drop 0).take 1 ++ (l.drop 1).take 16 := by
      have : (l.drop 1).take 16 = l.drop 1 := List.take_of_length_le (by simp; omega)
      rw [this, List.drop_zero, List.take_append_drop]
    rw [e1]
    have e2 : (l.drop 0).take 1 = [Value.int .i64 f] := by rw [← h2, hc1]
    have e3 : (l.drop 1).take 16 = zs.map (Value.int .u8) := by rw [← h4, hc16]
    rw [e2, e3, List.map_map]
    show Value.int .i64 f :: zs.map (Value.int .u8) = Value.int .i64 f :: _
    congr 1
    apply List.map_congr_left
    intro z hz
    have := bounds_u8 (h6 z hz)
    show Value.int .u8 z = Value.int .u8 ((z.toNat : Nat) : Int)
    congr 1
    omega
  · intro x hx
    obtain ⟨z, hz, rfl⟩ := List.mem_map.1 hx
    have := bounds_u8 (h6 z hz)
    omega
/-- How great a record's texts are. -/
def RecLe (r : Rec) (k : Nat) : Prop := r.name.size ≤ k ∧ r.tg.size ≤ k ∧ r.da.size ≤ k
theorem rec_of_trod {H : Type} {enc : TypeId × Value → H} {W : World} {spare : Nat → Bool} {fuel : Nat} {l : List Value} {x : DataW H × List MemPlace} (hl : l.length = 23)
    (hf : DataW.trod enc Try.prog W 0 spare true fuel 57 l = some x) : ∃ r : Rec, l = recL r ∧ (Fit r ∧ RecLe r (Rows.uptoBulk x.1)) := by
  have hs := Try.underlying57
  obtain ⟨y0, y1, y2, y3, y4, y5, y6, n, hx, h0, h1, h2, h3, h4, h5, h6⟩ := trod_struct7 hs hf
  simp only [cells_str, cells_int, cells_addr] at h0 h1 h2 h3 h4 h5 h6
  obtain ⟨nm, e0, z0, s0⟩ := DataW.trod_string Try.underlying9 h0
  obtain ⟨ty, e1, z1, s1⟩ := DataW.trod_int Try.underlying3 h1
  obtain ⟨cl, e2, z2, s2⟩ := DataW.trod_int Try.underlying3 h2
  obtain ⟨ttl, e3, z3, s3⟩ := DataW.trod_int Try.underlying3 h3
  obtain ⟨f, bs, e4, s4, l4, b4⟩ := addr_of_trod9 (by simp; omega) h4
  obtain ⟨tg, e5, z5, s5⟩ := DataW.trod_string Try.underlying9 h5
  obtain ⟨da, e6, z6, s6⟩ := DataW.trod_string Try.underlying9 h6
  refine ⟨⟨nm, ty, cl, ttl, f, bs, tg, da⟩, ?_, ⟨l4, b4, s1, s2, s3, s4, s0, s5, s6⟩, ?_⟩
  · have e : l = (l.drop 0).take 1 ++ ((l.drop 1).take 1 ++ ((l.drop 2).take 1 ++ ((l.drop 3).take 1 ++ ((l.drop 4).take 17 ++ ((l.drop 21).take 1 ++ (l.drop 22).take 1))))) := by
      apply List.ext_getElem?
      intro i
      simp only [List.getElem?_append, List.getElem?_take, List.getElem?_drop, List.length_take, List.length_drop, hl]
      by_cases h : i < 23
      · repeat' split
        all_goals first | (congr 1; omega) | omega
      · rw [List.getElem?_eq_none (by omega)]
        repeat' split
        all_goals first | rfl | omega
    rw [e, e0, e1, e2, e3, e4, e5, e6]
    rfl
  · rw [hx, z0, z5, z6]
    exact ⟨Nat.le_trans (bulk_str nm) (bulk_agg (by simp)), Nat.le_trans (bulk_str tg) (bulk_agg (by simp)), Nat.le_trans (bulk_str da) (bulk_agg (by simp))⟩
theorem qu_of_trod {H : Type} {enc : TypeId × Value → H} {W : World} {spare : Nat → Bool} {fuel : Nat} {l : List Value} {x : DataW H × List MemPlace} (hl : l.length = 3)
    (hf : DataW.trod enc Try.prog W 0 spare true fuel 35 l = some x) : ∃ q : Qu, l = quL q ∧ (FitQ q ∧ q.name.size ≤ Rows.uptoBulk x.1) := by
  have hs := Try.underlying35
  obtain ⟨y0, y1, y2, n, hx, _, h0, h1, h2⟩ := Deep.trod_struct3 hs hf
  simp only [cells_str, cells_int] at h0 h1 h2
  obtain ⟨nm, e0, z0, s0⟩ := DataW.trod_string Try.underlying9 h0
  obtain ⟨ty, e1, z1, s1⟩ := DataW.trod_int Try.underlying3 h1
  obtain ⟨cl, e2, z2, s2⟩ := DataW.trod_int Try.underlying3 h2
  refine ⟨⟨nm, ty, cl⟩, ?_, ⟨s1, s2, s0⟩, ?_⟩
  · match l, hl with
    | [a, b, c], _ =>
      simp at e0 e1 e2
      rw [e0, e1, e2]
      rfl
  · rw [hx, z0]
    exact Nat.le_trans (bulk_str nm) (bulk_agg (by simp))
/-- A row of structs, opened. -/
theorem open_rowsB {α : Type} {H : Type} {enc : TypeId × Value → H} {W : World} {spare : Nat → Bool} {t e : TypeId} {fuel : Nat} {vs : List Value} {x : DataW H × List MemPlace} (Lf : α → List Value) (S : Nat) (q : α → DataW H → Prop)
    (ht : Try.prog.underlying t = some (.slice e)) (hS : Try.prog.cellsOf e = S) (hpos : 0 < S)
    (hel : ∀ (n : Nat) (cs : List Value) (y : DataW H × List MemPlace), cs.length = S → DataW.trod enc Try.prog W 0 spare true n e cs = some y → ∃ d, cs = Lf d ∧ q d y.1)
    (h : DataW.trod enc Try.prog W 0 spare true fuel t vs = some x) :
    ∃ a len cap, vs = [.slice a len cap] ∧ len ≤ cap ∧ cap ≤ maxLen ∧ len ≤ Rows.uptoBulk x.1 ∧ (len = 0 ∨ ∃ (g o : Nat) (D : List α), a = some ⟨g, o, none⟩ ∧ D.length = len ∧ (∀ d ∈ D, (∃ y, q d y ∧ Rows.uptoBulk y ≤ Rows.uptoBulk x.1) ∧ (Lf d).length = S) ∧ W.rangeAt g o (D.flatMap Lf) ∧ g < W.heap.size) := by
  rcases Deep.open_slice ht h with ⟨h0, _⟩ | ⟨a', len, cap, m, n, DD, Pl, h0, hb, hl, hm, hmm, hx, hc⟩
  · exact ⟨none, 0, 0, h0, Nat.le_refl _, Nat.zero_le _, Nat.zero_le _, .inl rfl⟩
  · subst hx
    have hbk : ∀ i, i < len → Rows.uptoBulk (DD i) ≤ Rows.uptoBulk (DataW.slice ((List.range len).map DD) ((List.range (m - len)).map fun j => DD (len + j))) := fun i hi => by
      have := bulk_mem (d := DD i) (l := (List.range len).map DD) (List.mem_map.2 ⟨i, List.mem_range.2 hi, rfl⟩)
      simp only [Rows.uptoBulk]
      omega
    have hbl : len ≤ Rows.uptoBulk (DataW.slice ((List.range len).map DD) ((List.range (m - len)).map fun j => DD (len + j))) := by
      have := bulk_len ((List.range len).map DD)
      simp only [Rows.uptoBulk]
      simp at this
      omega
    refine ⟨_, len, cap, h0, hl, hm, hbl, ?_⟩
    by_cases hz : len = 0
    · exact .inl hz
    · right
      have hle : len ≤ m := by rw [hmm]; split <;> omega
      rw [hS] at hc
      have key : ∀ i, i < len → ∃ d, (∀ j u, (Lf d)[j]? = some u → W.cell? ((a'.add (i * S)).add j) = some u) ∧ (∃ y, q d y ∧ Rows.uptoBulk y ≤ Rows.uptoBulk (DataW.slice ((List.range len).map DD) ((List.range (m - len)).map fun j => DD (len + j)))) ∧ (Lf d).length = S := fun i hi => by
        obtain ⟨cs, c1, c2⟩ := hc i (by omega)
        unfold World.cells? at c1
        rw [if_pos (Nat.zero_le _)] at c1
        obtain ⟨l1, l2⟩ := mapM_some _ _ _ c1
        obtain ⟨d, rfl, hq⟩ := hel n cs _ l1 c2
        refine ⟨d, fun j u hu => ?_, ⟨_, hq, hbk i hi⟩, l1⟩
        have hj : j < (Lf d).length := by
          apply Classical.byContradiction
          intro h2
          rw [List.getElem?_eq_none (by omega)] at hu
          cases hu
        rw [l2 j hj]
        rw [List.getElem?_eq_getElem hj] at hu
        exact hu
      obtain ⟨D, d1, d2⟩ := choose_list _ len key
      obtain ⟨d0, e1, _, e3⟩ := key 0 (by omega)
      have hc0 := e1 0 _ (List.getElem?_eq_getElem (by omega))
      have hspot : a'.spot = none := by
        rw [Nat.zero_mul] at hc0
        have : (a'.add 0).add 0 = a' := by simp [Addr.add]
        rw [this] at hc0
        unfold World.cell? at hc0
        split at hc0
        · split at hc0
          · cases hc0
          · rename_i h; simpa using h
        · cases hc0
      obtain ⟨g, o, sp⟩ := a'
      simp only at hspot
      subst hspot
      have hadd : ∀ i j, ((⟨g, o, none⟩ : Addr).add i).add j = ⟨g, o + i + j, none⟩ := fun i j => by
        unfold Addr.add
        split <;> split <;> simp_all [Nat.add_assoc]
      have hlen : ∀ d ∈ D, (Lf d).length = S := fun d hd => by
        obtain ⟨i, hi, rfl⟩ := List.getElem_of_mem hd
        exact (d2 i hi).2.2
      refine ⟨g, o, D, rfl, d1, fun d hd => ?_, fun k u hu => ?_, ?_⟩
      · obtain ⟨i, hi, rfl⟩ := List.getElem_of_mem hd
        exact ⟨(d2 i hi).2.1, (d2 i hi).2.2⟩
      · have hk : k < D.length * S := by
          rw [← flatMap_len Lf S D hlen]
          apply Classical.byContradiction
          intro h2
          rw [List.getElem?_eq_none (by omega)] at hu
          cases hu
        have hq : k / S < D.length := Nat.div_lt_of_lt_mul (by rw [Nat.mul_comm]; exact hk)
        have hkk : k / S * S + k % S = k := by rw [Nat.mul_comm]; exact Nat.div_add_mod k S
        have h3 := flatMap_at Lf S D hlen (k / S) hq (k % S) (Nat.mod_lt _ hpos)
        rw [hkk, hu] at h3
        have h4 := (d2 (k / S) hq).1 (k % S) u h3.symm
        rw [hadd] at h4
        rw [← hkk, ← Nat.add_assoc]
        exact h4
      · rw [Nat.zero_mul, hadd] at hc0
        unfold World.cell? at hc0
        apply Classical.byContradiction
        intro h2
        rw [Array.getElem?_eq_none (by simpa using h2)] at hc0
        cases hc0
/-- A row of records that came in. -/
structure RecsIn (W : World) (a : Option Addr) (len cap : Nat) (D : List Rec) (k : Nat) : Prop where
  at0 : RecsAt W a cap D
  len : D.length = len
  room : ∀ r ∈ D, RecLe r k
  few : D.length ≤ k
structure QusIn (W : World) (a : Option Addr) (len cap : Nat) (D : List Qu) (k : Nat) : Prop where
  at0 : QusAt W a cap D
  len : D.length = len
  room : ∀ q ∈ D, q.name.size ≤ k
  few : D.length ≤ k
theorem open_recs {H : Type} {enc : TypeId × Value → H} {W : World} {spare : Nat → Bool} {fuel : Nat} {vs : List Value} {x : DataW H × List MemPlace}
    (hf : DataW.trod enc Try.prog W 0 spare true fuel 25 vs = some x) : ∃ a len cap D, vs = [.slice a len cap] ∧ RecsIn W a len cap D (Rows.uptoBulk x.1) := by
  obtain ⟨a, len, cap, e, h1, h2, h4, h3⟩ := open_rowsB recL 23 (fun r y => Fit r ∧ RecLe r (Rows.uptoBulk y)) Try.underlying25 (by kernel_rfl) (by decide) (fun n cs y hl ht => rec_of_trod hl ht) hf
  rcases h3 with h3 | ⟨g, o, D, e2, hl, hq, hr, hg⟩
  · exact ⟨a, len, cap, [], e, ⟨⟨Nat.zero_le _, h2, (fun d hd => absurd hd (by simp)), .inl rfl⟩, h3.symm, (fun d hd => absurd hd (by simp)), Nat.zero_le _⟩⟩
  · refine ⟨a, len, cap, D, e, ⟨⟨by omega, h2, fun d hd => ?_, .inr ⟨g, o, e2, hg, hr⟩⟩, hl, fun d hd => ?_, by omega⟩⟩
    · obtain ⟨⟨y, hy, _⟩, _⟩ := hq d hd
      exact hy.1
    · obtain ⟨⟨y, hy, hk⟩, _⟩ := hq d hd
      exact ⟨Nat.le_trans hy.2.1 hk, Nat.le_trans hy.2.2.1 hk, Nat.le_trans hy.2.2.2 hk⟩
theorem open_qus {H : Type} {enc : TypeId × Value → H} {W : World} {spare : Nat → Bool} {fuel : Nat} {vs : List Value} {x : DataW H × List MemPlace}
    (hf : DataW.trod enc Try.prog W 0 spare true fuel 24 vs = some x) : ∃ a len cap D, vs = [.slice a len cap] ∧ QusIn W a len cap D (Rows.uptoBulk x.1) := by
  obtain ⟨a, len, cap, e, h1, h2, h4, h3⟩ := open_rowsB quL 3 (fun r y => FitQ r ∧ r.name.size ≤ Rows.uptoBulk y) Try.underlying24 (by kernel_rfl) (by decide) (fun n cs y hl ht => qu_of_trod hl ht) hf
  rcases h3 with h3 | ⟨g, o, D, e2, hl, hq, hr, hg⟩
  · exact ⟨a, len, cap, [], e, ⟨⟨Nat.zero_le _, h2, (fun d hd => absurd hd (by simp)), .inl rfl⟩, h3.symm, (fun d hd => absurd hd (by simp)), Nat.zero_le _⟩⟩
  · refine ⟨a, len, cap, D, e, ⟨⟨by omega, h2, fun d hd => ?_, .inr ⟨g, o, e2, hg, hr⟩⟩, hl, fun d hd => ?_, by omega⟩⟩
    · obtain ⟨⟨y, hy, _⟩, _⟩ := hq d hd
      exact hy.1
    · obtain ⟨⟨y, hy, hk⟩, _⟩ := hq d hd
      exact Nat.le_trans hy.2 hk
/-- A message that came in. -/
structure MsgGot (W : World) (m : Msg) (aq a1 a2 a3 : Option Addr) (cq c1 c2 c3 : Nat) (k : Nat) : Prop where
  qs : QusIn W aq m.qs.length cq m.qs k
  an : RecsIn W a1 m.an.length c1 m.an k
  au : RecsIn W a2 m.au.length c2 m.au k
  mo : RecsIn W a3 m.mo.length c3 m.mo k
  id : (Lit.int .i64 m.id).wf = true
  fl : (Lit.int .i64 m.fl).wf = true
theorem RecsIn.wider {W : World} {a : Option Addr} {len cap : Nat} {D : List Rec} {k k' : Nat} (h : RecsIn W a len cap D k) (hk : k ≤ k') : RecsIn W a D.length cap D k' :=
  ⟨h.at0, rfl, fun r hr => ⟨Nat.le_trans (h.room r hr).1 hk, Nat.le_trans (h.room r hr).2.1 hk, Nat.le_trans (h.room r hr).2.2 hk⟩, Nat.le_trans h.few hk⟩
theorem QusIn.wider {W : World} {a : Option Addr} {len cap : Nat} {D : List Qu} {k k' : Nat} (h : QusIn W a len cap D k) (hk : k ≤ k') : QusIn W a D.length cap D k' :=
  ⟨h.at0, rfl, fun r hr => Nat.le_trans (h.room r hr) hk, Nat.le_trans h.few hk⟩
theorem open_msg {H : Type} {enc : TypeId × Value → H} {W : World} {base : Nat} {spare : Nat → Bool} {v : Value} {d : DataW H} {ps : List MemPlace}
    (hok : Value.okWide Try.prog W .any base 27 v) (h : DataW.Trod enc Try.prog W 0 spare true 27 v d ps) :
    ∃ (m : Msg) (aq a1 a2 a3 : Option Addr) (cq c1 c2 c3 : Nat), v = msgV m aq a1 a2 a3 cq c1 c2 c3 ∧ MsgGot W m aq a1 a2 a3 cq c1 c2 c3 (Rows.uptoBulk d) := by
  have hs := Try.underlying27
  obtain ⟨cs, rfl, hsz, _⟩ : ∃ cs, v = .agg cs ∧ cs.size = Try.prog.cellsOf 27 ∧ Row.okWide Try.prog W .any base 27 cs := by
    simpa [Value.okWide, hs] using hok
  rw [show Try.prog.cellsOf 27 = 6 by kernel_rfl] at hsz
  obtain ⟨fuel, hf⟩ := h
  obtain ⟨y0, y1, y2, y3, y4, y5, n, hx, h0, h1, h2, h3, h4, h5⟩ := trod_struct6 hs hf
  have e0 : (Value.cells (.agg cs)).toList = cs.toList := rfl
  rw [e0] at h0 h1 h2 h3 h4 h5
  have cq : Try.prog.cellsOf 24 = 1 := by kernel_rfl
  have cr : Try.prog.cellsOf 25 = 1 := by kernel_rfl
  simp only [cells_int, cq, cr] at h0 h1 h2 h3 h4 h5
  obtain ⟨i, e1, _, s1⟩ := DataW.trod_int Try.underlying3 h0
  obtain ⟨f, e2, _, s2⟩ := DataW.trod_int Try.underlying3 h1
  obtain ⟨aq, nq, kq, Dq, e3, s3⟩ := open_qus h2
  obtain ⟨a1, n1, k1, D1, e4, s4⟩ := open_recs h3
  obtain ⟨a2, n2, k2, D2, e5, s5⟩ := open_recs h4
  obtain ⟨a3, n3, k3, D3, e6, s6⟩ := open_recs h5
  have hx : d = .agg [y0.1, y1.1, y2.1, y3.1, y4.1, y5.1] := hx
  have l2 : Rows.uptoBulk y2.1 ≤ Rows.uptoBulk d := by rw [hx]; exact bulk_agg (by simp)
  have l3 : Rows.uptoBulk y3.1 ≤ Rows.uptoBulk d := by rw [hx]; exact bulk_agg (by simp)
  have l4 : Rows.uptoBulk y4.1 ≤ Rows.uptoBulk d := by rw [hx]; exact bulk_agg (by simp)
  have l5 : Rows.uptoBulk y5.1 ≤ Rows.uptoBulk d := by rw [hx]; exact bulk_agg (by simp)
  refine ⟨⟨i, f, Dq, D1, D2, D3⟩, aq, a1, a2, a3, kq, k1, k2, k3, ?_, ⟨s3.wider l2, s4.wider l3, s5.wider l4, s6.wider l5, s1, s2⟩⟩
  unfold msgV
  congr 1
  apply Array.ext'
  have h6 : cs.toList.length = 6 := by simpa using hsz
  generalize cs.toList = l at *
  match l, h6 with
  | [u0, u1, u2, u3, u4, u5], _ =>
    simp at e1 e2 e3 e4 e5 e6
    rw [e1, e2, e3, e4, e5, e6, s3.len, s4.len, s5.len, s6.len]
theorem MsgGot.wider {W : World} {m : Msg} {aq a1 a2 a3 : Option Addr} {cq c1 c2 c3 k k' : Nat} (h : MsgGot W m aq a1 a2 a3 cq c1 c2 c3 k) (hk : k ≤ k') : MsgGot W m aq a1 a2 a3 cq c1 c2 c3 k' := ⟨h.qs.wider hk, h.an.wider hk, h.au.wider hk, h.mo.wider hk, h.id, h.fl⟩
theorem MsgGot.ins {W : World} {m : Msg} {aq a1 a2 a3 : Option Addr} {cq c1 c2 c3 k : Nat} (h : MsgGot W m aq a1 a2 a3 cq c1 c2 c3 k) : MsgIn W m aq a1 a2 a3 cq c1 c2 c3 := ⟨h.qs.at0, h.an.at0, h.au.at0, h.mo.at0⟩
end Go.Proofs.Ytmecdhlehekdeaa

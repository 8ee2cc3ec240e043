/- Texts that belong together, one behind the other: MatCount, MatStep, MatCont, MatAddrs, MatOwnCh, MatRefAn, MatOwn1, MatOwnTe, MatOwnAn, SolHear. -/
import Derived.Test.YtedmkdjijhflnaaGreatE8
import Derived.Shelf.Abstract
set_option linter.unusedVariables false
set_option linter.unusedSimpArgs false
set_option maxRecDepth 20000
namespace Go.Proofs.YtedmkdjijhflnaaGreat
open Go.RowKit

theorem filter_at {α : Type} (p : α → Bool) : ∀ (D : List α) (k : Nat) (hk : k < D.length), p D[k] = true → ∃ h : ((D.take k).filter p).length < (D.filter p).length, (D.filter p)[((D.take k).filter p).length] = D[k]
  | x :: D, 0, _, hp => by
    have : p x = true := hp
    simp [List.filter_cons, this]
  | x :: D, k + 1, hk, hp => by
    obtain ⟨h, e⟩ := filter_at p D k (by simpa using hk) (by simpa using hp)
    cases hx : p x with
    | true =>
      simp only [List.take_succ_cons, List.filter_cons, hx, if_true, List.length_cons, List.getElem_cons_succ]
      exact ⟨by omega, e⟩
    | false =>
      simp only [List.take_succ_cons, List.filter_cons, hx, Bool.false_eq_true, if_false, List.getElem_cons_succ]
      exact ⟨h, e⟩
theorem filter_next {α : Type} (p : α → Bool) (D : List α) (k : Nat) (hk : k < D.length) : ((D.take (k + 1)).filter p).length = ((D.take k).filter p).length + (if p D[k] then 1 else 0) := by
  rw [List.take_succ_eq_append_getElem hk, List.filter_append, List.length_append]
  congr 1
  cases h : p D[k] <;> simp [h]
structure CountAt (w : World) (Bl Bk Bn : Nat) (a : Option Addr) (c : Nat) (D : List Rec) (nm : ByteArray) (kd : Int) : Prop where
  l : w.cell? ⟨Bl, 0, none⟩ = some (.slice a D.length c)
  k : w.cell? ⟨Bk, 0, none⟩ = some (.int .i64 kd)
  n : w.cell? ⟨Bn, 0, none⟩ = some (.string nm)
  r : RecsAt w a c D
theorem CountAt.keep {n : Nat} {M : List Nat} {w w' : World} {Bl Bk Bn : Nat} {a : Option Addr} {c : Nat} {D : List Rec} {nm : ByteArray} {kd : Int} (h : CountAt w Bl Bk Bn a c D nm kd) (hk : Keep n M w w') (h1 : Bl < n ∧ Bl ∉ M) (h2 : Bk < n ∧ Bk ∉ M) (h3 : Bn < n ∧ Bn ∉ M) (h4 : D.length = 0 ∨ ∀ x, a = some x → x.block < n ∧ x.block ∉ M) : CountAt w' Bl Bk Bn a c D nm kd := by
  refine ⟨(hk.cell h1.1 h1.2).trans h.l, (hk.cell h2.1 h2.2).trans h.k, (hk.cell h3.1 h3.2).trans h.n, h.r.1, h.r.2.1, h.r.2.2.1, ?_⟩
  rcases h.r.2.2.2 with e | ⟨g, o, e, hg, hr⟩
  · exact .inl e
  · rcases h4 with h4 | h4
    · exact .inl h4
    · exact .inr ⟨g, o, e, Nat.lt_of_lt_of_le hg hk.size, fun j u hu => (hk.cell (h4 _ e).1 (h4 _ e).2).trans (hr j u hu)⟩
theorem below_newR {w W : World} {r : Rec} (h : Hid (W = (w.alloc (.cells zC 71)).setCells w.heap.size 0 (recL r))) : Below w.heap.size w W := by
  rw [h.out]
  exact below_cells (Nat.le_refl _) _ _ _ ((Below.refl _ _).alloc (Nat.le_refl _) _)
set_option maxRecDepth 100000 in
set_option maxHeartbeats 4000000 in
theorem count_tells (Bl Bk Bn : Nat) (a : Option Addr) (c : Nat) (D : List Rec) (nm : ByteArray) (kd : Int) (M : List Nat) (w : World) (hC : CountAt w Bl Bk Bn a c D nm kd) (h1 : Bl ∉ M) (h2 : Bk ∉ M) (h3 : Bn ∉ M) (h4 : D.length = 0 ∨ ∀ x, a = some x → x.block ∉ M) (hD : All2 D) (hnm : nm.size ≤ 2000000) (hl : D.length ≤ 900) :
    TellsG Tryz.prog 133 #[.pointer (some ⟨Bl, 0, none⟩), .pointer (some ⟨Bk, 0, none⟩), .pointer (some ⟨Bn, 0, none⟩)] (D.filter (isRec nm kd)) recV M w := by
  intro l J X W hb hJ hX hY h0
  have HBL : Hid (Bl < w.heap.size ∧ Bk < w.heap.size ∧ Bn < w.heap.size) := Lib.hid ⟨World.block_lt_of_cell? w ⟨Bl, 0, none⟩ hC.l, World.block_lt_of_cell? w ⟨Bk, 0, none⟩ hC.k, World.block_lt_of_cell? w ⟨Bn, 0, none⟩ hC.n⟩
  have HRB : Hid (D.length = 0 ∨ ∀ x, a = some x → x.block < w.heap.size ∧ x.block ∉ M) := Lib.hid (by
    rcases hC.r.2.2.2 with e | ⟨g, o, e, hg, _⟩
    · exact .inl e
    · rcases h4 with h4 | h4
      · exact .inl h4
      · exact .inr fun x hx => ⟨by rw [e] at hx; cases hx; exact hg, h4 x hx⟩)
  have HKP : Hid (∀ V V', CountAt V Bl Bk Bn a c D nm kd → Keep w.heap.size M V V' → CountAt V' Bl Bk Bn a c D nm kd) := Lib.hid (fun V V' hV hk => hV.keep hk ⟨HBL.out.1, h1⟩ ⟨HBL.out.2.1, h2⟩ ⟨HBL.out.2.2, h3⟩ HRB.out)
  have HC : Hid (CountAt W Bl Bk Bn a c D nm kd) := Lib.hid (HKP.out _ _ hC (Keep.ofBelow M hb (Nat.le_refl _)))
  have HWZ : Hid (w.heap.size ≤ W.heap.size) := Lib.hid hb.size
  have HJ := Lib.hid hJ
  have HY := Lib.hid hY
  have H0 := Lib.hid h0
  have HD := Lib.hid hD
  have HNM := Lib.hid hnm
  obtain ⟨N, hN⟩ : ∃ N, D.length = N := ⟨_, rfl⟩
  have HN := Lib.hid hN
  have hcl := HC.out.l
  rw [hN] at hl hcl
  clear hC h1 h2 h3 h4 hJ hY h0 hb hD hnm hN hX
  refine callsIn_of_wp Tryz.func133 rfl trivial (wpIn_wide.2 ?_)
  simp only [Tryz.ntmps133, List.size_toArray, List.length_cons, List.length_nil, Nat.reduceAdd, Nat.reduceSub, Array.replicate_succ, Array.replicate_zero, List.push_toArray, List.append_toArray, List.nil_append, List.cons_append]
  go_wp2_with fail
  clear hcl
  go_loopw [6, 9] (fun _ i wr => ∃ k : Nat, k ≤ N ∧ i = .int .i64 (k : Int) ∧ Hid (J ((D.take k).filter (isRec nm kd)).length wr) ∧ Hid (CountAt wr Bl Bk Bn a c D nm kd) ∧ Hid (w.heap.size ≤ wr.heap.size)) (fun _ i _ => N - (intOf i).toNat)
  case atStart => exact ⟨0, Nat.zero_le _, rfl, H0, HC, HWZ⟩
  case round =>
    clear H0 HC HWZ
    obtain ⟨k, hk, rfl, HJk, HC, HWZ⟩ := hrel
    by_cases hkN : k < N
    · have hd : decide ((k : Int) < (N : Int)) = true := decide_eq_true (by omega)
      have hdn : decide (k < N) = true := decide_eq_true hkN
      have hkD : k < D.length := by rw [HN.out]; exact hkN
      obtain ⟨g, o, rfl, hg, hr⟩ := HC.out.r.at k hkD
      have HFN := Lib.hid (filter_next (isRec nm kd) D k hkD)
      have HFA := Lib.hid (filter_at (isRec nm kd) D k hkD)
      have HH := HD.out _ (List.getElem_mem hkD)
      have H16 := Lib.hid (HC.out.r.2.2.1 _ (List.getElem_mem hkD)).1
      have hi1 := isRec_no1 (nm := nm) (kd := kd) (r := D[k])
      have hi2 := isRec_no2 (nm := nm) (kd := kd) (r := D[k])
      have hi3 := isRec_is (nm := nm) (kd := kd) (r := D[k])
      have HYK : Hid (isRec nm kd D[k] = true → ∀ W1, J ((D.take k).filter (isRec nm kd)).length W1 → YieldAt Fence.wide 0 Tryz.prog l #[recV D[k]] W1 fun e W' => (e = .returned (.bool true) ∧ J (((D.take k).filter (isRec nm kd)).length + 1) W' ∧ Keep w.heap.size M W1 W') ∨ (e = .returned (.bool false) ∧ X W')) := Lib.hid (fun hi W1 h => by
        obtain ⟨hlt, e⟩ := HFA.out hi
        have := HY.out _ hlt W1 h
        rw [e] at this
        exact this)
      have HRR := Lib.hid hr
      obtain ⟨cnt, hcnt⟩ : ∃ cnt, ((D.take k).filter (isRec nm kd)).length = cnt := ⟨_, rfl⟩
      rw [hcnt] at HJk HFN HYK
      clear HFA HY hcnt hr
      generalize D[k] = r at *
      have hb1 : (0 : Int) ≤ (k : Int) := by omega
      have hb2 : (k : Int) < (N : Int) := by omega
      have HZ := Lib.hid (rec_zeroed wr)
      go_upto_region 3 with (first | refine load_rec H16 HRR _ rfl rfl rfl ?_ | refine store_rec HZ _ _ H16 rfl rfl rfl rfl (fun W1 HW1 HE1 => ?_))
      have hb5 := below_newR HW1
      have HC1 := Lib.hid (HKP.out wr W1 HC.out (Keep.ofBelow M hb5 HWZ.out))
      have HJ1 := Lib.hid (HJ.out cnt _ _ HJk.out hb5)
      have HW2 : Hid (w.heap.size ≤ W1.heap.size) := Lib.hid (Nat.le_trans HWZ.out hb5.size)
      have HP := Lib.hid HE1.out.parts
      obtain ⟨R, hR⟩ : ∃ R, wr.heap.size = R := ⟨_, rfl⟩
      rw [hR] at HE1 HP
      try rw [hR]
      clear hb5 HZ HRR HC HJk HWZ hg HW1 hR
      have r0 : W1.cell? ⟨R, 0, none⟩ = some (.string r.name) := HP.out.name
      have r1 : W1.cell? ⟨R, 1, none⟩ = some (.int .i64 r.ty) := HP.out.ty
      have r2 : W1.cell? ⟨R, 2, none⟩ = some (.int .i64 r.cl) := HP.out.cl
      have ck := HC1.out.k
      have cn := HC1.out.n
      by_cases ht : r.ty = kd
      · have hq1 : decide (r.ty = kd) = true := decide_eq_true ht
        have hq1b : (r.ty == kd) = true := by simp [ht]
        by_cases hc : r.cl = 1
        · have hq2 : decide (r.cl = 1) = true := decide_eq_true hc
          have hq2b : (r.cl == 1) = true := by simp [hc]
          have hii := hi3 ht hc
          have HLK := fun V => Lib.hid (like_any r.name nm V HH.1 HNM.out)
          rw [← hii] at HLK
          clear hi1 hi2 hi3 hii ht hc
          cases hir : isRec nm kd r with
          | false =>
            have HFN2 : Hid (((D.take (k + 1)).filter (isRec nm kd)).length = cnt) := Lib.hid (by have := HFN.out; rw [hir] at this; simpa using this)
            rw [hir] at HLK
            clear hir HYK HFN
            go_wp2_with fail
            refine (HLK _).out.mono ?_
            rintro e w2 ⟨rfl, qq, hq2⟩
            have hb : Below W1.heap.size W1 w2 := by rw [hq2]; exact belowN (Below.refl _ _) _
            have HC2 := Lib.hid (HKP.out _ _ HC1.out (Keep.ofBelow M hb HW2.out))
            have HJ2 := Lib.hid (HJ.out cnt _ _ HJ1.out hb)
            have HW3 : Hid (w.heap.size ≤ w2.heap.size) := Lib.hid (Nat.le_trans HW2.out hb.size)
            clear hb hq2 HC1 HJ1 HW2 HLK r0 r1 r2 ck cn HP HE1
            go_wp2_with fail
            go_roundw
            case rel => exact ⟨k + 1, by omega, by go_num, Lib.hid (by rw [HFN2.out]; exact HJ2.out), HC2, HW3⟩
            case measure => simp [intOf]; omega
          | true =>
            have HFN2 : Hid (((D.take (k + 1)).filter (isRec nm kd)).length = cnt + 1) := Lib.hid (by have := HFN.out; rw [hir] at this; simpa using this)
            have HYK2 := Lib.hid (HYK.out hir)
            rw [hir] at HLK
            clear hir HYK HFN
            refine region_split 18 rfl ?_
            simp only [List.take_succ_cons, List.take_zero, List.drop_succ_cons, List.drop_zero]
            go_wp2_with (refine load_recAt HE1 _ rfl rfl rfl ?_)
            refine (HLK _).out.mono ?_
            rintro e w2 ⟨rfl, qq, hq2⟩
            have hb : Below W1.heap.size W1 w2 := by rw [hq2]; exact belowN (Below.refl _ _) _
            have HC2 := Lib.hid (HKP.out _ _ HC1.out (Keep.ofBelow M hb HW2.out))
            have HJ2 := Lib.hid (HJ.out cnt _ _ HJ1.out hb)
            have HW3 : Hid (w.heap.size ≤ w2.heap.size) := Lib.hid (Nat.le_trans HW2.out hb.size)
            have HE2 := Lib.hid (HE1.out.below hb)
            clear hb hq2 HC1 HJ1 HW2 HLK r0 r1 r2 ck cn HP HE1
            go_wp2_with (refine load_recAt HE2 _ rfl rfl rfl ?_)
            try simp only [true_and]
            refine restIn ?_
            refine yield_step (HYK2.out _ HJ2.out) rfl _ _ rfl rfl rfl ?_
            rintro e w3 (⟨rfl, hj3, hk3⟩ | ⟨rfl, hx⟩)
            · have HJ3 := Lib.hid hj3
              have HC3 := Lib.hid (HKP.out _ _ HC2.out hk3)
              have HW4 : Hid (w.heap.size ≤ w3.heap.size) := Lib.hid (Nat.le_trans HW3.out hk3.size)
              clear hj3 hk3 HC2 HJ2 HW3 HE2 HYK2
              refine ⟨_, rfl, ?_⟩
              refine wide_step (v := .bool false) rfl rfl ?_
              refine wide_step (v := .bool false) rfl rfl ?_
              refine wpListIn_nil ?_
              go_wp2_with fail
              go_roundw
              case rel => exact ⟨k + 1, by omega, by go_num, Lib.hid (by rw [HFN2.out]; exact HJ3.out), HC3, HW4⟩
              case measure => simp [intOf]; omega
            · have HX := Lib.hid hx
              clear hx HC2 HJ2 HW3 HE2 HYK2
              refine ⟨_, rfl, ?_⟩
              refine wide_step (v := .bool true) rfl rfl ?_
              refine wide_step (v := .bool true) rfl rfl ?_
              refine wpListIn_nil ?_
              go_wp2_with fail
              first
                | exact bodyPost_ret (results_none rfl _ _) rfl ⟨⟨_, rfl⟩, .inr HX.out⟩
                | exact bodyPost_ret (results_none rfl _ _ _) rfl ⟨⟨_, rfl⟩, .inr HX.out⟩
                | trace_state
        · have hq2 : decide (r.cl = 1) = false := decide_eq_false hc
          have hq2b : (r.cl == 1) = false := by simpa using hc
          have hii := hi2 hc
          have HFN2 : Hid (((D.take (k + 1)).filter (isRec nm kd)).length = cnt) := Lib.hid (by have := HFN.out; rw [hii] at this; simpa using this)
          clear hi1 hi2 hi3 hii ht hc HYK HFN
          go_wp2_with fail
          go_roundw
          case rel => exact ⟨k + 1, by omega, by go_num, Lib.hid (by rw [HFN2.out]; exact HJ1.out), HC1, HW2⟩
          case measure => simp [intOf]; omega
      · have hq1 : decide (r.ty = kd) = false := decide_eq_false ht
        have hq1b : (r.ty == kd) = false := by simpa using ht
        have hii := hi1 ht
        have HFN2 : Hid (((D.take (k + 1)).filter (isRec nm kd)).length = cnt) := Lib.hid (by have := HFN.out; rw [hii] at this; simpa using this)
        clear hi1 hi2 hi3 hii ht HYK HFN
        go_wp2_with fail
        go_roundw
        case rel => exact ⟨k + 1, by omega, by go_num, Lib.hid (by rw [HFN2.out]; exact HJ1.out), HC1, HW2⟩
        case measure => simp [intOf]; omega
    · obtain rfl : k = N := by omega
      have hd : decide ((k : Int) < (k : Int)) = false := by simp
      have HJN : Hid (J (D.filter (isRec nm kd)).length wr) := Lib.hid (by have := HJk.out; rwa [List.take_of_length_le (by rw [HN.out]; exact Nat.le_refl _)] at this)
      go_wp2_with fail
      go_end0
      exact ⟨⟨_, rfl⟩, .inl HJN.out⟩
end Go.Proofs.YtedmkdjijhflnaaGreat
namespace Go.Proofs.YtedmkdjijhflnaaGreat
open Go.RowKit

theorem func_nil0 (w : World) (d k : Nat) (c : Array Value) : (Op.equalIn (d + 1) 214 (.func (.func k) #[] c) .nilFunc).run Tryz.prog w = .ok false w := by
  simp [Op.equalIn, run_underlying Tryz.underlying214]
theorem func_nil (w : World) (k : Nat) (c : Array Value) : (binOp .eql 214 (.func (.func k) #[] c) .nilFunc).run Tryz.prog w = .ok (.bool false) w := by
  have := func_nil0 w 9999 k c
  simp only [binOp, Op.equal, Sem.run_bind]
  rw [show Op.maxDepth = 9999 + 1 from rfl, this]
  rfl
set_option maxRecDepth 100000 in
theorem counting_any (nm : ByteArray) (kd : Int) (a : Option Addr) (c : Nat) (D : List Rec) (w : World) (hA : RecsAt w a c D) :
    Calls Tryz.prog 116 #[.string nm, .int .i64 kd, .slice a D.length c] w fun e w' => e = .returned (.func (.func 133) #[] #[.pointer (some ⟨w.heap.size + 2, 0, none⟩), .pointer (some ⟨w.heap.size + 1, 0, none⟩), .pointer (some ⟨w.heap.size, 0, none⟩)]) ∧ CountAt w' (w.heap.size + 2) (w.heap.size + 1) w.heap.size a c D nm kd ∧ Below w.heap.size w w' ∧ w'.heap.size = w.heap.size + 3 := by
  have HB : Hid (Below w.heap.size w (((w.alloc (.cells #[.string nm] 9)).alloc (.cells #[.int .i64 kd] 3)).alloc (.cells #[.slice a D.length c] 37))) := Lib.hid ((((Below.refl _ _).alloc (Nat.le_refl _) _).alloc (by simp) _).alloc (by simp; omega) _)
  have HC : Hid (CountAt (((w.alloc (.cells #[.string nm] 9)).alloc (.cells #[.int .i64 kd] 3)).alloc (.cells #[.slice a D.length c] 37)) (w.heap.size + 2) (w.heap.size + 1) w.heap.size a c D nm kd) := Lib.hid (by
    refine ⟨?_, ?_, ?_, hA.below HB.out⟩
    · have := (CellsAt.new ((w.alloc (.cells #[.string nm] 9)).alloc (.cells #[.int .i64 kd] 3)) 37 [.slice a D.length c]).cell 0 _ rfl
      simpa using this
    · have := ((CellsAt.new (w.alloc (.cells #[.string nm] 9)) 3 [.int .i64 kd]).below ((Below.refl _ _).alloc (Nat.le_refl _) (.cells #[.slice a D.length c] 37))).cell 0 _ rfl
      simpa using this
    · exact ((CellsAt.new w 9 [.string nm]).below (((Below.refl _ _).alloc (Nat.le_refl _) _).alloc (by simp) _)).cell 0 _ rfl)
  clear hA
  generalize D.length = n at *
  go_enter Tryz.func116, Tryz.ntmps116
  go_wp2_with fail
  go_ret
  exact ⟨rfl, HC.out, HB.out, by simp⟩
theorem RecAt.upto {w w' : World} {G n : Nat} {r : Rec} (h : RecAt w G r) (hb : Below n w w') (hG : G < n) : RecAt w' G r :=
  ⟨h.len, Nat.lt_of_lt_of_le h.lt hb.size, fun j u hu => by rw [World.cell?_of_block (w := w) (a := ⟨G, 0 + j, none⟩) (hb.block G hG)]; exact h.range j u hu, fun j hj => by
    rw [World.cell?_of_block (w := w) (a := ⟨G, 0 + j, none⟩) (hb.block G hG), World.frozen?_of_block (w := w) (a := ⟨G, 0 + j, none⟩) (hb.block G hG)]; exact h.there j hj⟩
theorem CellsAt.upto {w w' : World} {G n : Nat} {vs : List Value} (h : CellsAt w G vs) (hb : Below n w w') (hG : G < n) : CellsAt w' G vs :=
  ⟨Nat.lt_of_lt_of_le h.lt hb.size, fun j u hu => by rw [World.cell?_of_block (w := w) (a := ⟨G, 0 + j, none⟩) (hb.block G hG)]; exact h.range j u hu, fun j hj => by
    rw [World.cell?_of_block (w := w) (a := ⟨G, 0 + j, none⟩) (hb.block G hG), World.frozen?_of_block (w := w) (a := ⟨G, 0 + j, none⟩) (hb.block G hG)]; exact h.there j hj⟩
def stepV : Option Rec → Value
  | some r => .tuple #[recV r, .bool true]
  | none => .tuple #[recV zR, .bool false]
theorem results_recB {fn : Func} {a b : Tmp} {tmps : Array Value} {W : World} {R Rb : Nat} {r : Rec} {t : Bool} (h : fn.results = #[.cell a 71, .cell b 4]) (ha : tmps.getD a undef = .pointer (some ⟨R, 0, none⟩)) (hb : tmps.getD b undef = .pointer (some ⟨Rb, 0, none⟩))
    (hA : RecAt W R r) (hc : W.cell? ⟨Rb, 0, none⟩ = some (.bool t)) : (results fn tmps).run Tryz.prog W = .ok (.tuple #[recV r, .bool t]) W := by
  have hl : (loadVar 4 ⟨Rb, 0, none⟩).run Tryz.prog W = .ok (.bool t) W := by
    simp [go_sem, hc]
  rw [Array.getD_eq_getD_getElem?] at ha hb
  simp [results, h, ha, hb, asAddr, loadVar_rec hA, hl]
set_option maxRecDepth 100000 in
set_option maxHeartbeats 4000000 in
theorem step_any (nm : ByteArray) (a : Option Addr) (c : Nat) (D : List Rec) (w : World) (hA : RecsAt w a c D) (hD : All2 D) (hnm : nm.size ≤ 2000000) (hl : D.length ≤ 900) :
    Calls Tryz.prog 115 #[.string nm, .slice a D.length c] w fun e w' => e = .returned (stepV (nextR D nm)) ∧ Below w.heap.size w w' := by
  obtain ⟨W0, hW0⟩ : ∃ W0, (w.alloc (.cells zC 71)).alloc (.cells #[.bool false] 4) = W0 := ⟨_, rfl⟩
  have HB0 : Hid (Below w.heap.size w W0) := Lib.hid (by rw [← hW0]; exact ((Below.refl _ _).alloc (Nat.le_refl _) _).alloc (by simp) _)
  have HS0 : Hid (W0.heap.size = w.heap.size + 2) := Lib.hid (by rw [← hW0]; simp)
  have HR0 : Hid (RecAt W0 w.heap.size zR) := Lib.hid (by rw [← hW0]; exact (rec_zeroed w).below ((Below.refl _ _).alloc (Nat.le_refl _) _))
  have HC0 : Hid (CellsAt W0 (w.heap.size + 1) [.bool false]) := Lib.hid (by
    have := CellsAt.new (w.alloc (.cells zC 71)) 4 [.bool false]
    rw [← hW0]; simpa using this)
  have HCN := Lib.hid (counting_any nm 5 a c D W0 (hA.below HB0.out))
  have HFL : Hid (All2 D ∧ nm.size ≤ 2000000 ∧ D.length ≤ 900 ∧ ∀ r ∈ D, r.b.length = 16) := Lib.hid ⟨hD, hnm, hl, fun r hr => (hA.2.2.1 r hr).1⟩
  have HNX : Hid (nextR D nm = (D.filter (isRec nm 5)).head?) := Lib.hid (find_filter D _)
  have HTG := fun V M h1 h2 h3 h4 => fun (hC : CountAt V (W0.heap.size + 2) (W0.heap.size + 1) W0.heap.size a c D nm 5) => Lib.hid (count_tells _ _ _ a c D nm 5 M V hC h1 h2 h3 h4 hD hnm hl)
  clear hA hD hnm hl
  obtain ⟨N, hN⟩ : ∃ N, D.length = N := ⟨_, rfl⟩
  rw [hN] at HCN ⊢
  clear hN
  refine (callsIn_wide (n := 0)).1 (callsIn_of_wp_marks Tryz.func115 rfl trivial (wpIn_wide.2 ?_) rfl)
  simp only [Tryz.ntmps115, List.size_toArray, List.length_cons, List.length_nil, Nat.reduceAdd, Nat.reduceSub, Array.replicate_succ, Array.replicate_zero, List.push_toArray, List.append_toArray, List.nil_append, List.cons_append]
  go_upto_region 1 with fail
  try rw [hW0]
  clear hW0
  go_wp2_with fail
  refine HCN.out.mono ?_
  rintro e w1 ⟨rfl, hc1, hb1, hs1⟩
  have qf := func_nil
  have HC1 := Lib.hid hc1
  have HB1 := Lib.hid hb1
  have HS1 : Hid (w1.heap.size = w.heap.size + 5) := Lib.hid (by rw [hs1, HS0.out])
  have HT1 := HTG w1 [] (by simp) (by simp) (by simp) (.inr (by simp)) hc1
  have HR1 := Lib.hid (HR0.out.below hb1)
  have HX1 := Lib.hid (HC0.out.below hb1)
  have HBW := Lib.hid (chain HB0.out hb1)
  clear hc1 hb1 hs1 HCN HTG
  have FIN : Hid (∀ (W' : World) (tm : Array Value) (r : Rec) (t : Bool), tm.getD 4 undef = .pointer (some ⟨w.heap.size, 0, none⟩) → tm.getD 5 undef = .pointer (some ⟨w.heap.size + 1, 0, none⟩) → RecAt W' w.heap.size r → CellsAt W' (w.heap.size + 1) [.bool t] → W'.heap[w1.heap.size]? = some (.deferred (some [])) → Below w.heap.size w W' → Value.tuple #[recV r, .bool t] = stepV (nextR D nm) →
      bodyPostM Fence.wide 0 Tryz.prog Tryz.f115 (fun e w' => e = .returned (stepV (nextR D nm)) ∧ Below w.heap.size w w') .ret { tmps := tm, defers := [{ target := .collected w1.heap.size, args := #[] }] } W') := Lib.hid (fun W' tm r t h4 h5 hE hC hD hB hr => by
    have hS := HS1.out
    refine ⟨by simp, .inl ⟨_, _, rfl, run_takeDeferred hD, ?_⟩⟩
    have hb : Below w1.heap.size W' (W'.putObj w1.heap.size (.deferred none)) := below_put _ (Nat.le_refl _)
    have hk : Keep w1.heap.size [] W' (W'.putObj w1.heap.size (.deferred none)) := Keep.ofBelow [] hb (Nat.le_refl _)
    refine ⟨_, results_recB (R := w.heap.size) (Rb := w.heap.size + 1) rfl h4 h5 ?_ ?_, by rw [hr], hB.trans (hb.mono (by omega))⟩
    · exact ⟨hE.len, Nat.lt_of_lt_of_le hE.lt hb.size, fun j u hu => (hk.cell (by omega) (by simp)).trans (hE.range j u hu), fun j hj => by
        rw [hk.cell (by omega) (by simp), World.frozen?_of_block (w := W') (a := ⟨w.heap.size, 0 + j, none⟩) (hb.block _ (by show w.heap.size < _; omega))]; exact hE.there j hj⟩
    · rw [hk.cell (by omega) (by simp)]; exact hC.cell 0 _ rfl)
  go_wp2_with fail
  refine range_first (gf := 133) (lb := #[.pointer (some ⟨W0.heap.size + 2, 0, none⟩), .pointer (some ⟨W0.heap.size + 1, 0, none⟩), .pointer (some ⟨W0.heap.size, 0, none⟩)]) rfl (enters_of Tryz.func133 (by kernel_rfl) rfl) (D.filter (isRec nm 5)) recV w1 [] HT1.out (Below.refl _ _) [w.heap.size, w.heap.size + 1] (by have := HS1.out; simp; omega)
    (fun W => ∃ r, nextR D nm = some r ∧ RecAt W w.heap.size r ∧ CellsAt W (w.heap.size + 1) [.bool true] ∧ Below w.heap.size w W)
    (fun A B ⟨r, h1, h2, h3, h4⟩ hb => ⟨r, h1, h2.upto hb (by have := HS1.out; omega), h3.upto hb (by have := HS1.out; omega), h4.trans (hb.mono (by have := HS1.out; omega))⟩)
    ?round ?done ?stop
  case round =>
    intro hk W hlW hbW
    obtain ⟨x, hx⟩ : ∃ x, (D.filter (isRec nm 5))[0] = x := ⟨_, rfl⟩
    have HNX2 : Hid (nextR D nm = some x) := Lib.hid (by rw [HNX.out, List.head?_eq_getElem?, List.getElem?_eq_getElem hk, hx])
    have H16 : Hid (x.b.length = 16) := Lib.hid (HFL.out.2.2.2 x (next_mem HNX2.out).1)
    rw [hx]
    have HZ := Lib.hid (rec_zeroed W)
    have HLW := Lib.hid hlW
    clear hk hx hlW hbW qf
    refine round_region rfl (fun ⟨_, _, h⟩ => h) ?_
    simp only [List.setIfInBounds_toArray, List.set_cons_succ, List.set_cons_zero]
    go_wp2_with (refine store_rec HZ _ _ H16 rfl rfl rfl rfl (fun W3 HW3 HE3 => ?_))
    refine ⟨below_newR HW3, fun w₂ hf2 hbw2 => ?_⟩
    have HB3 := Lib.hid (below_newR HW3)
    have HX3 : Hid (RecAt w₂ W.heap.size x) := Lib.hid ⟨H16.out, Nat.lt_of_lt_of_le HE3.out.lt hf2.size, range_foot hf2 HE3.out.range HE3.out.lt (by have := HLW.out; simp; omega), fun j hj => by
      rw [World.cell?_of_block (w := W3) (a := ⟨W.heap.size, 0 + j, none⟩) (hf2.keep _ HE3.out.lt (by have := HLW.out; simp; omega)), World.frozen?_of_block (w := W3) (a := ⟨W.heap.size, 0 + j, none⟩) (hf2.keep _ HE3.out.lt (by have := HLW.out; simp; omega))]; exact HE3.out.there j hj⟩
    have HB2 := Lib.hid hbw2
    have HR2 : Hid (RecAt w₂ w.heap.size zR) := Lib.hid (HR1.out.upto hbw2 (by have := HS1.out; omega))
    have HX2 : Hid (CellsAt w₂ (w.heap.size + 1) [.bool false]) := Lib.hid (HX1.out.upto hbw2 (by have := HS1.out; omega))
    have HG : Hid (∀ V U, V = w₂.setCells w.heap.size 0 (recL x) → RecAt V w.heap.size x → U = V.setCell ⟨w.heap.size + 1, 0, none⟩ (.bool true) → CellsAt V (w.heap.size + 1) [.bool false] → Keep (w1.heap.size + 2) [w.heap.size, w.heap.size + 1] w₂ U ∧ ∃ r, nextR D nm = some r ∧ RecAt U w.heap.size r ∧ CellsAt U (w.heap.size + 1) [.bool true] ∧ Below w.heap.size w U) := Lib.hid (fun V U hV hE hU hc => by
      have hs := HS1.out
      have b1 : Below w.heap.size w₂ V := by rw [hV]; exact below_cells (Nat.le_refl _) _ _ _ (Below.refl _ _)
      have b2 : Below w.heap.size V U := by rw [hU]; exact (Below.refl _ _).setCell (by show w.heap.size ≤ w.heap.size + 1; omega) _
      refine ⟨⟨(b1.trans b2).os, (b1.trans b2).tape, (b1.trans b2).output, (b1.trans b2).size, fun j _ hn => ?_⟩, x, HNX2.out, ?_, ?_, ?_⟩
      · simp at hn
        rw [hU, heap_setCell_otherM _ _ _ _ _ hn.2, hV, heap_setCells_other _ _ _ _ _ hn.1]
      · rw [hU]; exact hE.other (by omega) _ _
      · rw [hU]; exact hc.set 0 _ (by simp)
      · exact (HBW.out.trans (HB2.out.mono (by omega))).trans (b1.trans b2))
    clear HZ HW3 HE3 hf2 hbw2 HB3
    refine wpIn_block (wpIn_seq ?_)
    refine round_region rfl (fun ⟨_, _, h⟩ => by cases h.1) ?_
    go_wp2_with (first | refine load_recAt HX3 _ rfl rfl rfl ?_ | (refine store_rec HR2 _ _ H16 rfl rfl rfl rfl (fun V HV HEV => ?_); have HXV : Hid (CellsAt V (w.heap.size + 1) [.bool false]) := Lib.hid (by rw [HV.out]; exact HX2.out.apart (by omega) _); have hcb2 := HXV.out.cell 0 _ rfl; have hfb2 := HXV.out.live 0 (by simp)))
    refine wpIn_ret ?_
    obtain ⟨h1, h2⟩ := HG.out V _ HV.out HEV.out rfl HXV.out
    exact ⟨rfl, h1, h2⟩
  case done =>
    intro W hx hb hD
    have HNX2 : Hid (nextR D nm = none) := Lib.hid (by rw [HNX.out, hx]; rfl)
    have HB2 := Lib.hid hb
    have HDF := Lib.hid hD
    have HR2 : Hid (RecAt W w.heap.size zR) := Lib.hid (HR1.out.upto hb (by have := HS1.out; omega))
    have HX2 : Hid (CellsAt W (w.heap.size + 1) [.bool false]) := Lib.hid (HX1.out.upto hb (by have := HS1.out; omega))
    have L16 : Hid (zR.b.length = 16) := Lib.hid rfl
    clear hx hb hD qf
    go_wp2_with (first | refine build_rec0 rfl rfl ?_ | (refine store_rec HR2 _ _ L16 rfl rfl rfl rfl (fun V HV HEV => ?_); have HXV : Hid (CellsAt V (w.heap.size + 1) [.bool false]) := Lib.hid (by rw [HV.out]; exact HX2.out.apart (by omega) _); have hcb2 := HXV.out.cell 0 _ rfl; have hfb2 := HXV.out.live 0 (by simp)))
    have hs := HS1.out
    refine FIN.out _ _ zR false rfl rfl (HEV.out.other (by omega) _ _) (HXV.out.set 0 _ (by simp)) ?_ ?_ (by rw [HNX2.out]; rfl)
    · rw [heap_setCell_otherM _ _ _ _ _ (by omega), HV.out, heap_setCells_other _ _ _ _ _ (by omega)]; exact HDF.out
    · refine (HBW.out.trans (HB2.out.mono (by omega))).trans ?_
      refine Below.setCell ?_ (by show w.heap.size ≤ w.heap.size + 1; omega) _
      rw [HV.out]
      exact below_cells (Nat.le_refl _) _ _ _ (Below.refl _ _)
  case stop =>
    rintro W ⟨r, h1, h2, h3, h4⟩ hD
    exact FIN.out W _ r true rfl rfl h2 h3 hD h4 (by rw [h1]; rfl)
end Go.Proofs.YtedmkdjijhflnaaGreat
namespace Go.Proofs.YtedmkdjijhflnaaGreat
open Go.RowKit

set_option maxRecDepth 100000 in
set_option maxHeartbeats 1000000 in
theorem index_any (a : Option Addr) (c : Nat) (D : List (Int × List Nat)) (r : Int × List Nat) (w : World) (hD : AdsAt w a c D) (h16 : r.2.length = 16) :
    Calls Tryz.prog 134 #[.slice a D.length c, addrV r.1 r.2] w fun e w' => (∃ i : Int, e = .returned (.int .i64 i) ∧ decide (0 ≤ i) = decide (r ∈ D)) ∧ Below w.heap.size w w' := by
  obtain ⟨cs, ecs, HBX⟩ := addr_boxed r.1 r.2 w h16
  have HA := HBX.1
  have H16 := Lib.hid h16
  have hmx : D.length ≤ maxLen := Nat.le_trans hD.1 hD.2.1
  unfold maxLen at hmx
  have hb0 : Below w.heap.size w (w.alloc (.cells cs 69)) := (Below.refl _ _).alloc (Nat.le_refl _) _
  have HD := Lib.hid (hD.below hb0)
  have HB0 := Lib.hid hb0
  obtain ⟨R, hR⟩ : ∃ R, decide (r ∈ D) = R := ⟨_, rfl⟩
  have HRR := Lib.hid hR
  rw [hR]
  obtain ⟨N, hN⟩ : ∃ N, D.length = N := ⟨_, rfl⟩
  have HN := Lib.hid hN
  rw [hN] at hmx ⊢
  obtain ⟨W, hW⟩ : ∃ W, w.alloc (.cells cs 69) = W := ⟨_, rfl⟩
  rw [hW] at HA HD HB0
  have HLT : True := trivial
  rw [ecs]
  clear ecs hD hR hN hb0 HBX h16
  go_enter Tryz.func134, Tryz.ntmps134
  go_upto_region 1 with fail
  try rw [hW]
  clear hW
  go_wp2_with fail
  go_loopw [5, 8] (fun _ i wr => ∃ k : Nat, k ≤ N ∧ i = .int .i64 (k : Int) ∧ Hid (∀ j (hj : j < D.length), j < k → D[j] ≠ r) ∧ Hid (Below W.heap.size W wr)) (fun _ i _ => N - (intOf i).toNat)
  case atStart => exact ⟨0, Nat.zero_le _, rfl, Lib.hid (fun j _ h => absurd h (by omega)), Lib.hid (Below.refl _ _)⟩
  case round =>
    obtain ⟨k, hk, rfl, HO, HB⟩ := hrel
    by_cases hkN : k < N
    · have hd : decide ((k : Int) < (N : Int)) = true := decide_eq_true (by omega)
      have hdn : decide (k < N) = true := decide_eq_true hkN
      have hkD : k < D.length := by rw [HN.out]; exact hkN
      have HBD := Lib.hid HB.out.drew
      obtain ⟨g, o, ha, hg, hrg⟩ := (HD.out.below HBD.out).at k hkD
      subst ha
      have hrb := (HA.out.below HBD.out).range
      have H17 := Lib.hid (HD.out.2.2.1 _ (List.getElem_mem hkD))
      have q := fun W => run_eq_addr r.1 D[k].1 r.2 D[k].2 W H16.out H17.out
      have hde : decide (r.1 = D[k].1 ∧ r.2 = D[k].2) = decide (D[k] = r) := by
        congr 1
        exact propext ⟨fun h => (Prod.ext h.1 h.2).symm, fun h => by rw [h]; exact ⟨rfl, rfl⟩⟩
      rw [hde] at q
      have HO2 : Hid (D[k] ≠ r → ∀ j (hj : j < D.length), j < k + 1 → D[j] ≠ r) := Lib.hid (hasA_step hkD HO.out)
      have HF : Hid (D[k] = r → R = true) := Lib.hid (fun e => by rw [← HRR.out]; exact decide_eq_true (by rw [← e]; exact List.getElem_mem hkD))
      have gd := guard_ad
      generalize D[k] = s at *
      have hb1 : (0 : Int) ≤ (k : Int) := by omega
      have hb2 : (k : Int) < (N : Int) := by omega
      obtain ⟨S, hS⟩ : ∃ S : World → Prop, (fun V => V.rangeAt g (o + k * 17) (adL s) ∧ V.rangeAt w.heap.size 0 (adL r)) = S := ⟨_, rfl⟩
      have C1 : Hid (∀ w', S w' → w'.rangeAt g (o + k * 17) (adL s)) := Lib.hid (fun w' h => by rw [← hS] at h; exact h.1)
      have C2 : Hid (∀ w', S w' → w'.rangeAt w.heap.size 0 (adL r)) := Lib.hid (fun w' h => by rw [← hS] at h; exact h.2)
      have HSS : Hid (S wr.drew) := Lib.hid (by rw [← hS]; exact ⟨hrg, hrb⟩)
      clear hS hrg hrb hg hde
      by_cases hrs : s = r
      · rw [decide_eq_true hrs] at q
        have ER := HF.out hrs
        subst ER
        clear HO2 HF HO hrs
        go_upto_region 4 with fail
        refine wp_region_noPanic ?_
        refine wp_region_held_drew (S := S) (by kernel_rfl) HSS.out (fun hHeld => ?_)
        refine wpAnyH_take (i := 0) rfl (by kernel_rfl) (by kernel_rfl) (by kernel_rfl) (fun _ _ _ h => h) (yields_ad H16 C2 (by rfl) _ rfl rfl) (by assumption) ?_
        try simp only [Act.put, pZ]
        refine tkT 1 ?_ rfl (Or.inl ⟨by rfl, ?_⟩) ?_
        rotate_left
        · (intro w hSw; go_simp; try (with_reducible rfl))
        try simp only [Act.put, pZ]
        refine tkT 2 ?_ rfl (Or.inl ⟨by rfl, ?_⟩) ?_
        rotate_left
        · (intro w hSw; go_simp; try (with_reducible rfl))
        try simp only [Act.put, pZ]
        refine tkT 3 ?_ rfl (Or.inl ⟨by rfl, ?_⟩) ?_
        rotate_left
        · (intro w hSw; go_simp; try (with_reducible rfl))
        try simp only [Act.put, pZ]
        refine wpAnyH_take (i := 4) rfl (by kernel_rfl) (by kernel_rfl) (by kernel_rfl) (fun _ _ _ h => h) (yields_ad H17 C1 (by rfl) _ rfl rfl) (by assumption) ?_
        try simp only [Act.put, pZ]
        refine tkT 5 ?_ rfl (Or.inl ⟨by rfl, ?_⟩) ?_
        rotate_left
        · (intro w hSw; go_simp; try (with_reducible rfl))
        try simp only [Act.put, pZ]
        refine wpAnyH_done (by kernel_rfl) ?_ _
        refine NoPanic.normal ?_
        clear q gd C1 C2 HSS hHeld
        go_wp2_with fail
        go_ret
        exact ⟨⟨_, rfl, decide_eq_true hb1⟩, chain HB0.out HBD.out⟩
      · rw [decide_eq_false hrs] at q
        have HO3 := Lib.hid (HO2.out hrs)
        clear HO2 HF HO hrs
        go_upto_region 4 with fail
        refine wp_region_noPanic ?_
        refine wp_region_held_drew (S := S) (by kernel_rfl) HSS.out (fun hHeld => ?_)
        refine wpAnyH_take (i := 0) rfl (by kernel_rfl) (by kernel_rfl) (by kernel_rfl) (fun _ _ _ h => h) (yields_ad H16 C2 (by rfl) _ rfl rfl) (by assumption) ?_
        try simp only [Act.put, pZ]
        refine tkT 1 ?_ rfl (Or.inl ⟨by rfl, ?_⟩) ?_
        rotate_left
        · (intro w hSw; go_simp; try (with_reducible rfl))
        try simp only [Act.put, pZ]
        refine tkT 2 ?_ rfl (Or.inl ⟨by rfl, ?_⟩) ?_
        rotate_left
        · (intro w hSw; go_simp; try (with_reducible rfl))
        try simp only [Act.put, pZ]
        refine tkT 3 ?_ rfl (Or.inl ⟨by rfl, ?_⟩) ?_
        rotate_left
        · (intro w hSw; go_simp; try (with_reducible rfl))
        try simp only [Act.put, pZ]
        refine wpAnyH_take (i := 4) rfl (by kernel_rfl) (by kernel_rfl) (by kernel_rfl) (fun _ _ _ h => h) (yields_ad H17 C1 (by rfl) _ rfl rfl) (by assumption) ?_
        try simp only [Act.put, pZ]
        refine tkT 5 ?_ rfl (Or.inl ⟨by rfl, ?_⟩) ?_
        rotate_left
        · (intro w hSw; go_simp; try (with_reducible rfl))
        try simp only [Act.put, pZ]
        refine wpAnyH_done (by kernel_rfl) ?_ _
        refine NoPanic.normal ?_
        clear q gd C1 C2 HSS hHeld
        go_wp2_with fail
        go_roundw
        case rel => exact ⟨k + 1, by omega, by go_num, HO3, HBD⟩
        case measure => simp [intOf]; omega
    · obtain rfl : k = N := by omega
      have hd : decide ((k : Int) < (k : Int)) = false := by simp
      have ER : R = false := by
        rw [← HRR.out]
        refine decide_eq_false (fun h => ?_)
        obtain ⟨j, hj, e⟩ := List.getElem_of_mem h
        exact HO.out j hj (by rw [← HN.out]; exact hj) e
      subst ER
      go_wp2_with fail
      go_ret
      exact ⟨⟨_, rfl, by decide⟩, chain HB0.out HB.out⟩
set_option maxRecDepth 100000 in
theorem contains_any (a : Option Addr) (c : Nat) (D : List (Int × List Nat)) (r : Int × List Nat) (w : World) (hD : AdsAt w a c D) (h16 : r.2.length = 16) :
    Calls Tryz.prog 117 #[.slice a D.length c, addrV r.1 r.2] w fun e w' => e = .returned (.bool (decide (r ∈ D))) ∧ Below w.heap.size w w' := by
  obtain ⟨cs, ecs, HBX⟩ := addr_boxed r.1 r.2 w h16
  have hb0 : Below w.heap.size w (w.alloc (.cells cs 69)) := (Below.refl _ _).alloc (Nat.le_refl _) _
  have HI := Lib.hid (index_any a c D r _ (hD.below hb0) h16)
  have HA := HBX.1
  have HB0 := Lib.hid hb0
  obtain ⟨R, hR⟩ : ∃ R, decide (r ∈ D) = R := ⟨_, rfl⟩
  rw [hR] at HI ⊢
  obtain ⟨N, hN⟩ : ∃ N, D.length = N := ⟨_, rfl⟩
  rw [hN] at HI ⊢
  have HE : Hid (addrV r.1 r.2 = .agg cs) := Lib.hid ecs
  rw [ecs]
  clear ecs hR hN hb0 HBX h16 hD
  go_enter Tryz.func117, Tryz.ntmps117
  go_upto_region 1 with fail
  generalize w.alloc (.cells cs 69) = W at *
  rw [HE.out] at HI
  have HE2 := HE.out
  go_wp2_with (first | (refine load_addr_g HA _ rfl rfl rfl ?_; rw [HE2]) | refine load_addr_g HA _ rfl rfl rfl ?_)
  refine HI.out.mono ?_
  rintro e w1 ⟨⟨i, rfl, hi⟩, hb⟩
  have HB := Lib.hid (chain HB0.out hb)
  clear hb HI
  subst hi
  go_wp2_with fail
  go_ret
  exact ⟨rfl, HB.out⟩
end Go.Proofs.YtedmkdjijhflnaaGreat
namespace Go.Proofs.YtedmkdjijhflnaaGreat
open Go.RowKit

theorem CellsAt.same {w w' : World} {G : Nat} {vs : List Value} (h : CellsAt w G vs) (hs : w.heap.size ≤ w'.heap.size) (hk : w'.heap[G]? = w.heap[G]?) : CellsAt w' G vs :=
  ⟨Nat.lt_of_lt_of_le h.lt hs, fun j u hu => by rw [World.cell?_of_block (w := w) (a := ⟨G, 0 + j, none⟩) hk]; exact h.range j u hu, fun j hj => by
    rw [World.cell?_of_block (w := w) (a := ⟨G, 0 + j, none⟩) hk, World.frozen?_of_block (w := w) (a := ⟨G, 0 + j, none⟩) hk]; exact h.there j hj⟩
theorem RowA.isSlice {w : World} {B : Nat} {v : Value} {D : List Ad} (h : RowA w B v D) : ∃ ad n c, v = .slice ad n c := by
  obtain ⟨a, c, e, _⟩ := h.ads
  exact ⟨a, _, c, e⟩
theorem tell_take {xs : List Rec} {k : Nat} (hk : k < xs.length) (x : Int × List Ad) : tellAll x (xs.take (k + 1)) = tellStep (tellAll x (xs.take k)) xs[k] := by
  unfold tellAll
  rw [List.take_succ_eq_append_getElem hk, List.foldl_append]
  rfl
def AdsInv (w : World) (B : Nat) (x : Int × List Ad) (W : World) : Prop := ∃ v, CellsAt W w.heap.size [v] ∧ CellsAt W (w.heap.size + 1) [.int .i64 x.1] ∧ RowA W B v x.2 ∧ Below w.heap.size w W
theorem AdsInv.put {w W : World} {B : Nat} {x : Int × List Ad} (h : AdsInv w B x W) {l : Nat} (o : Obj) (h1 : w.heap.size + 1 < l) (h2 : l < B) : AdsInv w B x (W.putObj l o) := by
  obtain ⟨v, a, b, c, d⟩ := h
  refine ⟨v, a.same (by simp) (World.putObj_heap_other (by omega)), b.same (by simp) (World.putObj_heap_other (by omega)), c.kept2 (fun g hg => World.putObj_heap_other (by have := (c.lt g hg).1; omega)), d.trans (below_put _ (by omega))⟩
theorem AdsInv.below {w W W' : World} {B : Nat} {x : Int × List Ad} (h : AdsInv w B x W) (hb : Below W.heap.size W W') : AdsInv w B x W' := by
  obtain ⟨v, a, b, c, d⟩ := h
  exact ⟨v, a.below hb, b.below hb, c.below hb, d.trans (hb.mono d.size)⟩
def AddrsRet (w : World) (x : Int × List Ad) (e : Ending) (w' : World) : Prop := ∃ v, e = .returned (.tuple #[v, .int .i64 x.1]) ∧ RowA w' w.heap.size v x.2 ∧ Below w.heap.size w w'
set_option maxRecDepth 100000 in
set_option maxHeartbeats 4000000 in
theorem addresses_any (nm : ByteArray) (kd : Int) (a : Option Addr) (c : Nat) (D : List Rec) (w : World) (hA : RecsAt w a c D) (hD : All2 D) (hnm : nm.size ≤ 2000000) (hl : D.length ≤ 900) :
    Calls Tryz.prog 88 #[.string nm, .int .i64 kd, .slice a D.length c] w (AddrsRet w (tellAll (604800, []) (D.filter (isRec nm kd)))) := by
  obtain ⟨W0, hW0⟩ : ∃ W0, (w.alloc (.cells #[.slice none 0 0] 45)).alloc (.cells #[.int .i64 604800] 3) = W0 := ⟨_, rfl⟩
  have HB0 : Hid (Below w.heap.size w W0) := Lib.hid (by rw [← hW0]; exact ((Below.refl _ _).alloc (Nat.le_refl _) _).alloc (by simp) _)
  have HS0 : Hid (W0.heap.size = w.heap.size + 2) := Lib.hid (by rw [← hW0]; simp)
  have HA0 : Hid (CellsAt W0 w.heap.size [.slice none 0 0]) := Lib.hid (by rw [← hW0]; exact (CellsAt.new w 45 [.slice none 0 0]).below ((Below.refl _ _).alloc (Nat.le_refl _) _))
  have HC0 : Hid (CellsAt W0 (w.heap.size + 1) [.int .i64 604800]) := Lib.hid (by
    have := CellsAt.new (w.alloc (.cells #[.slice none 0 0] 45)) 3 [.int .i64 604800]
    rw [← hW0]; simpa using this)
  have HCN := Lib.hid (counting_any nm kd a c D W0 (hA.below HB0.out))
  have HTG := fun V => fun (hC : CountAt V (W0.heap.size + 2) (W0.heap.size + 1) W0.heap.size a c D nm kd) => Lib.hid (count_tells (W0.heap.size + 2) (W0.heap.size + 1) W0.heap.size a c D nm kd [w.heap.size, w.heap.size + 1] V hC (by have := HS0.out; simp; omega) (by have := HS0.out; simp; omega) (by have := HS0.out; simp; omega) (by
    rcases hA.2.2.2 with e | ⟨g, o, e, hg, _⟩
    · exact .inl e
    · exact .inr fun x hx => by rw [e] at hx; cases hx; simp; omega) hD hnm hl)
  have HFT : Hid (∀ r ∈ D.filter (isRec nm kd), r.b.length = 16) := Lib.hid (fun r hr => (hA.2.2.1 r (List.mem_filter.1 hr).1).1)
  have HLN : Hid ((D.filter (isRec nm kd)).length ≤ 900) := Lib.hid (Nat.le_trans (List.length_filter_le _ _) hl)
  obtain ⟨xs, hxs⟩ : ∃ xs, D.filter (isRec nm kd) = xs := ⟨_, rfl⟩
  rw [hxs] at HFT HLN ⊢
  simp only [hxs] at HTG
  clear hA hD hnm hl hxs
  obtain ⟨N, hN⟩ : ∃ N, D.length = N := ⟨_, rfl⟩
  rw [hN] at HCN ⊢
  clear hN
  refine (callsIn_wide (n := 0)).1 (callsIn_of_wp_marks Tryz.func88 rfl trivial (wpIn_wide.2 ?_) rfl)
  simp only [Tryz.ntmps88, List.size_toArray, List.length_cons, List.length_nil, Nat.reduceAdd, Nat.reduceSub, Array.replicate_succ, Array.replicate_zero, List.push_toArray, List.append_toArray, List.nil_append, List.cons_append]
  go_upto_region 3 with fail
  try rw [hW0]
  clear hW0
  go_wp2_with fail
  refine HCN.out.mono ?_
  rintro e w1 ⟨rfl, hc1, hb1, hs1⟩
  have qf := func_nil
  have HS1 : Hid (w1.heap.size = w.heap.size + 5) := Lib.hid (by rw [hs1, HS0.out])
  have HT1 := HTG w1 hc1
  have HI1 : Hid (AdsInv w (w1.heap.size + 2) (604800, []) w1) := Lib.hid ⟨.slice none 0 0, HA0.out.below hb1, HC0.out.below hb1, RowA.nil _ _, chain HB0.out hb1⟩
  clear hc1 hb1 hs1 HCN HTG
  go_wp2_with fail
  refine range_go (gf := 133) (lb := #[.pointer (some ⟨W0.heap.size + 2, 0, none⟩), .pointer (some ⟨W0.heap.size + 1, 0, none⟩), .pointer (some ⟨W0.heap.size, 0, none⟩)]) rfl (enters_of Tryz.func133 (by kernel_rfl) rfl) xs recV [w.heap.size, w.heap.size + 1] (by have := HS1.out; simp; omega) w1 HT1.out (Below.refl _ _)
    (fun k W => AdsInv w (w1.heap.size + 2) (tellAll (604800, []) (xs.take k)) W)
    (fun k A B h hb => by
      rcases hb with ⟨l, o, h1, h2, rfl⟩ | hb
      · exact h.put o (by have := HS1.out; omega) h2
      · exact h.below hb) HI1.out ?round ?done
  case round =>
    intro k hk W hlW hI
    obtain ⟨x, hx⟩ : ∃ x, xs[k] = x := ⟨_, rfl⟩
    have HTK := Lib.hid (tell_take hk (604800, []))
    have H16 : Hid (x.b.length = 16) := Lib.hid (HFT.out x (by rw [← hx]; exact List.getElem_mem hk))
    have HAL : Hid ((tellAll (604800, []) (xs.take k)).2.length ≤ 900) := Lib.hid (by
      have h1 := tell_len (xs.take k) (604800, [])
      have h2 := List.length_take_le k xs
      have h3 := HLN.out
      simp only [List.length_nil, Nat.zero_add] at h1
      omega)
    rw [hx] at HTK ⊢
    have HZ := Lib.hid (rec_zeroed W)
    have HLW := Lib.hid hlW
    clear hk hx hlW hI qf
    refine round_region rfl (fun ⟨_, _, h⟩ => h) ?_
    simp only [List.setIfInBounds_toArray, List.set_cons_succ, List.set_cons_zero]
    go_wp2_with (refine store_rec HZ _ _ H16 rfl rfl rfl rfl (fun W3 HW3 HE3 => ?_))
    refine ⟨below_newR HW3, fun w₂ hf2 hI2 => ?_⟩
    have HX3 : Hid (RecAt w₂ W.heap.size x) := Lib.hid ⟨H16.out, Nat.lt_of_lt_of_le HE3.out.lt hf2.size, range_foot hf2 HE3.out.range HE3.out.lt (by have := HLW.out; simp; omega), fun j hj => by
      rw [World.cell?_of_block (w := W3) (a := ⟨W.heap.size, 0 + j, none⟩) (hf2.keep _ HE3.out.lt (by have := HLW.out; simp; omega)), World.frozen?_of_block (w := W3) (a := ⟨W.heap.size, 0 + j, none⟩) (hf2.keep _ HE3.out.lt (by have := HLW.out; simp; omega))]; exact HE3.out.there j hj⟩
    generalize tellAll (604800, []) (xs.take k) = y at *
    obtain ⟨T, acc⟩ := y
    obtain ⟨v, ha, hc, hr, hb⟩ := hI2
    simp only at hc hr HAL
    obtain ⟨av, cv, rfl, hav⟩ := hr.ads
    have HA2 := Lib.hid ha
    have HC2 := Lib.hid hc
    have HR2 := Lib.hid hr
    have HB2 := Lib.hid hb
    have HWW : Hid (w1.heap.size + 2 ≤ W.heap.size ∧ W.heap.size < w₂.heap.size) := Lib.hid ⟨HLW.out, HX3.out.lt⟩
    obtain ⟨R, hR⟩ : ∃ R, W.heap.size = R := ⟨_, rfl⟩
    rw [hR] at HX3 HWW
    try rw [hR]
    clear hR hf2 ha hc hr hb hav HZ HE3 HLW HW3
    have c0 := HC2.out.cell 0 _ rfl
    have f0 := HC2.out.live 0 (by simp)
    have t3 : w₂.cell? ⟨R, 3, none⟩ = some (.int .i64 x.ttl) := HX3.out.parts.ttl
    refine wpIn_block (wpIn_seq ?_)
    refine round_region rfl (fun ⟨_, _, h⟩ => by cases h.1) ?_
    go_wp2_with (refine min_step rfl _ _ rfl rfl rfl ?_)
    obtain ⟨V1, hV1⟩ : ∃ V1, w₂.setCell ⟨w.heap.size + 1, 0, none⟩ (.int .i64 (min T x.ttl)) = V1 := ⟨_, rfl⟩
    have hlw := HWW.out
    have hs1 := HS1.out
    have HK1 : Hid (Keep (w1.heap.size + 2) [w.heap.size, w.heap.size + 1] w₂ V1) := Lib.hid (by
      have hb : Below w.heap.size w₂ V1 := by rw [← hV1]; exact (Below.refl _ _).setCell (by show w.heap.size ≤ w.heap.size + 1; omega) _
      refine ⟨hb.os, hb.tape, hb.output, hb.size, fun j _ hn => ?_⟩
      simp at hn
      rw [← hV1]; exact heap_setCell_otherM _ _ _ _ _ hn.2)
    have HA3 : Hid (CellsAt V1 w.heap.size [.slice av acc.length cv]) := Lib.hid (by rw [← hV1]; exact HA2.out.other (by omega) _ _)
    have HC3 : Hid (CellsAt V1 (w.heap.size + 1) [.int .i64 (min T x.ttl)]) := Lib.hid (by rw [← hV1]; exact HC2.out.set 0 _ (by simp))
    have HR3 : Hid (RowA V1 (w1.heap.size + 2) (.slice av acc.length cv) acc) := Lib.hid (HR2.out.kept2 (fun g hg => by rw [← hV1]; exact heap_setCell_otherM _ _ _ _ _ (by have := (HR2.out.lt g hg).1; omega)))
    have HB3 : Hid (Below w.heap.size w V1) := Lib.hid (by rw [← hV1]; exact HB2.out.setCell (by show w.heap.size ≤ w.heap.size + 1; omega) _)
    have HX4 : Hid (RecAt V1 R x) := Lib.hid (by rw [← hV1]; exact HX3.out.other (by omega) _ _)
    have HWW2 : Hid (w1.heap.size + 2 ≤ R ∧ R < V1.heap.size) := Lib.hid ⟨hlw.1, HX4.out.lt⟩
    try rw [hV1]
    clear hV1 c0 f0 t3 HA2 HC2 HR2 HB2 HX3 HWW hlw hs1
    have HAW : Hid (V1.rangeAt R 4 (addrL x.f x.b)) := Lib.hid (by have := HX4.out.parts.addr; simpa using this)
    have HHS : Hid (Calls Tryz.prog 117 #[.slice av acc.length cv, addrV x.f x.b] V1 fun e w' => e = .returned (.bool (decide ((x.f, x.b) ∈ acc))) ∧ Below V1.heap.size V1 w') := Lib.hid (by
      obtain ⟨a2, c2, e2, h2⟩ := HR3.out.ads
      cases e2
      exact contains_any av cv acc (x.f, x.b) V1 h2.1 H16.out)
    have HCL : Hid (acc.length ≤ 900) := HAL
    obtain ⟨M, hM⟩ : ∃ M, acc.length = M := ⟨_, rfl⟩
    have HM2 := Lib.hid hM
    rw [hM] at HA3 HR3 HHS
    try rw [hM]
    clear hM
    have c1 := HA3.out.cell 0 _ rfl
    obtain ⟨T1, hT1⟩ : ∃ T1, min T x.ttl = T1 := ⟨_, rfl⟩
    have HTK2 : Hid (tellAll (604800, []) (xs.take (k + 1)) = (T1, if (x.f, x.b) ∈ acc then acc else acc ++ [(x.f, x.b)])) := Lib.hid (by rw [HTK.out, ← hT1]; rfl)
    rw [hT1] at HC3
    try rw [hT1]
    clear hT1 HTK
    refine wpIn_seq ?_
    refine round_region rfl (fun ⟨_, _, h⟩ => by cases h.1) ?_
    go_wp2_with (refine load_addr_o H16 HAW _ rfl rfl rfl ?_)
    refine HHS.out.mono ?_
    rintro e V2 ⟨rfl, hb2⟩
    have HK2 : Hid (Keep (w1.heap.size + 2) [w.heap.size, w.heap.size + 1] w₂ V2) := Lib.hid (HK1.out.trans (Keep.ofBelow _ hb2 (by have := HWW2.out; omega)))
    have HA4 := Lib.hid (HA3.out.below hb2)
    have HC4 := Lib.hid (HC3.out.below hb2)
    have HR4 := Lib.hid (HR3.out.below hb2)
    have HB4 : Hid (Below w.heap.size w V2) := Lib.hid (HB3.out.trans (hb2.mono HB3.out.size))
    have HX5 := Lib.hid (HX4.out.below hb2)
    have HWW3 : Hid (w1.heap.size + 2 ≤ R ∧ R < V2.heap.size) := Lib.hid ⟨HWW2.out.1, HX5.out.lt⟩
    clear hb2 HK1 HA3 HC3 HR3 HB3 HX4 HAW HHS HWW2 c1
    by_cases hin : (x.f, x.b) ∈ acc
    · have hdi : decide ((x.f, x.b) ∈ acc) = true := decide_eq_true hin
      rw [hdi]
      have HTK3 : Hid (tellAll (604800, []) (xs.take (k + 1)) = (T1, acc)) := Lib.hid (by rw [HTK2.out, if_pos hin])
      clear hin hdi HTK2
      go_wp2_with fail
      refine wpIn_cond_false rfl (wpIn_skip ?_)
      refine ⟨rfl, HK2.out, ?_⟩
      rw [HTK3.out]
      exact ⟨_, HA4.out, HC4.out, HR4.out, HB4.out⟩
    · have hdi : decide ((x.f, x.b) ∈ acc) = false := decide_eq_false hin
      rw [hdi]
      have HTK3 : Hid (tellAll (604800, []) (xs.take (k + 1)) = (T1, acc ++ [(x.f, x.b)])) := Lib.hid (by rw [HTK2.out, if_neg hin])
      clear hin hdi HTK2
      go_wp2_with fail
      refine wpIn_cond_true rfl ?_
      have HAW : Hid (V2.rangeAt R 4 (addrL x.f x.b)) := Lib.hid (by have := HX5.out.parts.addr; simpa using this)
      have c1 := HA4.out.cell 0 _ rfl
      have HY : Hid (_root_.Go.Proofs.YtedmkdjijhflnaaGreat.H16 [(x.f, x.b)]) := Lib.hid (fun y hy => by rw [List.mem_singleton.1 hy]; exact H16.out)
      have H16b : Hid (((x.f, x.b) : Ad).2.length = 16) := Lib.hid H16.out
      have HM1 : Hid (1 = [((x.f, x.b) : Ad)].length) := Lib.hid rfl
      have HLE : Hid (acc.length + [((x.f, x.b) : Ad)].length ≤ 1000) := Lib.hid (by have := HCL.out; simp; omega)
      have HS3 : Hid (w1.heap.size + 2 ≤ V2.heap.size) := Lib.hid (by have := HWW3.out; omega)
      have HFW : Hid (∀ W5, W5 = V2.alloc (.cells (adL (x.f, x.b)).toArray 69) → Below V2.heap.size V2 W5 ∧ RowA W5 (w1.heap.size + 2) (.slice av M cv) acc ∧ W5.rangeAt V2.heap.size 0 (flatA [(x.f, x.b)]) ∧ w1.heap.size + 2 ≤ W5.heap.size) := Lib.hid (fun W5 e => by
        have hb : Below V2.heap.size V2 W5 := by rw [e]; exact (Below.refl _ _).alloc (Nat.le_refl _) _
        exact ⟨hb, HR4.out.below hb, by rw [e]; exact ad_range _ _, Nat.le_trans HS3.out hb.size⟩)
      have HF6 : Hid (∀ W5 w6, Below V2.heap.size V2 W5 → RowA W5 (w1.heap.size + 2) (.slice av M cv) acc → W5.grownBy w6 (Value.slice av M cv).ownBlock → Below (w1.heap.size + 2) V2 w6 ∧ CellsAt w6 w.heap.size [.slice av M cv] ∧ CellsAt w6 (w.heap.size + 1) [.int .i64 T1]) := Lib.hid (fun W5 w6 hb ho hg => by
        have hs1 := HS1.out
        have h6 : Below (w1.heap.size + 2) V2 w6 := (hb.mono HS3.out).grown hg (Nat.le_trans HS3.out hb.size) (fun k hk => (ho.lt k hk).1)
        exact ⟨h6, HA4.out.upto h6 (by omega), HC4.out.upto h6 (by omega)⟩)
      refine round_region rfl (fun ⟨_, _, h⟩ => by cases h.1) ?_
      go_wp2_with (first
        | refine load_addr_o H16 HAW _ rfl rfl rfl ?_
        | (refine build_adM (r := (x.f, x.b)) H16b rfl _ rfl rfl (fun W5 HW5 => ?_); obtain ⟨hb5, ho5, hr5, hs5⟩ := HFW.out W5 HW5.out; have HB5 := Lib.hid hb5; have HO5 := Lib.hid ho5; have HR5 := Lib.hid hr5; have HS5 := Lib.hid hs5; clear hb5 ho5 hr5 hs5)
        | (at_builtin; refine append_ads HO5 _ _ rfl rfl rfl [(x.f, x.b)] rfl HM1 HR5 HY HLE HS5 (fun v6 w6 HO6 HG6 => ?_); obtain ⟨ad6, n6, cc6, rfl⟩ := HO6.out.isSlice; obtain ⟨hb6, hx6, hc6⟩ := HF6.out W5 w6 HB5.out HO5.out HG6.out; have HB6 := Lib.hid hb6; have HA6 := Lib.hid hx6; have HC6 := Lib.hid hc6; clear hb6 hx6 hc6; have c6 := HA6.out.cell 0 _ rfl; have f6 := HA6.out.live 0 (by simp)))
      have hs1 := HS1.out
      refine ⟨?_, ?_⟩
      · have hk := HK2.out.trans (Keep.ofBelow _ HB6.out (Nat.le_refl _))
        refine ⟨hk.os, hk.tape, hk.output, by simpa using hk.size, fun j hj hn => ?_⟩
        have hn2 := hn
        simp at hn2
        rw [heap_setCell_otherM _ _ _ _ _ hn2.1]
        exact hk.keep j hj hn
      · rw [HTK3.out]
        refine ⟨_, HA6.out.set 0 _ (by simp), HC6.out.other (by omega) _ _, HO6.out.kept2 (fun g hg => heap_setCell_otherM _ _ _ _ _ (by have := (HO6.out.lt g hg).1; omega)), ?_⟩
        exact ((HB4.out.trans (HB6.out.mono (by omega)))).setCell (Nat.le_refl _) _
  case done =>
    intro W hI hD
    rw [List.take_length] at hI
    obtain ⟨v, ha, hc, hr, hb⟩ := hI
    obtain ⟨ad, n, cc, rfl⟩ := hr.isSlice
    have HAW := Lib.hid (ha.below (Below.refl _ _).drew)
    have HCW := Lib.hid (hc.below (Below.refl _ _).drew)
    have HRW := Lib.hid (hr.below (Below.refl _ _).drew)
    have HBW : Hid (Below w.heap.size w W.drew) := Lib.hid hb.drew
    have HDW : Hid (W.drew.heap[w1.heap.size]? = some (.deferred (some []))) := Lib.hid hD
    clear ha hc hr hb hD qf
    generalize tellAll (604800, []) xs = y at *
    obtain ⟨S, hS⟩ : ∃ S : World → Prop, (fun V => V = W.drew) = S := ⟨_, rfl⟩
    have C1 : Hid (∀ w', S w' → w'.cell? ⟨w.heap.size, 0, none⟩ = some (.slice ad n cc)) := Lib.hid (fun w' h => by rw [← hS] at h; rw [h]; exact HAW.out.cell 0 _ rfl)
    have C2 : Hid (∀ w', S w' → w'.cell? ⟨w.heap.size + 1, 0, none⟩ = some (.int .i64 y.1)) := Lib.hid (fun w' h => by rw [← hS] at h; rw [h]; exact HCW.out.cell 0 _ rfl)
    have HSI : Hid (S W.drew) := Lib.hid (by rw [← hS])
    have HSO : Hid (∀ V, S V → V = W.drew) := Lib.hid (fun V h => by rw [← hS] at h; exact h)
    clear hS
    go_upto_region 8 with fail
    refine wp_region_noPanic ?_
    refine wp_region_held_drew (S := S) (by kernel_rfl) HSI.out (fun hHeld => ?_)
    refine tkT 0 ?_ rfl (Or.inl ⟨by rfl, ?_⟩) ?_
    rotate_left
    · (intro w hSw; have hc0 := C1.out w hSw; go_simp; try (with_reducible rfl))
    try simp only [Act.put, pZ]
    refine tkT 1 ?_ rfl (Or.inl ⟨by rfl, ?_⟩) ?_
    rotate_left
    · (intro w hSw; have hc0 := C2.out w hSw; go_simp; try (with_reducible rfl))
    try simp only [Act.put, pZ]
    refine tkT 2 ?_ rfl (Or.inl ⟨by rfl, ?_⟩) ?_
    rotate_left
    · (intro w hSw; go_simp; try (with_reducible rfl))
    try simp only [Act.put, pZ]
    refine tkT 3 ?_ rfl (Or.inl ⟨by rfl, ?_⟩) ?_
    rotate_left
    · (intro w hSw; go_simp; try (with_reducible rfl))
    try simp only [Act.put, pZ]
    refine wpAnyH_done (by kernel_rfl) ?_ _
    refine NoPanic.normal ?_
    clear C1 C2 HSI HSO hHeld
    go_wp2_with fail
    have hs1 := HS1.out
    have hb : Below w1.heap.size W.drew (W.drew.putObj w1.heap.size (.deferred none)) := below_put _ (Nat.le_refl _)
    refine ⟨by simp, .inl ⟨_, _, rfl, run_takeDeferred HDW.out, ?_⟩⟩
    exact ⟨_, results_tmp2 rfl _ _ _, _, rfl, (HRW.out.kept2 (fun g hg => World.putObj_heap_other (by have := (HRW.out.lt g hg).1; omega))).mono (by omega), HBW.out.trans (hb.mono (by omega))⟩
end Go.Proofs.YtedmkdjijhflnaaGreat
namespace Go.Proofs.YtedmkdjijhflnaaGreat
open Go.RowKit

theorem RecAt.same {w w' : World} {G : Nat} {r : Rec} (h : RecAt w G r) (hs : w.heap.size ≤ w'.heap.size) (hk : w'.heap[G]? = w.heap[G]?) : RecAt w' G r :=
  ⟨h.len, Nat.lt_of_lt_of_le h.lt hs, fun j u hu => by rw [World.cell?_of_block (w := w) (a := ⟨G, 0 + j, none⟩) hk]; exact h.range j u hu, fun j hj => by
    rw [World.cell?_of_block (w := w) (a := ⟨G, 0 + j, none⟩) hk, World.frozen?_of_block (w := w) (a := ⟨G, 0 + j, none⟩) hk]; exact h.there j hj⟩
set_option maxRecDepth 100000 in
set_option maxHeartbeats 2000000 in
theorem chain_any (a : Option Addr) (c : Nat) (D : List Rec) (nm : ByteArray) (most : Int) (w : World) (hA : RecsAt w a c D) (hD : All2 D) (hnm : nm.size ≤ 2000000) (hm : most ≤ 1000) (hl : D.length ≤ 900) :
    Calls Tryz.prog 87 #[.string nm, .slice a D.length c, .int .i64 most] w (ChainRet w (chainP D most.toNat nm 604800)) := by
  obtain ⟨i0, hi0, hz0, hz1, hz2⟩ := info_parts Tryz.infoString
  have HA := Lib.hid hA
  have HD := Lib.hid hD
  have HST := fun (x : ByteArray) (W : World) (hx : x.size ≤ 2000000) (hb : Below w.heap.size w W) => Lib.hid (step_any x a c D W (hA.below hb) hD hx hl)
  obtain ⟨N, hN⟩ : ∃ N, D.length = N := ⟨_, rfl⟩
  rw [hN] at HST ⊢
  have HFI : Hid (∀ r ∈ D, r.b.length = 16) := Lib.hid (fun r hr => (hA.2.2.1 r hr).1)
  obtain ⟨R, hR⟩ : ∃ R, chainP D most.toNat nm 604800 = R := ⟨_, rfl⟩
  have HR : Hid (RowT (w.alloc (.cells #[.string nm] 9)) w.heap.size (.slice (some ⟨w.heap.size, 0, none⟩) 1 1) [nm] ∧ Below w.heap.size w (w.alloc (.cells #[.string nm] 9))) := Lib.hid ⟨RowT.one _ _, (Below.refl _ _).alloc (Nat.le_refl _) _⟩
  have HRR := Lib.hid hR
  have HNM := Lib.hid hnm
  rw [hR]
  clear hR hA hN hD hnm hl HA
  go_enter Tryz.func87, Tryz.ntmps87
  go_wp2_with fail
  go_loopw [9, 10, 11, 12] (fun v t _ _ wr => ∃ (n : Nat) (pre : List ByteArray) (last : ByteArray) (T : Int), t = .int .i64 T ∧ n ≤ most.toNat ∧ Hid (pre.length + n = most.toNat ∧ last.size ≤ 2000000 ∧ (pre ++ (chainP D n last T).1, (chainP D n last T).2) = R) ∧ Hid (RowT wr w.heap.size v (pre ++ [last]) ∧ Below w.heap.size w wr)) (fun v _ _ _ _ => 2000 - (match v with | .slice _ n _ => n | _ => 0))
  case atStart => exact ⟨most.toNat, [], nm, 604800, rfl, Nat.le_refl _, Lib.hid ⟨by simp, HNM.out, by simpa using HRR.out⟩, HR⟩
  case round =>
    clear HR HRR
    obtain ⟨n, pre, last, T, rfl, hn, HI, HW⟩ := hrel
    obtain ⟨g, cap, rfl, hg, hlc⟩ := HW.out.1.last
    obtain ⟨L, hL⟩ : ∃ L, pre.length = L := ⟨_, rfl⟩
    have HL := Lib.hid hL
    have hLn : L + n = most.toNat := by rw [← hL]; exact HI.out.1
    have hLm : L ≤ 1000 := by omega
    rw [hL] at hlc ⊢
    have HO := HST last wr HI.out.2.1 HW.out.2
    clear hL
    have hi1 : (0 : Int) ≤ (L : Int) := by omega
    have hi2 : (L : Int) < (L : Int) + 1 := by omega
    cases enx : nextR D last with
    | none =>
      have HE : Hid ((pre ++ [last], T, true) = R) := Lib.hid (by have := HI.out.2.2; rw [chain_none enx] at this; exact this)
      rw [enx] at HO
      clear enx HST
      go_wp2_with fail
      refine HO.out.mono ?_
      rintro e w1 ⟨rfl, hb⟩
      have HW1 : Hid (RowT w1 w.heap.size (.slice (some ⟨g, 0, none⟩) (L + 1) cap) (pre ++ [last]) ∧ Below w.heap.size w w1) := Lib.hid (by
        have h1 := HW.out.1.below hb
        rw [HL.out] at h1
        exact ⟨h1, chain HW.out.2 hb⟩)
      have HZ := Lib.hid (rec_zeroed w1)
      have Z16 : Hid (zR.b.length = 16) := Lib.hid rfl
      unfold stepV
      clear hb HO HW hlc
      go_wp2_with (refine store_rec HZ _ _ Z16 rfl rfl rfl rfl (fun W3 HW3 HE3 => ?_))
      have hb3 := below_newR HW3
      have hr3 := HW1.out.1.below hb3
      have hbw := chain HW1.out.2 hb3
      go_ret3
      rw [← HE.out]
      exact ⟨_, rfl, hr3, hbw⟩
    | some r =>
      have HE : Hid (n = 0 → (pre ++ [last], T, false) = R) := Lib.hid (fun e => by have := HI.out.2.2; rw [e, chain_zero enx] at this; exact this)
      have HS : Hid (∀ m, n = m + 1 → ((pre ++ [last]) ++ (chainP D m r.tg (min T r.ttl)).1, (chainP D m r.tg (min T r.ttl)).2) = R) := Lib.hid (fun m e => by have := HI.out.2.2; rw [e, chain_succ enx] at this; rw [← this]; simp)
      have HT : Hid (r.tg.size ≤ 2000000) := Lib.hid (HD.out r (next_mem enx).1).2
      have R16 : Hid (r.b.length = 16) := Lib.hid (HFI.out r (next_mem enx).1)
      rw [enx] at HO
      clear enx HST
      go_wp2_with fail
      refine HO.out.mono ?_
      rintro e w1 ⟨rfl, hb⟩
      have HW1 : Hid (RowT w1 w.heap.size (.slice (some ⟨g, 0, none⟩) (L + 1) cap) (pre ++ [last]) ∧ Below w.heap.size w w1) := Lib.hid (by
        have h1 := HW.out.1.below hb
        rw [HL.out] at h1
        exact ⟨h1, chain HW.out.2 hb⟩)
      have HZ := Lib.hid (rec_zeroed w1)
      unfold stepV
      have HGL : Hid (g < w1.heap.size) := Lib.hid (Nat.lt_of_lt_of_le hg hb.size)
      clear hb HO HW hlc hg
      by_cases hn0 : n = 0
      · have HE2 := Lib.hid (HE.out hn0)
        have hd : decide (most < (L : Int) + 1) = true := decide_eq_true (by omega)
        clear HE HS
        go_wp2_with (refine store_rec HZ _ _ R16 rfl rfl rfl rfl (fun W3 HW3 HE3 => ?_))
        have hb3 := below_newR HW3
        have hr3 := HW1.out.1.below hb3
        have hbw := chain HW1.out.2 hb3
        go_ret3
        rw [← HE2.out]
        exact ⟨_, rfl, hr3, hbw⟩
      · obtain ⟨m, hm1⟩ : ∃ m, n = m + 1 := ⟨n - 1, by omega⟩
        have HS2 := Lib.hid (HS.out m hm1)
        have hd : decide (most < (L : Int) + 1) = false := decide_eq_false (by omega)
        obtain ⟨T1, hT1⟩ : ∃ T1, min T r.ttl = T1 := ⟨_, rfl⟩
        rw [hT1] at HS2
        have HT1 := Lib.hid hT1
        clear HE HS hT1
        go_upto_region 7 with (refine store_rec HZ _ _ R16 rfl rfl rfl rfl (fun W3 HW3 HE3 => ?_))
        have hb3 := (below_newR HW3).drew
        have HR3 : Hid (RowT W3.drew w.heap.size (.slice (some ⟨g, 0, none⟩) (L + 1) cap) (pre ++ [last])) := Lib.hid (HW1.out.1.below hb3)
        have HB3 : Hid (Below w.heap.size w W3.drew) := Lib.hid (chain HW1.out.2 hb3)
        have HX3 := Lib.hid (HE3.out.below (Below.refl _ _).drew)
        obtain ⟨G, hG⟩ : ∃ G, w1.heap.size = G := ⟨_, rfl⟩
        have HG2 : Hid (g < G ∧ w.heap.size ≤ G) := Lib.hid ⟨by rw [← hG]; exact HGL.out, by rw [← hG]; exact HW1.out.2.size⟩
        rw [hG] at HX3
        try rw [hG]
        clear hb3 HW3 HE3 HZ hG HGL HW1
        obtain ⟨S, hS⟩ : ∃ S : World → Prop, (fun U => U.cell? ⟨G, 21, none⟩ = some (.string r.tg) ∧ U.cell? ⟨G, 3, none⟩ = some (.int .i64 r.ttl)) = S := ⟨_, rfl⟩
        have C1 : Hid (∀ w', S w' → w'.cell? ⟨G, 21, none⟩ = some (.string r.tg)) := Lib.hid (fun w' h => by rw [← hS] at h; exact h.1)
        have C2 : Hid (∀ w', S w' → w'.cell? ⟨G, 3, none⟩ = some (.int .i64 r.ttl)) := Lib.hid (fun w' h => by rw [← hS] at h; exact h.2)
        have HSI : Hid (∀ U, RecAt U G r → S U) := Lib.hid (fun U h => by rw [← hS]; exact ⟨by have := h.parts.tg; simpa using this, by have := h.parts.ttl; simpa using this⟩)
        clear hS
        refine wp_region_noPanic ?_
        refine wp_region_held_drew (S := S) (by kernel_rfl) (HSI.out _ HX3.out) (fun hHeld => ?_)
        generalize W3.drew = V at *
        refine tkT 0 ?_ rfl (Or.inl ⟨by rfl, ?_⟩) ?_
        rotate_left
        · (intro w hSw; go_simp; try (with_reducible rfl))
        try simp only [Act.put, pZ]
        refine tkT 1 ?_ rfl (Or.inl ⟨by rfl, ?_⟩) ?_
        rotate_left
        · (intro w hSw; go_simp; try (with_reducible rfl))
        try simp only [Act.put, pZ]
        refine tkT 2 ?_ rfl (Or.inl ⟨by rfl, ?_⟩) ?_
        rotate_left
        · (intro w hSw; have hc0 := C1.out w hSw; go_simp; try (with_reducible rfl))
        try simp only [Act.put, pZ]
        refine tkT 5 ?_ rfl (Or.inl ⟨by rfl, ?_⟩) ?_
        rotate_left
        · (intro w hSw; go_simp; try (with_reducible rfl))
        try simp only [Act.put, pZ]
        refine tkT 6 ?_ rfl (Or.inl ⟨by rfl, ?_⟩) ?_
        rotate_left
        · (intro w hSw; go_simp; try (with_reducible rfl))
        try simp only [Act.put, pZ]
        refine tkT 7 ?_ rfl (Or.inl ⟨by rfl, ?_⟩) ?_
        rotate_left
        · (intro w hSw; have hc0 := C2.out w hSw; go_simp; try (with_reducible rfl))
        try simp only [Act.put, pZ]
        refine wpAnyH_take (i := 8) rfl (by kernel_rfl) (by kernel_rfl) (by kernel_rfl) (fun _ _ _ h => h) (yields_min (by rfl) _ _ rfl rfl rfl) (by assumption) ?_
        try simp only [Act.put, pZ]
        rw [HT1.out]
        refine wpAnyH_ready (rs := [3]) (by kernel_rfl) (by simp) ?_
        refine ready_one rfl rfl (fun K hK => ?_)
        go_wp2_with fail
        have hb5 : Below V.heap.size V (V.alloc (.cells #[.string r.tg] 9)) := (Below.refl _ _).alloc (Nat.le_refl _) _
        have HM5 : Hid ((V.alloc (.cells #[.string r.tg] 9)).cell? ⟨V.heap.size, 0, none⟩ = some (.string r.tg)) := Lib.hid (by rw [World.cell?_alloc_new]; rfl)
        have HR5 := Lib.hid (HR3.out.below hb5)
        have HB5 := Lib.hid (chain HB3.out hb5)
        have HX5 := Lib.hid (HX3.out.below hb5)
        refine hK.out _ _ (HSI.out _ HX5.out) (fun hHeld5 => ?_)
        clear hK K
        try simp only [Act.put, pZ]
        generalize V.alloc (.cells #[.string r.tg] 9) = V5 at *
        have hll : (pre ++ [last]).length = L + 1 := by rw [List.length_append, HL.out]; rfl
        have HN5 : Hid ((pre ++ [last]).length ≤ 2000000 ∧ w.heap.size ≤ V5.heap.size) := Lib.hid ⟨by rw [hll]; omega, HB5.out.size⟩
        refine wpAnyH_ready (rs := [4]) (by kernel_rfl) (by simp) ?_
        refine ready_one rfl rfl (fun K hK => ?_)
        refine wp_append_str HR5 HM5 HN5 _ _ rfl rfl rfl (fun v' V6 h1 h2 h3 => ?_)
        have HB6 : Hid (Below w.heap.size w V6) := Lib.hid (HB5.out.grown h2.out HB5.out.size (fun k hk => (HR5.out.lt k hk).1))
        have HX6 : Hid (RecAt V6 G r) := Lib.hid (HX5.out.same h3.out.size (h3.out.keep G HX5.out.lt (by have := HG2.out.1; simp [Value.ownBlock]; omega)))
        have HR6 : Hid (RowT V6 w.heap.size v' ((pre ++ [last]) ++ [r.tg])) := h1
        refine hK.out _ _ (HSI.out _ HX6.out) (fun hHeld6 => ?_)
        clear hK K
        try simp only [Act.put, pZ]
        refine tkT 9 ?_ rfl (Or.inl ⟨by rfl, ?_⟩) ?_
        rotate_left
        · (intro w hSw; go_simp; try (with_reducible rfl))
        try simp only [Act.put, pZ]
        refine tkT 10 ?_ rfl (Or.inl ⟨by rfl, ?_⟩) ?_
        rotate_left
        · (intro w hSw; go_simp; try (with_reducible rfl))
        try simp only [Act.put, pZ]
        refine wpAnyH_done (by kernel_rfl) ?_ _
        refine NoPanic.normal ?_
        obtain ⟨g4, c4, rfl, _, _⟩ := HR6.out.last
        rw [hll] at HR6 ⊢
        clear h1 h2 h3 hHeld hHeld5 hHeld6 HX5 HX6 HR5 HB5 HM5 HN5 C1 C2 HSI HX3 HR3 HB3
        go_wp2_with fail
        go_roundw
        case rel => exact ⟨m, pre ++ [last], r.tg, T1, rfl, by omega, Lib.hid ⟨by rw [hll]; omega, HT.out, HS2.out⟩, Lib.hid ⟨HR6.out, HB6.out⟩⟩
        case measure => simp; omega
end Go.Proofs.YtedmkdjijhflnaaGreat
namespace Go.Proofs.YtedmkdjijhflnaaGreat
open Go.RowKit

theorem qu_boxed (w : World) (t : TypeId) (nm : ByteArray) (ty cl : Int) : CellsAt (w.alloc (.cells #[.string nm, .int .i64 ty, .int .i64 cl] t)) w.heap.size [.string nm, .int .i64 ty, .int .i64 cl] := CellsAt.new w t _
theorem len_one {α : Type} {l : List α} (h : l.length = 1) : ∃ a, l = [a] := by
  match l, h with
  | [a], _ => exact ⟨a, rfl⟩
end Go.Proofs.YtedmkdjijhflnaaGreat
namespace Go.Proofs.YtedmkdjijhflnaaGreat
open Go.RowKit

def bitsOk (fl : Int) : Bool := decide (maskN fl 32768 ≠ 0) && decide (maskN fl 31232 = 0)
theorem mask_and (x : Int) (m : Nat) (hm : m < 4611686018427387904) : maskN x m = (BitVec.ofInt 64 x).toNat &&& m := by
  have h1 : (BitVec.ofInt 64 (m : Int)).toNat = m := by
    rw [BitVec.ofInt_natCast, BitVec.toNat_ofNat]
    exact Nat.mod_eq_of_lt (by omega)
  have h2 : bits .and .i64 x (m : Int) = IntKind.i64.wrap (((BitVec.ofInt 64 x &&& BitVec.ofInt 64 (m : Int)).toNat : Nat) : Int) := rfl
  have h3 : (BitVec.ofInt 64 x &&& BitVec.ofInt 64 (m : Int)).toNat = (BitVec.ofInt 64 x).toNat &&& m := by rw [BitVec.toNat_and, h1]
  have h4 : (BitVec.ofInt 64 x).toNat &&& m ≤ m := Nat.and_le_right
  unfold maskN
  rw [h2, h3, wrap_small _ m h4 hm]
  simp
theorem bit_one (y i : Nat) : y / 2 ^ i % 2 = if y.testBit i then 1 else 0 := by
  rw [Nat.testBit_eq_decide_div_mod_eq]
  have : y / 2 ^ i % 2 < 2 := Nat.mod_lt _ (by decide)
  by_cases h : y / 2 ^ i % 2 = 1
  · simp [h]
  · simp [h]; omega
theorem mask_zero (y m : Nat) : y &&& m = 0 ↔ ∀ i, y.testBit i = true → m.testBit i = false := by
  constructor
  · intro h i hi
    have := congrArg (fun z => z.testBit i) h
    simp [hi] at this
    simpa using this
  · intro h
    apply Nat.eq_of_testBit_eq
    intro i
    rw [Nat.testBit_and, Nat.zero_testBit]
    cases hy : y.testBit i with
    | false => rfl
    | true => rw [h i hy]; rfl
theorem mask_31232 (y : Nat) : y &&& 31232 = 0 ↔ y.testBit 9 = false ∧ y.testBit 11 = false ∧ y.testBit 12 = false ∧ y.testBit 13 = false ∧ y.testBit 14 = false := by
  rw [mask_zero]
  constructor
  · intro h
    have hh : ∀ i, (31232 : Nat).testBit i = true → y.testBit i = false := fun i hi => by
      cases hy : y.testBit i with
      | false => rfl
      | true => rw [h i hy] at hi; cases hi
    exact ⟨hh 9 (by decide), hh 11 (by decide), hh 12 (by decide), hh 13 (by decide), hh 14 (by decide)⟩
  · rintro ⟨h1, h2, h3, h4, h5⟩ i hi
    by_cases hl : i < 15
    · have : i = 0 ∨ i = 1 ∨ i = 2 ∨ i = 3 ∨ i = 4 ∨ i = 5 ∨ i = 6 ∨ i = 7 ∨ i = 8 ∨ i = 9 ∨ i = 10 ∨ i = 11 ∨ i = 12 ∨ i = 13 ∨ i = 14 := by omega
      rcases this with rfl | rfl | rfl | rfl | rfl | rfl | rfl | rfl | rfl | rfl | rfl | rfl | rfl | rfl | rfl
      all_goals first
        | (rw [h1] at hi; cases hi)
        | (rw [h2] at hi; cases hi)
        | (rw [h3] at hi; cases hi)
        | (rw [h4] at hi; cases hi)
        | (rw [h5] at hi; cases hi)
        | decide
    · exact Nat.testBit_lt_two_pow (Nat.lt_of_lt_of_le (by decide : (31232 : Nat) < 2 ^ 15) (Nat.pow_le_pow_right (by decide) (by omega)))
theorem mask_32768 (y : Nat) : (y &&& 32768 ≠ 0) ↔ y.testBit 15 = true := by
  constructor
  · intro h
    cases hy : y.testBit 15 with
    | true => rfl
    | false =>
      refine absurd ((mask_zero y 32768).2 fun i hi => ?_) h
      have : i ≠ 15 := fun e => by rw [e, hy] at hi; cases hi
      rw [show (32768 : Nat) = 2 ^ 15 from rfl, Nat.testBit_two_pow]
      simp; omega
  · intro h e
    have := (mask_zero y 32768).1 e 15 h
    exact absurd this (by decide)
theorem bit_mod (y i : Nat) (hi : i < 16) : (y &&& 65535) / 2 ^ i % 2 = if y.testBit i then 1 else 0 := by
  rw [bit_one, Nat.testBit_and]
  have : (65535 : Nat).testBit i = true := by
    rw [show (65535 : Nat) = 2 ^ 16 - 1 from rfl, Nat.testBit_two_pow_sub_one]
    exact decide_eq_true hi
  rw [this, Bool.and_true]
theorem flags_same (fl : Int) : bitsOk fl = flagOk fl := by
  unfold bitsOk flagOk bitS
  rw [mask_and _ _ (by decide), mask_and _ _ (by decide), mask_and _ _ (by decide)]
  generalize (BitVec.ofInt 64 fl).toNat = y
  have h15 := bit_mod y 15 (by decide)
  have h9 := bit_mod y 9 (by decide)
  have h11 := bit_mod y 11 (by decide)
  have h12 := bit_mod y 12 (by decide)
  have h13 := bit_mod y 13 (by decide)
  have h14 := bit_mod y 14 (by decide)
  have e1 : decide (y &&& 32768 ≠ 0) = y.testBit 15 := by
    cases hy : y.testBit 15 with
    | true => exact decide_eq_true ((mask_32768 y).2 hy)
    | false => exact decide_eq_false (fun h => by rw [(mask_32768 y).1 h] at hy; cases hy)
  have e2 : decide (y &&& 31232 = 0) = (!y.testBit 9 && (!y.testBit 11 && (!y.testBit 12 && (!y.testBit 13 && !y.testBit 14)))) := by
    rw [Bool.eq_iff_iff, decide_eq_true_iff, mask_31232]
    simp
  rw [e1, e2]
  generalize y &&& 65535 = z at *
  cases b15 : y.testBit 15 <;> cases b9 : y.testBit 9 <;> cases b11 : y.testBit 11 <;> cases b12 : y.testBit 12 <;> cases b13 : y.testBit 13 <;> cases b14 : y.testBit 14 <;> simp only [b15, b9, b11, b12, b13, b14, if_true, Bool.false_eq_true, if_false] at h15 h9 h11 h12 h13 h14 <;> simp <;> omega
set_option maxRecDepth 100000 in
theorem wholeF_any (fl : Int) (w : World) : Calls Tryz.prog 81 #[.int .i64 fl] w fun e w' => e = .returned (.bool (flagOk fl)) ∧ w' = w := by
  obtain ⟨hm1, hk1⟩ := mask_is fl 32768 (by decide)
  obtain ⟨hm2, hk2⟩ := mask_is fl 31232 (by decide)
  have hm1 : bits .and .i64 fl 32768 = ((maskN fl 32768 : Nat) : Int) := hm1
  have hm2 : bits .and .i64 fl 31232 = ((maskN fl 31232 : Nat) : Int) := hm2
  have HR : Hid (bitsOk fl = (decide (maskN fl 32768 ≠ 0) && decide (maskN fl 31232 = 0))) := Lib.hid rfl
  rw [← flags_same]
  obtain ⟨R, hR⟩ : ∃ R, bitsOk fl = R := ⟨_, rfl⟩
  rw [hR] at HR ⊢
  clear hR
  generalize maskN fl 32768 = m1 at *
  generalize maskN fl 31232 = m2 at *
  by_cases h1 : m1 = 0
  · have e1 : ((m1 : Int) != 0) = false := by simp [h1]
    have e2 : (m1 != 0) = false := by simp [h1]
    have ER : R = false := by rw [HR.out]; simp [h1]
    clear HR h1
    subst ER
    go_enter Tryz.func81, Tryz.ntmps81
    go_wp2_with fail
    go_ret
    exact ⟨rfl, rfl⟩
  · have e1 : ((m1 : Int) != 0) = true := by simp [h1]
    have e2 : (m1 != 0) = true := by simp [h1]
    by_cases h2 : m2 = 0
    · have e3 : ((m2 : Int) == 0) = true := by simp [h2]
      have e4 : decide ((m2 : Int) = 0) = true := by simp [h2]
      have e5 : (m2 == 0) = true := by simp [h2]
      have ER : R = true := by rw [HR.out]; simp [h1, h2]
      clear HR h1 h2
      subst ER
      go_enter Tryz.func81, Tryz.ntmps81
      go_wp2_with fail
      go_ret
      exact ⟨rfl, rfl⟩
    · have e3 : ((m2 : Int) == 0) = false := by simp; omega
      have e4 : decide ((m2 : Int) = 0) = false := by simp; omega
      have e5 : (m2 == 0) = false := by simp; omega
      have ER : R = false := by rw [HR.out]; simp [h2]
      clear HR h1 h2
      subst ER
      go_enter Tryz.func81, Tryz.ntmps81
      go_wp2_with fail
      go_ret
      exact ⟨rfl, rfl⟩
theorem mask_15 (fl : Int) : bitS fl 0 4 = maskN fl 15 := by
  unfold bitS
  rw [mask_and _ _ (by decide), mask_and _ _ (by decide)]
  generalize (BitVec.ofInt 64 fl).toNat = y
  rw [show (65535 : Nat) = 2 ^ 16 - 1 from rfl, show (15 : Nat) = 2 ^ 4 - 1 from rfl, Nat.and_two_pow_sub_one_eq_mod, Nat.and_two_pow_sub_one_eq_mod]
  omega
def faultP (fl : Int) : Int := if bitS fl 0 4 = 3 then 8 else if bitS fl 0 4 ≠ 0 then 7 else 0
set_option maxRecDepth 100000 in
theorem fault_any (fl : Int) (w : World) : Calls Tryz.prog 86 #[.int .i64 fl] w fun e w' => e = .returned (.int .i64 (faultP fl)) ∧ w' = w := by
  obtain ⟨hm1, hk1⟩ := mask_is fl 15 (by decide)
  have hm1 : bits .and .i64 fl 15 = ((maskN fl 15 : Nat) : Int) := hm1
  unfold faultP
  rw [mask_15]
  generalize maskN fl 15 = m at *
  by_cases h0 : m = 0
  · have e3 : ((m : Int) == 0) = true := by simp [h0]
    have e4 : decide ((m : Int) = 0) = true := by simp [h0]
    have e5 : (m == 0) = true := by simp [h0]
    rw [if_neg (by omega), if_neg (by simpa using h0)]
    clear h0
    go_enter Tryz.func86, Tryz.ntmps86
    go_wp2_with fail
    go_ret
    exact ⟨rfl, rfl⟩
  · have e3 : ((m : Int) == 0) = false := by simp; omega
    have e4 : decide ((m : Int) = 0) = false := by simp; omega
    have e5 : (m == 0) = false := by simp; omega
    by_cases h3 : m = 3
    · have f3 : ((m : Int) == 3) = true := by simp [h3]
      have f4 : decide ((m : Int) = 3) = true := by simp [h3]
      have f5 : (m == 3) = true := by simp [h3]
      rw [if_pos h3]
      clear h3 h0
      go_enter Tryz.func86, Tryz.ntmps86
      go_wp2_with fail
      go_ret
      exact ⟨rfl, rfl⟩
    · have f3 : ((m : Int) == 3) = false := by simp; omega
      have f4 : decide ((m : Int) = 3) = false := by simp; omega
      have f5 : (m == 3) = false := by simp; omega
      rw [if_neg h3, if_pos h0]
      clear h3 h0
      go_enter Tryz.func86, Tryz.ntmps86
      go_wp2_with fail
      go_ret
      exact ⟨rfl, rfl⟩
end Go.Proofs.YtedmkdjijhflnaaGreat
namespace Go.Proofs.YtedmkdjijhflnaaGreat
open Go.RowKit

theorem tell_keeps (D : List Rec) : ∀ (x : Int × List Ad), x.2 ≠ [] → (tellAll x D).2 ≠ [] := by
  induction D with
  | nil => intro x h; exact h
  | cons r D ih =>
    intro x h
    rw [tell_cons]
    refine ih _ ?_
    unfold tellStep
    by_cases hin : (r.f, r.b) ∈ x.2
    · simp [hin, h]
    · simp [hin]
theorem tell_empty (D : List Rec) (t : Int) : (tellAll (t, []) D).2 = [] → (tellAll (t, []) D).1 = t := by
  cases D with
  | nil => intro _; rfl
  | cons r D =>
    intro h
    rw [tell_cons] at h
    exact absurd h (tell_keeps D _ (by simp [tellStep]))
set_option maxRecDepth 100000 in
set_option maxHeartbeats 4000000 in
theorem tell_any (q : Qry) (m : Msg) (aq a1 a2 a3 : Option Addr) (cq c1 c2 c3 : Nat) (w : World) (hM : RecsAt w a1 c1 m.an) (hD : All2 m.an) (hn : q.nm.size ≤ 2000000) (hl : m.an.length ≤ 900) :
    Calls Tryz.prog 46 #[qryV q, msgV m aq a1 a2 a3 cq c1 c2 c3] w (TellRet w (tellP m.fl q.nm q.ty m.an)) := by
  have HM := Lib.hid hM
  have HD := Lib.hid hD
  have HQN := Lib.hid hn
  have HLN := Lib.hid hl
  have HFA := fun W => Lib.hid (fault_any m.fl W)
  have HFP : Hid (faultP m.fl = if bitS m.fl 0 4 = 3 then 8 else if bitS m.fl 0 4 ≠ 0 then 7 else 0) := Lib.hid rfl
  have HTP : Hid (tellP m.fl q.nm q.ty m.an = if bitS m.fl 0 4 = 3 then errT 8 else if bitS m.fl 0 4 ≠ 0 then errT 7 else
    if (chainP m.an 8 q.nm 604800).2.2 = true then endT (chainP m.an 8 q.nm 604800).1 (tellAll ((chainP m.an 8 q.nm 604800).2.1, []) (m.an.filter (isRec (lastB (chainP m.an 8 q.nm 604800).1) q.ty))) else errT 3) := Lib.hid rfl
  obtain ⟨X, hX⟩ : ∃ X, tellP m.fl q.nm q.ty m.an = X := ⟨_, rfl⟩
  rw [hX] at HTP ⊢
  obtain ⟨b4, hb4⟩ : ∃ b, bitS m.fl 0 4 = b := ⟨_, rfl⟩
  rw [hb4] at HTP HFP
  simp only [HFP.out] at HFA
  have HCH := fun W (h : Below w.heap.size w W) => Lib.hid (chain_any a1 c1 m.an q.nm 8 W (hM.below h) hD hn (by decide) hl)
  simp only [show ((8 : Int)).toNat = 8 from rfl] at HCH
  obtain ⟨CH, hCH⟩ : ∃ CH, chainP m.an 8 q.nm 604800 = CH := ⟨_, rfl⟩
  have HTL : Hid (CH.2.1 ≤ 604800) := Lib.hid (by rw [← hCH]; exact chain_ttl _ _ _ _)
  have HPOS : Hid (∃ l, CH.1 = q.nm :: l ∧ l.length ≤ 8) := Lib.hid (by rw [← hCH]; exact chain_pos _ _ _ _)
  have HSM : Hid (∀ p ∈ CH.1, p.size ≤ 2000000) := Lib.hid (by rw [← hCH]; exact chain_small hD 8 hn _)
  rw [hCH] at HTP
  simp only [hCH] at HCH
  clear hX hb4 hM hD hn hl hCH
  obtain ⟨qid, qnm, qty, qsv⟩ := q
  unfold qryV msgV
  simp only at HTP HCH HQN HPOS ⊢
  obtain ⟨W0, hW0⟩ : ∃ W0, ((w.alloc (.cells #[.int .i64 qid, .string qnm, .int .i64 qty, .int .i64 qsv] 74)).alloc (.cells #[.int .i64 m.id, .int .i64 m.fl, .slice aq m.qs.length cq, .slice a1 m.an.length c1, .slice a2 m.au.length c2, .slice a3 m.mo.length c3] 83)).alloc (.cells #[.int .i64 0, .slice none 0 0, .int .i64 0, .string ⟨#[]⟩, .int .i64 0] 124) = W0 := ⟨_, rfl⟩
  have HB0 : Hid (Below w.heap.size w W0) := Lib.hid (by rw [← hW0]; exact (((Below.refl _ _).alloc (Nat.le_refl _) _).alloc (by simp) _).alloc (by simp; omega) _)
  have HS0 : Hid (W0.heap.size = w.heap.size + 3) := Lib.hid (by rw [← hW0]; simp)
  have HQ : Hid (CellsAt W0 w.heap.size [.int .i64 qid, .string qnm, .int .i64 qty, .int .i64 qsv]) := Lib.hid (by
    rw [← hW0]; exact (CellsAt.new w 74 [.int .i64 qid, .string qnm, .int .i64 qty, .int .i64 qsv]).below (((Below.refl _ _).alloc (Nat.le_refl _) _).alloc (by simp) _))
  have HX : Hid (CellsAt W0 (w.heap.size + 1) [.int .i64 m.id, .int .i64 m.fl, .slice aq m.qs.length cq, .slice a1 m.an.length c1, .slice a2 m.au.length c2, .slice a3 m.mo.length c3]) := Lib.hid (by
    have := (CellsAt.new (w.alloc (.cells #[.int .i64 qid, .string qnm, .int .i64 qty, .int .i64 qsv] 74)) 83 [.int .i64 m.id, .int .i64 m.fl, .slice aq m.qs.length cq, .slice a1 m.an.length c1, .slice a2 m.au.length c2, .slice a3 m.mo.length c3]).below ((Below.refl _ _).alloc (Nat.le_refl _) (.cells #[.int .i64 0, .slice none 0 0, .int .i64 0, .string ⟨#[]⟩, .int .i64 0] 124))
    rw [← hW0]; simpa using this)
  have HZ : Hid (CellsAt W0 (w.heap.size + 2) zT) := Lib.hid (by
    have := CellsAt.new ((w.alloc (.cells #[.int .i64 qid, .string qnm, .int .i64 qty, .int .i64 qsv] 74)).alloc (.cells #[.int .i64 m.id, .int .i64 m.fl, .slice aq m.qs.length cq, .slice a1 m.an.length c1, .slice a2 m.au.length c2, .slice a3 m.mo.length c3] 83)) 124 zT
    rw [← hW0]; simpa using this)
  have HMM := Lib.hid HM.out.2.2.1
  obtain ⟨N, hN⟩ : ∃ N, m.an.length = N := ⟨_, rfl⟩
  have HN := Lib.hid hN
  rw [hN] at HX hW0 HLN ⊢
  simp only [hN] at HCH
  generalize m.qs.length = n1 at *
  generalize m.au.length = n2 at *
  generalize m.mo.length = n3 at *
  generalize m.id = mid at *
  generalize m.fl = mfl at *
  generalize m.an = D at *
  clear hN
  have FIN : Hid (∀ (tm : Array Value) (V U : World) (v : Value) (y : Tld), y = X → tm.getD 4 undef = .pointer (some ⟨w.heap.size + 2, 0, none⟩) → Below w.heap.size w V → RowA V W0.heap.size v y.ad → U = V.setCells (w.heap.size + 2) 0 (tldL y v) → CellsAt U (w.heap.size + 2) (tldL y v) → bodyPost Tryz.prog Tryz.f46 (TellRet w X) .ret { tmps := tm, defers := [] } U) := Lib.hid (fun tm V U v y hy ht hb hr hU hc => by
    have hs := HS0.out
    subst hy
    refine bodyPost_ret (v := .agg (tldL y v).toArray) (results_of Tryz.results46 ht hc Tryz.underlying124 rfl (by kernel_rfl)) rfl ⟨v, rfl, ?_, ?_⟩
    · refine (hr.cells (G := w.heap.size + 2) (by omega) (fun k hk => ?_)).mono (by omega)
      rw [hU]; exact heap_setCells_other _ _ _ _ _ hk
    · rw [hU]; exact below_cells (by omega) _ _ _ hb)
  go_enter Tryz.func46, Tryz.ntmps46
  go_upto_region 1 with fail
  try rw [hW0]
  clear hW0
  obtain ⟨G, hG⟩ : ∃ G, w.heap.size = G := ⟨_, rfl⟩
  have HG := Lib.hid hG
  rw [hG] at HX HQ HZ FIN HS0 HB0
  rw [hG] at HCH
  try rw [hG]
  clear hG
  have x1 := HX.out.cell 1 _ rfl
  have hsT : (Tryz.prog.info? 124).map (·.size) = some 5 := by kernel_rfl
  go_wp2_with fail
  refine (HFA _).out.mono ?_
  rintro e wq ⟨rfl, hwq⟩
  obtain rfl : W0 = wq := hwq.symm
  clear HFA hwq HFP
  by_cases f3 : b4 = 3
  · have HE : Hid (errT 8 = X) := Lib.hid (by rw [HTP.out, if_pos f3])
    rw [if_pos f3]
    clear HTP f3
    go_wp2_with (refine store_of HZ rfl hsT _ _ rfl rfl rfl (vs := tldL (errT 8) (.slice none 0 0)) rfl rfl rfl (fun U HU HUC => ?_))
    exact FIN.out _ _ U (.slice none 0 0) (errT 8) HE.out rfl HB0.out (RowA.nil _ _) HU.out HUC.out
  · by_cases f0 : b4 = 0
    · have HE : Hid (X = if CH.2.2 = true then endT CH.1 (tellAll (CH.2.1, []) (D.filter (isRec (lastB CH.1) qty))) else errT 3) := Lib.hid (by rw [HTP.out, if_neg f3, if_neg (by simpa using f0)])
      have HC1 := HCH W0 HB0.out
      rw [if_neg f3, if_neg (by simpa using f0)]
      clear HTP f3 HCH
      have q1 := HQ.out.cell 1 _ rfl
      have x3 := HX.out.cell 3 _ rfl
      go_wp2_with fail
      refine HC1.out.mono ?_
      rintro e w1 ⟨v1, rfl, hr1, hb1⟩
      obtain ⟨pre, last, hpl⟩ : ∃ pre last, CH.1 = pre ++ [last] := by
        obtain ⟨l, e, _⟩ := HPOS.out
        exact ⟨CH.1.dropLast, CH.1.getLast (by rw [e]; simp), (List.dropLast_concat_getLast (by rw [e]; simp)).symm⟩
      have hL8 : pre.length ≤ 8 := by
        obtain ⟨l, e, h8⟩ := HPOS.out
        have := congrArg List.length (e.symm.trans hpl)
        simp at this; omega
      have hls : last.size ≤ 2000000 := HSM.out last (by rw [hpl]; simp)
      rw [hpl] at hr1
      obtain ⟨g, c, rfl, hg, hlc⟩ := hr1.last
      have HB1 := Lib.hid hb1
      have HE2 : Hid (X = if CH.2.2 = true then endT (pre ++ [last]) (tellAll (CH.2.1, []) (D.filter (isRec last qty))) else errT 3) := Lib.hid (by rw [HE.out, hpl, lastB_app])
      obtain ⟨cn, T0, ends⟩ := CH
      simp only at HE2 HTL ⊢
      obtain ⟨L, hL⟩ : ∃ L, pre.length = L := ⟨_, rfl⟩
      have HL := Lib.hid hL
      rw [hL] at hlc hL8 ⊢
      clear hL hpl hr1 hb1 HE HC1 HPOS HSM
      have hi1 : (0 : Int) ≤ (L : Int) := by omega
      have hi2 : (L : Int) < (L : Int) + 1 := by omega
      have HZ1 := Lib.hid (HZ.out.below HB1.out)
      have HQ1 := Lib.hid (HQ.out.below HB1.out)
      have HX1 := Lib.hid (HX.out.below HB1.out)
      clear x1 q1 x3
      cases ends with
      | false =>
        have HE3 : Hid (errT 3 = X) := Lib.hid (by rw [HE2.out]; rfl)
        clear HE2
        go_wp2_with (refine store_of HZ1 rfl hsT _ _ rfl rfl rfl (vs := tldL (errT 3) (.slice none 0 0)) rfl rfl rfl (fun U HU HUC => ?_))
        exact FIN.out _ w1 U (.slice none 0 0) (errT 3) HE3.out rfl (HB0.out.trans (HB1.out.mono (by have := HS0.out; omega))) (RowA.nil _ _) HU.out HUC.out
      | true =>
        have HE3 : Hid (X = endT (pre ++ [last]) (min T0 (tellAll (604800, []) (D.filter (isRec last qty))).1, (tellAll (604800, []) (D.filter (isRec last qty))).2)) := Lib.hid (by
          rw [HE2.out, if_pos rfl, ← tell_min, show min T0 604800 = T0 by have := HTL.out; omega])
        have HTE := Lib.hid (tell_empty (D.filter (isRec last qty)) 604800)
        have HAD := Lib.hid (addresses_any last qty a1 c1 D w1 (((HM.out.below (by rw [HG.out]; exact HB0.out)).below HB1.out)) HD.out hls (by rw [HN.out]; exact HLN.out))
        simp only [HN.out] at HAD
        clear HE2
        have q2 := HQ1.out.cell 2 _ rfl
        have x3 := HX1.out.cell 3 _ rfl
        go_wp2_with fail
        refine HAD.out.mono ?_
        rintro e w2 ⟨v2, rfl, hr2, hb2⟩
        generalize tellAll (604800, []) (D.filter (isRec last qty)) = y at *
        obtain ⟨T, acc⟩ := y
        simp only at hr2 HE3 HTE ⊢
        have HR2 := Lib.hid (hr2.mono HB1.out.size)
        have HB2 := Lib.hid (chain HB1.out hb2)
        have HZ2 := Lib.hid (HZ.out.below HB2.out)
        obtain ⟨av, cv, rfl, hav⟩ := hr2.ads
        clear hr2 hb2 HB1 HAD q2 x3 HZ1 HQ1 HX1 hlc hg hav
        have hlen : (pre ++ [last]).length = L + 1 := by rw [List.length_append, HL.out]; rfl
        by_cases hac : acc = []
        · subst hac
          have hl0 : ([] : List Ad).length = 0 := rfl
          have HT0 : Hid (T = 604800) := Lib.hid (HTE.out rfl)
          have hmin : min T0 T = T0 := by have := HTL.out; have := HT0.out; omega
          rw [hmin] at HE3
          rw [hl0] at HR2 ⊢
          clear hmin
          by_cases hL0 : L = 0
          · have HE5 : Hid (errT 8 = X) := Lib.hid (by rw [HE3.out]; unfold endT; rw [if_pos rfl, if_pos (by rw [hlen, hL0])])
            have e4 : (L == 0) = true := by simp [hL0]
            have e5 : ((L : Int) == 0) = true := by simp [hL0]
            have e6 : decide ((L : Int) = 0) = true := by simp [hL0]
            clear HE3 hL0 hlen HTE
            go_wp2_with (refine store_of HZ2 rfl hsT _ _ rfl rfl rfl (vs := tldL (errT 8) (.slice none 0 0)) rfl rfl rfl (fun U HU HUC => ?_))
            exact FIN.out _ w2 U (.slice none 0 0) (errT 8) HE5.out rfl (HB0.out.trans (HB2.out.mono (by have := HS0.out; omega))) (RowA.nil _ _) HU.out HUC.out
          · have HE5 : Hid (⟨0, [], T0, last, L⟩ = X) := Lib.hid (by rw [HE3.out]; unfold endT; rw [if_pos rfl, if_neg (by rw [hlen]; omega), hlen, lastB_app]; rfl)
            have e4 : (L == 0) = false := by simp; omega
            have e5 : ((L : Int) == 0) = false := by simp; omega
            have e6 : decide ((L : Int) = 0) = false := by simp; omega
            clear HE3 hlen HTE
            go_wp2_with (refine store_of HZ2 rfl hsT _ _ rfl rfl rfl (vs := tldL ⟨0, [], T0, last, L⟩ (.slice none 0 0)) rfl rfl rfl (fun U HU HUC => ?_))
            exact FIN.out _ w2 U (.slice none 0 0) ⟨0, [], T0, last, L⟩ HE5.out rfl (HB0.out.trans (HB2.out.mono (by have := HS0.out; omega))) (RowA.nil _ _) HU.out HUC.out
        · obtain ⟨T1, hT1⟩ : ∃ T1, min T0 T = T1 := ⟨_, rfl⟩
          have HT1 := Lib.hid hT1
          rw [hT1] at HE3
          have HE5 : Hid (⟨0, acc, T1, ⟨#[]⟩, L⟩ = X) := Lib.hid (by rw [HE3.out]; unfold endT; rw [if_neg hac, hlen]; rfl)
          obtain ⟨M, hM⟩ : ∃ M, acc.length = M := ⟨_, rfl⟩
          have hM0 : 0 < M := by rw [← hM]; exact List.length_pos_iff.2 hac
          have hdM : decide ((0 : Int) < (M : Int)) = true := decide_eq_true (by omega)
          rw [hM] at HR2 ⊢
          clear HE3 hac hM hlen HTE hT1
          go_wp2_with (first | (refine min_step rfl _ _ rfl rfl rfl ?_; rw [HT1.out]) | refine store_of HZ2 rfl hsT _ _ rfl rfl rfl (vs := tldL ⟨0, acc, T1, ⟨#[]⟩, L⟩ (.slice av M cv)) rfl rfl rfl (fun U HU HUC => ?_))
          exact FIN.out _ w2 U (.slice av M cv) ⟨0, acc, T1, ⟨#[]⟩, L⟩ HE5.out rfl (HB0.out.trans (HB2.out.mono (by have := HS0.out; omega))) HR2.out HU.out HUC.out
    · have HE : Hid (errT 7 = X) := Lib.hid (by rw [HTP.out, if_neg f3, if_pos f0])
      rw [if_neg f3, if_pos f0]
      clear HTP f3 f0
      go_wp2_with (refine store_of HZ rfl hsT _ _ rfl rfl rfl (vs := tldL (errT 7) (.slice none 0 0)) rfl rfl rfl (fun U HU HUC => ?_))
      exact FIN.out _ _ U (.slice none 0 0) (errT 7) HE.out rfl HB0.out (RowA.nil _ _) HU.out HUC.out
end Go.Proofs.YtedmkdjijhflnaaGreat
namespace Go.Proofs.YtedmkdjijhflnaaGreat
open Go.RowKit

set_option maxRecDepth 100000 in
set_option maxHeartbeats 2000000 in
theorem answers11_any (q : Qry) (sv : Int) (m : Msg) (aq a1 a2 a3 : Option Addr) (cq c1 c2 c3 : Nat) (w : World) (hM : QusAt w aq cq m.qs) (hn : q.nm.size ≤ 2000000) (hq : ∀ a ∈ m.qs, a.name.size ≤ 2000000) :
    Calls Tryz.prog 44 #[qryV q, .int .i64 sv, msgV m aq a1 a2 a3 cq c1 c2 c3] w fun e w' => e = .returned (.bool (ansP q sv m)) ∧ Below w.heap.size w w' := by
  have h1 := ansP_1 (q := q) (sv := sv) (m := m)
  have h2 := ansP_2 (q := q) (sv := sv) (m := m)
  have h3 := ansP_3 (q := q) (sv := sv) (m := m)
  have h4 := ansP_4 (q := q) (sv := sv) (m := m)
  have h5 := fun a => ansP_5 (q := q) (sv := sv) (m := m) (a := a)
  have HM := Lib.hid hM
  have HWA := fun W => Lib.hid (wholeF_any m.fl W)
  have HQN := Lib.hid hq
  have HQ1 := Lib.hid hn
  obtain ⟨fo, hfo⟩ : ∃ b, flagOk m.fl = b := ⟨_, rfl⟩
  rw [hfo] at h4
  simp only [hfo] at h5 HWA
  clear hfo hM hq hn
  obtain ⟨R, hR⟩ : ∃ R, ansP q sv m = R := ⟨_, rfl⟩
  rw [hR] at h1 h2 h3 h4 ⊢
  have h5' := fun a (e1 : q.sv = sv) e2 e3 e4 => (hR.symm.trans (h5 a e1 e2 e3 e4))
  clear h5 hR
  obtain ⟨qid, qnm, qty, qsv⟩ := q
  unfold qryV msgV
  simp only at h1 h2 h3 h4 h5' HQ1 ⊢
  obtain ⟨W0, hW0⟩ : ∃ W0, (w.alloc (.cells #[.int .i64 qid, .string qnm, .int .i64 qty, .int .i64 qsv] 74)).alloc (.cells #[.int .i64 m.id, .int .i64 m.fl, .slice aq m.qs.length cq, .slice a1 m.an.length c1, .slice a2 m.au.length c2, .slice a3 m.mo.length c3] 83) = W0 := ⟨_, rfl⟩
  have HX : Hid (CellsAt W0 (w.heap.size + 1) [.int .i64 m.id, .int .i64 m.fl, .slice aq m.qs.length cq, .slice a1 m.an.length c1, .slice a2 m.au.length c2, .slice a3 m.mo.length c3]) := Lib.hid (by
    have := CellsAt.new (w.alloc (.cells #[.int .i64 qid, .string qnm, .int .i64 qty, .int .i64 qsv] 74)) 83 [.int .i64 m.id, .int .i64 m.fl, .slice aq m.qs.length cq, .slice a1 m.an.length c1, .slice a2 m.au.length c2, .slice a3 m.mo.length c3]
    rw [← hW0]; simpa using this)
  have HQ : Hid (CellsAt W0 w.heap.size [.int .i64 qid, .string qnm, .int .i64 qty, .int .i64 qsv]) := Lib.hid (by
    rw [← hW0]; exact (CellsAt.new w 74 [.int .i64 qid, .string qnm, .int .i64 qty, .int .i64 qsv]).below ((Below.refl _ _).alloc (Nat.le_refl _) _))
  have HB0 : Hid (Below w.heap.size w W0) := Lib.hid (by rw [← hW0]; exact ((Below.refl _ _).alloc (Nat.le_refl _) _).alloc (by simp) _)
  have HS0 : Hid (W0.heap.size = w.heap.size + 2) := Lib.hid (by rw [← hW0]; simp)
  have HQL : Hid (∀ n, m.qs.length = n → n ≠ 1 → R = false) := Lib.hid (fun n e h => h3 (by rw [e]; exact h))
  obtain ⟨N, hN⟩ : ∃ N, m.qs.length = N := ⟨_, rfl⟩
  have HN := Lib.hid hN
  rw [hN] at HX hW0 h3 ⊢
  generalize m.an.length = n1 at *
  generalize m.au.length = n2 at *
  generalize m.mo.length = n3 at *
  have H4 := Lib.hid h4
  have H5 := Lib.hid h5'
  generalize m.id = mid at *
  generalize m.fl = mfl at *
  clear hN h4 h5' HQL
  go_enter Tryz.func44, Tryz.ntmps44
  go_upto_region 1 with fail
  try rw [hW0]
  clear hW0
  obtain ⟨G, hG⟩ : ∃ G, w.heap.size = G := ⟨_, rfl⟩
  have HG := Lib.hid hG
  rw [hG] at HX HQ
  try rw [hG]
  clear hG
  have q0 := HQ.out.cell 0 _ rfl
  have q1 := HQ.out.cell 1 _ rfl
  have q2 := HQ.out.cell 2 _ rfl
  have q3 := HQ.out.cell 3 _ rfl
  have x0 := HX.out.cell 0 _ rfl
  have x1 := HX.out.cell 1 _ rfl
  have x2 := HX.out.cell 2 _ rfl
  by_cases e1 : qsv = sv
  · have d1 : (sv != qsv) = false := by simp [e1]
    have H1 := Lib.hid e1
    by_cases e2 : qid = mid
    · have d2 : (mid != qid) = false := by simp [e2]
      have H2 := Lib.hid e2
      cases fo with
      | false =>
        have ER := H4.out rfl
        clear e1 e2 h1 h2 h3 H4 H5
        subst ER
        go_wp2_with fail
        refine (HWA _).out.mono ?_
        rintro e wq ⟨rfl, hwq⟩
        obtain rfl : W0 = wq := hwq.symm
        go_wp2_with fail
        go_ret
        exact ⟨rfl, HB0.out⟩
      | true =>
        by_cases e3 : N = 1
        · have d3 : ((N : Int) != 1) = false := by simp [e3]
          have d4 : (N != 1) = false := by simp [e3]
          clear e1 e2 h1 h2 h3
          subst e3
          obtain ⟨u, hu⟩ := len_one HN.out
          have HU := Lib.hid hu
          obtain ⟨g, o, rfl, hg, y0, y1, y2⟩ := (HM.out.below HB0.out).at 0 (by rw [hu]; exact Nat.zero_lt_one)
          simp only [hu, List.getElem_cons_zero, Nat.zero_mul, Nat.add_zero] at y0 y1 y2
          have HLK := fun W => Lib.hid (like_any u.name qnm W (HQN.out u (by rw [hu]; simp)) HQ1.out)
          obtain ⟨un, uy, uc⟩ := u
          simp only at y0 y1 y2 HLK
          have HRA : Hid (R = (likeB un qnm && (decide (uy = qty) && decide (uc = 1)))) := Lib.hid (H5.out ⟨un, uy, uc⟩ H1.out H2.out HU.out rfl)
          clear hu H4 H5
          go_wp2_with fail
          refine (HWA _).out.mono ?_
          rintro e wq ⟨rfl, hwq⟩
          obtain rfl : W0 = wq := hwq.symm
          clear HWA hwq
          go_upto_region 4 with fail
          obtain ⟨W1, hW1⟩ : ∃ W1, W0.alloc (.cells #[.string un, .int .i64 uy, .int .i64 uc] 139) = W1 := ⟨_, rfl⟩
          have HU1 : Hid (CellsAt W1 W0.heap.size [.string un, .int .i64 uy, .int .i64 uc]) := Lib.hid (by rw [← hW1]; exact qu_boxed _ _ _ _ _)
          have HB1 : Hid (Below W0.heap.size W0 W1) := Lib.hid (by rw [← hW1]; exact (Below.refl _ _).alloc (Nat.le_refl _) _)
          try rw [hW1]
          clear hW1
          have HX1 := Lib.hid (HX.out.below HB1.out)
          have HQ2 := Lib.hid (HQ.out.below HB1.out)
          have HBB := Lib.hid (chain HB0.out HB1.out)
          have hs0 := HS0.out
          rw [HG.out] at hs0
          rw [hs0] at HU1
          try rw [hs0]
          clear q0 q1 q2 q3 x0 x1 x2 y0 y1 y2 hs0 HX HQ hg HB0 HB1
          have q1 := HQ2.out.cell 1 _ rfl
          have u0 := HU1.out.cell 0 _ rfl
          generalize likeB un qnm = lk at *
          go_wp2_with fail
          refine (HLK _).out.mono ?_
          rintro e w2 ⟨rfl, qq, hq2⟩
          have hb : Below W1.heap.size W1 w2 := by rw [hq2]; exact belowN (Below.refl _ _) _
          have HU2 := Lib.hid (HU1.out.below hb)
          have HQ3 := Lib.hid (HQ2.out.below hb)
          have HB2 := Lib.hid (chain HBB.out hb)
          clear hb HU1 HQ2 HX1 HBB q1 u0 hq2
          have q2 := HQ3.out.cell 2 _ rfl
          have u1 := HU2.out.cell 1 _ rfl
          have u2 := HU2.out.cell 2 _ rfl
          by_cases g1 : uy = qty
          all_goals by_cases g2 : uc = 1
          all_goals cases lk
          all_goals
            have ER := HRA.out
            simp only [g1, g2, decide_true, decide_false, Bool.and_true, Bool.and_false, Bool.true_and, Bool.false_and] at ER
            clear HRA
            subst ER
            have k1 : (uy == qty) = decide (uy = qty) := rfl
            have k2 : (uc == 1) = decide (uc = 1) := rfl
            simp only [g1, g2, decide_true, decide_false] at k1 k2
            go_wp2_with fail
            go_ret
            exact ⟨rfl, HB2.out⟩
        · have d3 : ((N : Int) != 1) = true := by simp; omega
          have d4 : (N != 1) = true := by simp; omega
          have ER := h3 e3
          clear e1 e2 e3 h1 h2 h3 H4 H5
          subst ER
          go_wp2_with fail
          refine (HWA _).out.mono ?_
          rintro e wq ⟨rfl, hwq⟩
          obtain rfl : W0 = wq := hwq.symm
          go_wp2_with fail
          go_ret
          exact ⟨rfl, HB0.out⟩
    · have d2 : (mid != qid) = true := by simp; exact fun h => e2 h.symm
      have ER := h2 e2
      clear e1 e2 h1 h2 h3
      subst ER
      go_wp2_with fail
      go_ret
      exact ⟨rfl, HB0.out⟩
  · have d1 : (sv != qsv) = true := by simp; exact fun h => e1 h.symm
    have ER := h1 e1
    clear e1 h1 h2 h3
    subst ER
    go_wp2_with fail
    go_ret
    exact ⟨rfl, HB0.out⟩
end Go.Proofs.YtedmkdjijhflnaaGreat
namespace Go.Proofs.YtedmkdjijhflnaaGreat
open Go.RowKit Go.Sort Go.Shelf Go.Maps

theorem min_wf {x y : Int} (hx : (Lit.int .i64 x).wf = true) (hy : (Lit.int .i64 y).wf = true) : (Lit.int .i64 (min x y)).wf = true := by
  rcases Int.le_total x y with e | e
  · rw [Int.min_eq_left e]; exact hx
  · rw [Int.min_eq_right e]; exact hy
theorem chain_wf {D : List Rec} (hD : ∀ r ∈ D, (Lit.int .i64 r.ttl).wf = true) (n : Nat) {nm : ByteArray} {t : Int} (ht : (Lit.int .i64 t).wf = true) : (Lit.int .i64 (chainP D n nm t).2.1).wf = true := by
  induction n generalizing nm t with
  | zero => exact ht
  | succ n ih =>
    cases h : nextR D nm with
    | none => rw [chain_none h]; exact ht
    | some r => rw [chain_succ h]; exact ih (min_wf ht (hD r (next_mem h).1))
theorem tellAll_wf {D : List Rec} (hD : ∀ r ∈ D, (Lit.int .i64 r.ttl).wf = true) : ∀ x : Int × List Ad, (Lit.int .i64 x.1).wf = true → (Lit.int .i64 (tellAll x D).1).wf = true := by
  induction D with
  | nil => intro x h; exact h
  | cons r D ih => intro x h; rw [tell_cons]; exact ih (fun y hy => hD y (List.mem_cons_of_mem _ hy)) _ (min_wf h (hD r (List.mem_cons_self ..)))
theorem lastB_le {l : List ByteArray} {k : Nat} (h : ∀ p ∈ l, p.size ≤ k) : (lastB l).size ≤ k := by
  unfold lastB
  cases l with
  | nil => exact Nat.zero_le _
  | cons x l =>
    rw [List.getLastD_cons]
    cases l with
    | nil => exact h x (by simp)
    | cons y l => rw [List.getLastD_eq_getLast?, List.getLast?_eq_some_getLast (by simp)]; exact h _ (List.mem_cons_of_mem _ (List.getLast_mem _))
theorem told_fit {D : List Rec} {fl kd : Int} {nm : ByteArray} (hD : All2 D) (hF : ∀ r ∈ D, Fit r) (hn : nm.size ≤ 2000000) : (tellP fl nm kd D).st ≤ 100 ∧ (Lit.int .i64 (tellP fl nm kd D).ttl).wf = true ∧ (tellP fl nm kd D).nx.size ≤ 2000000 := by
  have hw : ∀ r ∈ D, (Lit.int .i64 r.ttl).wf = true := fun r hr => (hF r hr).2.2.2.2.1
  have he : ∀ e, (errT e).st ≤ 100 ∧ (Lit.int .i64 (errT e).ttl).wf = true ∧ (errT e).nx.size ≤ 2000000 := fun e => ⟨Nat.zero_le _, by show (Lit.int .i64 0).wf = true; decide, Nat.zero_le _⟩
  obtain ⟨l, e1, e2⟩ := chain_pos D 8 nm 604800
  have h3 := chain_small hD 8 hn 604800
  have h4 := chain_wf hw 8 (nm := nm) (t := 604800) (by decide)
  unfold tellP
  dsimp only
  generalize chainP D 8 nm 604800 = C at *
  split
  · exact he _
  split
  · exact he _
  split
  · have h5 := tellAll_wf (D := D.filter (isRec (lastB C.1) kd)) (fun r hr => hw r (List.mem_filter.1 hr).1) (C.2.1, []) h4
    generalize tellAll (C.2.1, []) (D.filter (isRec (lastB C.1) kd)) = Y at *
    unfold endT
    split
    · split
      · exact he _
      · exact ⟨by show C.1.length - 1 ≤ 100; rw [e1, List.length_cons]; omega, h5, lastB_le h3⟩
    · exact ⟨by show C.1.length - 1 ≤ 100; rw [e1, List.length_cons]; omega, h5, Nat.zero_le _⟩
  · exact he _
theorem PutW.mono {w0 w w' : World} {rm : Int} {es es' : List Ce} {s : ByteArray} {t ttl now : Int} {L : List Ad} (h : PutW w w' rm es s t ttl now L es') (hw : w0.heap.size ≤ w.heap.size) : PutW w0 w' rm es s t ttl now L es' := by
  rcases h with h | ⟨h1, a, c, h2, h3, h4⟩
  · exact .inl h
  · exact .inr ⟨h1, a, c, h2, h3, fun g o e => Nat.le_trans hw (h4 g o e)⟩
theorem ToldW.mono {w0 w w' : World} {c : Cfg} {A A' : List PL} {es es' : List Ce} {p : PL} {x : Tld} {a : Option Addr} {cap : Nat} {draw now : Int} {ev : Ev} (h : ToldW w w' c A es p x a cap draw now ev A' es') (hw : w0.heap.size ≤ w.heap.size) : ToldW w0 w' c A es p x a cap draw now ev A' es' := by
  rcases h with h | h | h | ⟨h1, h2, h3, h4, h5, h6, h7⟩ | h
  · exact .inl h
  · exact .inr (.inl h)
  · exact .inr (.inr (.inl h))
  · exact .inr (.inr (.inr (.inl ⟨h1, h2, h3, h4, h5, h6, h7.mono hw⟩)))
  · exact .inr (.inr (.inr (.inr h)))
theorem PutW.after {w w1 w2 : World} {rm : Int} {es es' : List Ce} {s : ByteArray} {t ttl now : Int} {L : List Ad} (h : PutW w w1 rm es s t ttl now L es') (hb : Below w1.heap.size w1 w2) : PutW w w2 rm es s t ttl now L es' := by
  rcases h with h | ⟨h1, a, c, h2, h3, h4⟩
  · exact .inl h
  · exact .inr ⟨h1, a, c, h2, h3.below hb, h4⟩
theorem ToldW.after {w w1 w2 : World} {c : Cfg} {A A' : List PL} {es es' : List Ce} {p : PL} {x : Tld} {a : Option Addr} {cap : Nat} {draw now : Int} {ev : Ev} (h : ToldW w w1 c A es p x a cap draw now ev A' es') (hb : Below w1.heap.size w1 w2) : ToldW w w2 c A es p x a cap draw now ev A' es' := by
  rcases h with h | h | h | ⟨h1, h2, h3, h4, h5, h6, h7⟩ | h
  · exact .inl h
  · exact .inr (.inl h)
  · exact .inr (.inr (.inl h))
  · exact .inr (.inr (.inr (.inl ⟨h1, h2, h3, h4, h5, h6.below hb, h7.after hb⟩)))
  · exact .inr (.inr (.inr (.inr h)))
theorem wp_build_evM {op : Oper} {a : Act} {w : World} {K : Act → World → Prop} {Q : Exit → Act → World → Prop} {q : Ev} (x : Operand) (ho : op.op = .buildSlice 61 1 #[(0, x)])
    (hx : a.eval x = evV q) (h : K (a.put op.dst (.slice (some ⟨w.heap.size, 0, none⟩) 1 1)) (w.alloc (.cells (evL q).toArray 77))) : op.wp Tryz.prog a w K Q := by
  unfold Oper.wp execOp
  simp only [ho, List.map_toArray, List.map_cons, List.map_nil, hx, Sem.run_bind, run_buildEv q w, Result.andThen_ok]
  exact h
theorem ownEv_new (W : World) (q : Ev) : RowEv (W.alloc (.cells (evL q).toArray 77)) W.heap.size (.slice (some ⟨W.heap.size, 0, none⟩) 1 1) [q] :=
  ⟨⟨rfl, .inr ⟨W.heap.size, 1, (evL q).toArray, rfl, Nat.le_refl _, by show (W.heap.push _)[W.heap.size]? = _; simp, Nat.le_refl _, by decide, rfl, by simp [flatEv, evL]⟩⟩, by show 1 ≤ 1000; decide⟩
theorem lk_query {w : World} {g : Nat} {l : Lk} (h : CellsAt w g (lkL l)) : w.rangeAt g 2 [.int .i64 l.q.id, .string l.q.nm, .int .i64 l.q.ty, .int .i64 l.q.sv] := fun j u hu => by
  refine h.cell (2 + j) u ?_
  rcases j with _ | _ | _ | _ | j
  · simpa [lkL] using hu
  · simpa [lkL] using hu
  · simpa [lkL] using hu
  · simpa [lkL] using hu
  · simp at hu
def HearRet (w : World) (G cp b : Nat) (c : Cfg) (n : Int) (v : Value) (A : List PL) (es : List Ce) (sv : Int) (bs : List UInt8) (draw now : Int) (e : Ending) (w' : World) : Prop :=
  ∃ ve L v' A' es', e = .returned ve ∧ RowEv w' w.heap.size ve L ∧ v'.ownBlock = v.ownBlock ∧ SolO w' G cp c n v' A' ∧ CacAt w' cp b c.rm es' ∧ Foot (b :: fpO G v A) (b :: fpO G v A) w w' ∧ (∀ k ∈ A'.map Prod.fst, k ∈ A.map Prod.fst) ∧
    ((L = [] ∧ A' = A ∧ es' = es ∧ ((bs.length ≤ 1232 → mgP bs = none) ∨ ∃ m, bs.length ≤ 1232 ∧ mgP bs = some m ∧ ∀ q ∈ A, ansP q.2.q sv m = false)) ∨
     ∃ m P p D ev a cap, bs.length ≤ 1232 ∧ mgP bs = some m ∧ A = P ++ p :: D ∧ (∀ q ∈ P, ansP q.2.q sv m = false) ∧ ansP p.2.q sv m = true ∧ L = [ev] ∧ (∀ g o, a = some ⟨g, o, none⟩ → w.heap.size ≤ g) ∧ ToldW w w' c A es p (tellP m.fl p.2.q.nm p.2.q.ty m.an) a cap draw now ev A' es')
set_option maxRecDepth 100000 in
set_option maxHeartbeats 4000000 in
theorem hear_any (G cp b : Nat) (sv draw now : Int) (ad : Option Addr) (cb : Nat) (bs : List UInt8) (c : Cfg) (n : Int) (v : Value) (A : List PL) (es : List Ce) (w : World)
    (h : SolO w G cp c n v A) (hc : CacAt w cp b c.rm es) (hna : cp ∉ fpO G v A ∧ b ∉ fpO G v A) (hal : ∀ p ∈ A, p.2.se < c.tr ∧ p.2.st ≤ 8)
    (hd : (Lit.int .i64 draw).wf = true) (h0 : 0 ≤ now) (h1 : now ≤ 2199023255552) (hl : A.length ≤ 100) (hB : BytesIn2 w ad cb bs) (had : ∀ x, ad = some x → bs.length ≠ 0 → x.block < w.heap.size) (hcnt : ∀ m, mgP bs = some m → m.an.length ≤ 900) :
    Calls Tryz.prog 21 #[.pointer (some ⟨G, 0, none⟩), .int .i64 sv, .slice ad bs.length cb, .int .i64 draw, .int .i64 now] w (HearRet w G cp b c n v A es sv bs draw now) := by
  have HRD := Lib.hid (read9L_any hB had)
  have HS := Lib.hid h
  have HCA := Lib.hid hc
  have HNA := Lib.hid hna
  have HAL := Lib.hid hal
  have HD := Lib.hid hd
  have HN0 := Lib.hid h0
  have HN1 := Lib.hid h1
  have HL := Lib.hid hl
  have HCN := Lib.hid hcnt
  obtain ⟨nb, hnb⟩ : ∃ nb, bs.length = nb := ⟨_, rfl⟩
  simp only [hnb] at HRD ⊢
  have HNB := Lib.hid hnb
  clear h hc hna hal hd h0 h1 hl hB had hcnt hnb
  go_enter Tryz.func21, Tryz.ntmps21
  go_upto_region 1 with fail
  go_wp2_with fail
  refine HRD.out.mono ?_
  rintro e w2 ⟨hb2, hr⟩
  have HZ := Lib.hid (CellsAt.new w2 83 zM)
  have HB2 := Lib.hid hb2
  rcases hr with ⟨hno, er, her, rfl⟩ | ⟨hle, m, bq, b1, b2, b3, dq, d1, d2, d3, hm, rfl, hmi⟩
  · have hne : ((er : Int) != 0) = true := by simp [her]
    clear HRD
    have hb3 : Below w2.heap.size w2 (w2.alloc (.cells zM.toArray 83)) := (Below.refl _ _).alloc (Nat.le_refl _) _
    have HB3 := Lib.hid hb3
    go_upto_region 2 with (refine store_of HZ rfl (by kernel_rfl) _ _ rfl rfl rfl (vs := zM) rfl rfl rfl (fun U HU HUC => ?_))
    have HBU : Hid (Below w.heap.size w U) := Lib.hid (by rw [HU.out]; exact below_cells (by have := HB2.out.size; exact this) _ _ _ (chain HB2.out HB3.out))
    clear HU HUC HZ HB2 HB3 hb2 hb3
    go_wp2_with fail
    go_ret
    exact ⟨_, [], v, A, es, rfl, RowEv.nil _ _, rfl, HS.out.below HBU.out, HCA.out.below HBU.out, Foot.ofBelow _ HBU.out, fun k hk => hk, .inl ⟨rfl, rfl, rfl, .inl hno⟩⟩
  · have HMM := Lib.hid hm
    have HLE := Lib.hid hle
    have HMI := Lib.hid hmi
    have hb3 : Below w2.heap.size w2 (w2.alloc (.cells zM.toArray 83)) := (Below.refl _ _).alloc (Nat.le_refl _) _
    have HB3 := Lib.hid hb3
    clear HRD hm hle hmi hb2 hb3
    unfold msgV
    go_upto_region 2 with (refine store_of HZ rfl (by kernel_rfl) _ _ rfl rfl rfl (vs := [.int .i64 m.id, .int .i64 m.fl, .slice bq m.qs.length dq, .slice b1 m.an.length d1, .slice b2 m.au.length d2, .slice b3 m.mo.length d3]) rfl rfl rfl (fun U HU HUC => ?_))
    have HBU : Hid (Below w.heap.size w U) := Lib.hid (by rw [HU.out]; exact below_cells (by have := HB2.out.size; exact this) _ _ _ (chain HB2.out HB3.out))
    have HMU : Hid (MsgIn U m bq b1 b2 b3 dq d1 d2 d3) := Lib.hid (HMI.out.below (by rw [HU.out]; exact below_cells (Nat.le_refl _) _ _ _ HB3.out))
    have HMC := HUC
    obtain ⟨M, hM⟩ : ∃ M, w2.heap.size = M := ⟨_, rfl⟩
    have HMW : Hid (w.heap.size ≤ M) := Lib.hid (by rw [← hM]; exact HB2.out.size)
    rw [hM] at HMC
    try rw [hM]
    clear HU HUC HZ HB2 HB3 HMI hM
    have HSU := Lib.hid (HS.out.below HBU.out)
    have HCU := Lib.hid (HCA.out.below HBU.out)
    have hmg := mgP_is HMM.out
    have HA2 : Hid (All2 m.an) := Lib.hid (fun r hr => by have := hmg.2.1.2.1 r hr; unfold Room at this; omega)
    have HQ2 : Hid (∀ q ∈ m.qs, q.name.size ≤ 2000000) := Lib.hid (fun q hq => by have := hmg.2.1.1 q hq; omega)
    have HFT : Hid (∀ r ∈ m.an, Fit r) := Lib.hid hmg.2.2.2.2.1
    have HC9 : Hid (m.an.length ≤ 900) := Lib.hid (HCN.out m HMM.out)
    clear hmg HCN
    have hc6 := HSU.out.cs.cell 6 _ rfl
    have hrow := HSU.out.row.form
    obtain ⟨N, hN⟩ : ∃ N, A.length = N := ⟨_, rfl⟩
    obtain ⟨ao, co, gc, hv, hgc⟩ : ∃ ao co gc, v = .slice ao N co ∧ (A ≠ [] → ao = some ⟨gc, 0, none⟩ ∧ gc < U.heap.size ∧ U.rangeAt gc 0 (ptsV (A.map Prod.fst))) := by
      rcases hrow with ⟨e1, e2⟩ | ⟨g, cap, e1, e2, e3, e4, e5, e6⟩
      · have e3 : A = [] := by simpa using e2
        exact ⟨none, 0, 0, by rw [e1, ← hN, e3]; rfl, fun e => absurd e3 e⟩
      · exact ⟨_, cap, g, by rw [e1, List.length_map, hN], fun _ => ⟨rfl, e3, e6⟩⟩
    have HGC := Lib.hid hgc
    have HNN := Lib.hid hN
    have hn100 : N ≤ 100 := by rw [← hN]; exact HL.out
    rw [hv] at hc6
    have HVV := Lib.hid hv
    have HK0 : Hid (∀ q ∈ A.take 0, ansP q.2.q sv m = false) := Lib.hid (fun q hq => by simp at hq)
    have HB0 : Hid (Below U.heap.size U U) := Lib.hid (Below.refl _ _)
    clear hrow hN hgc hv
    go_wp2_with fail
    go_loopw [27] (fun s27 wr => ∃ k : Nat, k ≤ N ∧ s27 = .int .i64 (k : Int) ∧ Hid (∀ q ∈ A.take k, ansP q.2.q sv m = false) ∧ Hid (Below U.heap.size U wr)) (fun i _ => N - (intOf i).toNat)
    case atStart => exact ⟨0, Nat.zero_le _, rfl, HK0, HB0⟩
    case round =>
      clear HK0 HB0
      obtain ⟨k, hk, rfl, HK, HB⟩ := hrel
      by_cases hkN : k < N
      · have hd : decide ((k : Int) < (N : Int)) = true := decide_eq_true (by omega)
        have hdn : decide (k < N) = true := decide_eq_true hkN
        have hk0 : k < A.length := by rw [HNN.out]; exact hkN
        have hne : A ≠ [] := fun e => by rw [e] at hk0; cases hk0
        obtain ⟨hac, hgl, hrg⟩ := HGC.out hne
        obtain ⟨g, l, hgl2⟩ : ∃ g l, A[k] = (g, l) := ⟨_, _, rfl⟩
        have hmem : (g, l) ∈ A := by rw [← hgl2]; exact List.getElem_mem hk0
        have hcell : wr.cell? ⟨gc, k, none⟩ = some (.pointer (some ⟨g, 0, none⟩)) := by
          have := hrg k (ptV g) (by rw [ptsV_at (by simpa using hk0)]; simp [hgl2])
          rw [Nat.zero_add] at this
          exact (HB.out.cell (p := ⟨gc, k, none⟩) hgl).trans this
        have HTK : Hid (A.take (k + 1) = A.take k ++ [(g, l)]) := Lib.hid (by rw [List.take_succ_eq_append_getElem hk0, hgl2])
        have HSP : Hid (A = A.take k ++ (g, l) :: A.drop (k + 1)) := Lib.hid (by rw [← hgl2, ← List.drop_eq_getElem_cons hk0, List.take_append_drop])
        have HMEM := Lib.hid hmem
        have HLK : Hid (CellsAt wr g (lkL l)) := Lib.hid ((HSU.out.lk _ hmem).1.below HB.out)
        have HMR : Hid (CellsAt wr M [.int .i64 m.id, .int .i64 m.fl, .slice bq m.qs.length dq, .slice b1 m.an.length d1, .slice b2 m.au.length d2, .slice b3 m.mo.length d3]) := Lib.hid (HMC.out.below HB.out)
        have HMI : Hid (MsgIn wr m bq b1 b2 b3 dq d1 d2 d3) := Lib.hid (HMU.out.below HB.out)
        have HQN : Hid (l.q.nm.size ≤ 2000000) := Lib.hid (HSU.out.ok _ hmem).qn
        subst hac
        clear hk0 hne hgl hrg hgl2 hmem
        go_upto_region 7 with fail
        have hsQ : (Tryz.prog.info? 74).map (·.size) = some ([.int .i64 l.q.id, .string l.q.nm, .int .i64 l.q.ty, .int .i64 l.q.sv] : List Value).length := by kernel_rfl
        have hsM : (Tryz.prog.info? 83).map (·.size) = some ([.int .i64 m.id, .int .i64 m.fl, .slice bq m.qs.length dq, .slice b1 m.an.length d1, .slice b2 m.au.length d2, .slice b3 m.mo.length d3] : List Value).length := by kernel_rfl
        obtain ⟨S, hS⟩ : ∃ S : World → Prop, (fun V => V.rangeAt g 2 [.int .i64 l.q.id, .string l.q.nm, .int .i64 l.q.ty, .int .i64 l.q.sv] ∧ V.rangeAt M 0 [.int .i64 m.id, .int .i64 m.fl, .slice bq m.qs.length dq, .slice b1 m.an.length d1, .slice b2 m.au.length d2, .slice b3 m.mo.length d3]) = S := ⟨_, rfl⟩
        have C1 : Hid (∀ w', S w' → w'.rangeAt g 2 [.int .i64 l.q.id, .string l.q.nm, .int .i64 l.q.ty, .int .i64 l.q.sv]) := Lib.hid (fun w' h => by rw [← hS] at h; exact h.1)
        have C2 : Hid (∀ w', S w' → w'.rangeAt M 0 [.int .i64 m.id, .int .i64 m.fl, .slice bq m.qs.length dq, .slice b1 m.an.length d1, .slice b2 m.au.length d2, .slice b3 m.mo.length d3]) := Lib.hid (fun w' h => by rw [← hS] at h; exact h.2)
        have HSI : Hid (∀ V, Below wr.heap.size wr V → S V) := Lib.hid (fun V hb => by rw [← hS]; exact ⟨lk_query (HLK.out.below hb), (HMR.out.below hb).range⟩)
        clear hS
        refine wp_region_noPanic ?_
        refine wp_region_held_drew (S := S) (by kernel_rfl) (HSI.out _ (Below.refl _ _).drew) (fun hHeld => ?_)
        have HB1 : Hid (Below wr.heap.size wr wr.drew) := Lib.hid (Below.refl _ _).drew
        generalize wr.drew = V at *
        have HAN : Hid (Calls Tryz.prog 44 #[.agg #[.int .i64 l.q.id, .string l.q.nm, .int .i64 l.q.ty, .int .i64 l.q.sv], .int .i64 sv, .agg #[.int .i64 m.id, .int .i64 m.fl, .slice bq m.qs.length dq, .slice b1 m.an.length d1, .slice b2 m.au.length d2, .slice b3 m.mo.length d3]] V fun e w' => e = .returned (.bool (ansP l.q sv m)) ∧ Below V.heap.size V w') := Lib.hid (answers11_any l.q sv m bq b1 b2 b3 dq d1 d2 d3 V (HMI.out.below HB1.out).qs HQN.out HQ2.out)
        refine tkT 0 ?_ rfl (Or.inl ⟨by rfl, ?_⟩) ?_
        rotate_left
        · (intro w hSw; go_simp; try (with_reducible rfl))
        try simp only [Act.put, pZ]
        refine tkT 1 ?_ rfl (Or.inl ⟨by rfl, ?_⟩) ?_
        rotate_left
        · (intro w hSw; go_simp; try (with_reducible rfl))
        try simp only [Act.put, pZ]
        refine tkT 2 ?_ rfl (Or.inl ⟨by rfl, ?_⟩) ?_
        rotate_left
        · (intro w hSw; go_simp; try (with_reducible rfl))
        try simp only [Act.put, pZ]
        refine wpAnyH_take (i := 3) rfl (by kernel_rfl) (by kernel_rfl) (by kernel_rfl) (fun _ _ _ h => h) (yields_row C1 Tryz.underlying74 rfl hsQ (by rfl) _ rfl rfl) (by assumption) ?_
        try simp only [Act.put, pZ]
        refine tkT 4 ?_ rfl (Or.inl ⟨by rfl, ?_⟩) ?_
        rotate_left
        · (intro w hSw; go_simp; try (with_reducible rfl))
        try simp only [Act.put, pZ]
        refine wpAnyH_take (i := 5) rfl (by kernel_rfl) (by kernel_rfl) (by kernel_rfl) (fun _ _ _ h => h) (yields_row C2 Tryz.underlying83 rfl hsM (by rfl) _ rfl rfl) (by assumption) ?_
        try simp only [Act.put, pZ]
        refine wpAnyH_ready (rs := [6]) (by kernel_rfl) (by simp) ?_
        refine AllReadyH.cons rfl (fun K hK => ?_) AllReadyH.nil
        go_simp
        refine HAN.out.mono ?_
        rintro e w5 ⟨rfl, hb5⟩
        have HB5 := Lib.hid (chain HB1.out hb5)
        go_wp2_with fail
        refine hK.out _ _ (HSI.out _ HB5.out) (fun hHeld2 => ?_)
        clear hK K hb5 HAN HB1
        try simp only [Act.put, pZ]
        refine wpAnyH_done (by kernel_rfl) ?_ _
        refine NoPanic.normal ?_
        clear hHeld hHeld2 HSI C1 C2 hcell
        have HBB := Lib.hid (chain HB.out HB5.out)
        have HM5 := Lib.hid (HMR.out.below HB5.out)
        have HI5 := Lib.hid (HMI.out.below HB5.out)
        clear HLK HMR HMI HB5 HB
        obtain ⟨an, han⟩ : ∃ an, ansP l.q sv m = an := ⟨_, rfl⟩
        simp only [han]
        have HAN := Lib.hid han
        clear han
        cases an with
        | false =>
          have HK2 : Hid (∀ q ∈ A.take (k + 1), ansP q.2.q sv m = false) := Lib.hid (fun q hq => by
            rw [HTK.out] at hq
            rcases List.mem_append.1 hq with hq | hq
            · exact HK.out q hq
            · rw [List.mem_singleton.1 hq]; exact HAN.out)
          clear HM5 HI5 HK HTK HSP
          go_wp2_with fail
          go_roundw
          case rel => exact ⟨k + 1, by omega, by go_num, HK2, HBB⟩
          case measure => simp [intOf]; omega
        | true =>
          obtain ⟨X, hX⟩ : ∃ X, tellP m.fl l.q.nm l.q.ty m.an = X := ⟨_, rfl⟩
          have HX := Lib.hid hX
          have HFX := Lib.hid (told_fit (fl := m.fl) (kd := l.q.ty) HA2.out HFT.out HQN.out)
          rw [hX] at HFX
          clear hX
          go_upto_region 8 with fail
          have HLT : Hid (∀ k ∈ b :: fpO G v A, k < w.heap.size) := Lib.hid (fun k hk => by
            rcases List.mem_cons.1 hk with rfl | hk
            · exact HCA.out.lt.2
            · exact fpO_lt HS.out k hk)
          have hbd : Below w5.heap.size w5 w5.drew := (Below.refl _ _).drew
          have HBD : Hid (Below U.heap.size U w5.drew) := Lib.hid (chain HBB.out hbd)
          have HMD := Lib.hid (HM5.out.below hbd)
          have HID := Lib.hid (HI5.out.below hbd)
          clear HM5 HI5 HBB hbd
          obtain ⟨S, hS⟩ : ∃ S : World → Prop, (fun V => V.rangeAt M 0 [.int .i64 m.id, .int .i64 m.fl, .slice bq m.qs.length dq, .slice b1 m.an.length d1, .slice b2 m.au.length d2, .slice b3 m.mo.length d3]) = S := ⟨_, rfl⟩
          have C2 : Hid (∀ w', S w' → w'.rangeAt M 0 [.int .i64 m.id, .int .i64 m.fl, .slice bq m.qs.length dq, .slice b1 m.an.length d1, .slice b2 m.au.length d2, .slice b3 m.mo.length d3]) := Lib.hid (fun w' h => by rw [← hS] at h; exact h)
          have HSI : Hid (∀ V, CellsAt V M [.int .i64 m.id, .int .i64 m.fl, .slice bq m.qs.length dq, .slice b1 m.an.length d1, .slice b2 m.au.length d2, .slice b3 m.mo.length d3] → S V) := Lib.hid (fun V h => by rw [← hS]; exact h.range)
          clear hS
          refine wp_region_noPanic ?_
          refine wp_region_held_drew (S := S) (by kernel_rfl) (HSI.out _ HMD.out) (fun hHeld => ?_)
          generalize w5.drew = V at *
          have HLQ : Hid (V.rangeAt g 2 [.int .i64 l.q.id, .string l.q.nm, .int .i64 l.q.ty, .int .i64 l.q.sv]) := Lib.hid (lk_query ((HSU.out.lk _ HMEM.out).1.below HBD.out))
          have HTE : Hid (Calls Tryz.prog 46 #[.agg #[.int .i64 l.q.id, .string l.q.nm, .int .i64 l.q.ty, .int .i64 l.q.sv], .agg #[.int .i64 m.id, .int .i64 m.fl, .slice bq m.qs.length dq, .slice b1 m.an.length d1, .slice b2 m.au.length d2, .slice b3 m.mo.length d3]] V (TellRet V X)) := Lib.hid (by
            have h := tell_any l.q m bq b1 b2 b3 dq d1 d2 d3 V HID.out.an HA2.out HQN.out HC9.out
            rw [HX.out] at h
            exact h)
          refine tkT 0 ?_ rfl (Or.inl ⟨by rfl, ?_⟩) ?_
          rotate_left
          · (intro w hSw; go_simp; try (with_reducible rfl))
          try simp only [Act.put, pZ]
          refine tkT 1 ?_ rfl (Or.inl ⟨by rfl, ?_⟩) ?_
          rotate_left
          · (intro w hSw; go_simp; try (with_reducible rfl))
          try simp only [Act.put, pZ]
          refine tkT 2 ?_ rfl (Or.inl ⟨by rfl, ?_⟩) ?_
          rotate_left
          · (intro w hSw; go_simp; try (with_reducible rfl))
          try simp only [Act.put, pZ]
          refine tkT 3 ?_ rfl (Or.inl ⟨by rfl, ?_⟩) ?_
          rotate_left
          · (intro w hSw; go_simp; try (with_reducible rfl))
          try simp only [Act.put, pZ]
          refine tkT 4 ?_ rfl (Or.inl ⟨by rfl, ?_⟩) ?_
          rotate_left
          · (intro w hSw; go_simp; try (with_reducible rfl))
          try simp only [Act.put, pZ]
          refine wpAnyH_take (i := 6) rfl (by kernel_rfl) (by kernel_rfl) (by kernel_rfl) (fun _ _ _ h => h) (yields_row C2 Tryz.underlying83 rfl hsM (by rfl) _ rfl rfl) (by assumption) ?_
          try simp only [Act.put, pZ]
          refine tkT 8 ?_ rfl (Or.inl ⟨by rfl, ?_⟩) ?_
          rotate_left
          · (intro w hSw; go_simp; try (with_reducible rfl))
          try simp only [Act.put, pZ]
          refine tkT 9 ?_ rfl (Or.inl ⟨by rfl, ?_⟩) ?_
          rotate_left
          · (intro w hSw; go_simp; try (with_reducible rfl))
          try simp only [Act.put, pZ]
          refine wpAnyH_ready (rs := [5]) (by kernel_rfl) (by simp) ?_
          refine ready_one rfl rfl (fun K hK => ?_)
          refine wp_load_mid _ _ rfl g 2 rfl [.int .i64 l.q.id, .string l.q.nm, .int .i64 l.q.ty, .int .i64 l.q.sv] _ HLQ.out Tryz.underlying74 rfl hsQ ?_
          refine hK.out _ _ hHeld (fun hHeld2 => ?_)
          clear hK K HLQ hsQ hsM
          try simp only [Act.put, pZ]
          refine wpAnyH_ready (rs := [7]) (by kernel_rfl) (by simp) ?_
          refine AllReadyH.cons rfl (fun K hK => ?_) AllReadyH.nil
          go_simp
          refine HTE.out.mono ?_
          rintro e w6 ⟨vt, rfl, hrow, hb6⟩
          obtain ⟨ta, tc, rfl, hads⟩ := hrow.ads
          have HB6 := Lib.hid (chain HBD.out hb6)
          have HBW := Lib.hid (chain HBU.out HB6.out)
          have HM6 := Lib.hid (HMD.out.below hb6)
          have HAD := Lib.hid hads
          have HVW : Hid (w.heap.size ≤ V.heap.size) := Lib.hid (Nat.le_trans HBU.out.size HBD.out.size)
          have HFA : Hid (∀ x o, ta = some ⟨x, o, none⟩ → x < w6.heap.size ∧ x ∉ b :: fpO G v A) := Lib.hid (fun x o e => by
            have e1 := hrow.far x o e
            have e2 := hrow.lt x (by rw [e]; rfl)
            refine ⟨e2.2, fun e3 => ?_⟩
            have e4 := HLT.out x e3
            have e5 := HVW.out
            omega)
          have HXL : Hid (X.ad.length ≤ 1000) := Lib.hid hrow.2.2
          have HFAR : Hid (∀ x o, ta = some ⟨x, o, none⟩ → w.heap.size ≤ x) := Lib.hid (fun x o e => by have e1 := hrow.far x o e; have e5 := HVW.out; omega)
          go_wp2_with fail
          refine hK.out _ _ (HSI.out _ HM6.out) (fun hHeld3 => ?_)
          clear hK K hb6 hrow hads HTE HMD HID HBD
          try simp only [Act.put, pZ]
          have HAW := Lib.hid (answered_any G cp b (g, l) X ta tc draw now c n v A es w6 (HS.out.below HBW.out) (HCA.out.below HBW.out) HNA.out HMEM.out (HAL.out _ HMEM.out).1 (HAL.out _ HMEM.out).2 HD.out HN0.out HN1.out HAD.out HFA.out HXL.out HFX.out.1 HFX.out.2.1 HFX.out.2.2)
          try simp only at HAW
          refine wpAnyH_ready (rs := [10]) (by kernel_rfl) (by simp) ?_
          refine AllReadyH.cons rfl (fun K hK => ?_) AllReadyH.nil
          go_simp
          refine HAW.out.mono ?_
          rintro e w7 ⟨ev, v7, A7, es7, rfl, hv7, hs7, hc7, hf7, hsub7, hw7⟩
          have HM7 := Lib.hid (HM6.out.foot hf7 (fun e => by have e1 := HLT.out _ e; have e2 := HMW.out; omega))
          have HV7 := Lib.hid hv7
          have HS7 := Lib.hid hs7
          have HC7 := Lib.hid hc7
          have HF7 : Hid (Foot (b :: fpO G v A) (b :: fpO G v A) w w7) := Lib.hid ((Foot.ofBelow _ HBW.out).trans hf7)
          have HU7 := Lib.hid hsub7
          have HW7 := Lib.hid (hw7.mono HBW.out.size)
          go_wp2_with fail
          refine hK.out _ _ (HSI.out _ HM7.out) (fun hHeld4 => ?_)
          clear hK K HAW hv7 hs7 hc7 hf7 hsub7 hw7 HM6
          try simp only [Act.put, pZ]
          refine wpAnyH_ready (rs := [11]) (by kernel_rfl) (by simp) ?_
          refine ready_one rfl rfl (fun K hK => ?_)
          refine wp_build_evM (q := ev) _ rfl rfl ?_
          have hb8 : Below w7.heap.size w7 (w7.alloc (.cells (evL ev).toArray 77)) := (Below.refl _ _).alloc (Nat.le_refl _) _
          have HB8 := Lib.hid hb8
          have HM8 := Lib.hid (HM7.out.below hb8)
          have HR8 : Hid (RowEv (w7.alloc (.cells (evL ev).toArray 77)) w7.heap.size (.slice (some ⟨w7.heap.size, 0, none⟩) 1 1) [ev]) := Lib.hid (ownEv_new w7 ev)
          refine hK.out _ _ (HSI.out _ HM8.out) (fun hHeld5 => ?_)
          clear hK K hb8
          try simp only [Act.put, pZ]
          refine tkT 12 ?_ rfl (Or.inl ⟨by rfl, ?_⟩) ?_
          rotate_left
          · (intro w hSw; go_simp; try (with_reducible rfl))
          try simp only [Act.put, pZ]
          refine wpAnyH_done (by kernel_rfl) ?_ _
          refine NoPanic.normal ?_
          clear hHeld hHeld2 hHeld3 hHeld4 hHeld5 HSI C2 HM8 HM7
          generalize w7.alloc (.cells (evL ev).toArray 77) = W8 at *
          go_wp2_with fail
          go_ret
          exact ⟨_, [ev], v7, A7, es7, rfl, HR8.out.mono (HF7.out.size), HV7.out, HS7.out.below HB8.out, HC7.out.below HB8.out, HF7.out.trans (Foot.ofBelow _ HB8.out), HU7.out, .inr ⟨m, A.take k, (g, l), A.drop (k + 1), ev, ta, tc, HLE.out, HMM.out, HSP.out, HK.out, HAN.out, rfl, HFAR.out, by rw [HX.out]; exact HW7.out.after HB8.out⟩⟩
      · obtain rfl : k = N := by omega
        have hd : decide ((k : Int) < (k : Int)) = false := by simp
        have hdn : decide (k < k) = false := by simp
        have htk : A.take k = A := List.take_of_length_le (by rw [HNN.out]; exact Nat.le_refl _)
        have h1 := HK.out
        rw [htk] at h1
        have H1 := Lib.hid h1
        have HBB := Lib.hid (chain HBU.out HB.out)
        clear HK h1 htk
        go_wp2_with fail
        go_ret
        exact ⟨_, [], v, A, es, rfl, RowEv.nil _ _, rfl, HS.out.below HBB.out, HCA.out.below HBB.out, Foot.ofBelow _ HBB.out, fun k hk => hk, .inl ⟨rfl, rfl, rfl, .inr ⟨m, HLE.out, HMM.out, H1.out⟩⟩⟩
end Go.Proofs.YtedmkdjijhflnaaGreat

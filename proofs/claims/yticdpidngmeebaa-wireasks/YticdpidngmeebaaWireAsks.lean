/- Whatever is asked by id, name and type, and answered by records (the first three): what asks and what answers is the document, and the landed Same says of the two what the reference says. For every number, name, type and row of records. -/
import Derived.Test.YticdpidngmeebaaB9
import Derived.Test.YticdpidngmeebaaRows
import Derived.ProofKit
import Derived.OpenShut
import Derived.ShutString
import Derived.ChangeOld
import Derived.Below
namespace Go.Proofs.Yticdpidngmeebaa.wireAsks
open Go.ChangeShapes Go.WideShapes Go.ChangeAt Go.RowKit
open Go.ChangeMaps (open_string shut_string)
set_option linter.unusedVariables false
set_option maxRecDepth 20000

theorem own : ownKnob Try.prog.godebug = none := by kernel_rfl

set_option maxRecDepth 100000 in
set_option maxHeartbeats 4000000 in
theorem walk (id : Int) (s : ByteArray) (k : Int) (a : Option Addr) (len cap : Nat) (D : List Rec) {kk : Nat} (w : World) (w0 : (Lit.int .i64 id).wf = true) (w1 : s.size ≤ maxLen) (w2 : (Lit.int .i64 k).wf = true) (w3 : RecsIn w a len cap D kk) :
    Calls Try.prog 7 #[.int .i64 id, .string s, .int .i64 k, .slice a len cap] w fun e w' => e = .returned (.bool true) ∧ Below w.heap.size w w' := by
  obtain ⟨hD, rfl, _, _⟩ := w3
  have HAS := Lib.hid (ask_any id s k w w1 w2)
  have HFQ : Hid (FitQ ⟨s, k, 1⟩) := Lib.hid ⟨w2, (by decide : (Lit.int .i64 1).wf = true), w1⟩
  have HLV := fun W => Lib.hid (lives9_any W)
  have HD0 := Lib.hid hD
  by_cases hl3 : 3 < D.length
  · obtain ⟨g, o, ha, hg, hr⟩ : ∃ g o, a = some ⟨g, o, none⟩ ∧ g < w.heap.size ∧ w.rangeAt g o (flatR D) := by
      rcases hD.2.2.2 with h | h
      · omega
      · exact h
    have HD := Lib.hid (HD0.out.take 3)
    have hE3 : (D.take 3).length = 3 := by rw [List.length_take]; omega
    have HLD := Lib.hid hE3
    generalize hDE : D.take 3 = E at *
    subst ha
    have hcp : 3 ≤ cap := by have := hD.1; omega
    have hcpi : ¬ ((cap : Int) < 3) := by omega
    have hcp0 : ¬ (cap = 0) := by omega
    have hd : decide ((3 : Int) < (D.length : Int)) = true := decide_eq_true (by omega)
    have hdn : decide (3 < D.length) = true := decide_eq_true hl3
    generalize D.length = n at *
    clear w0 w1 w2 hD hg hr hDE HD0
    go_enter Try.func7, Try.ntmps7
    clear hl3
    go_upto_region 3 with fail
    go_wp2_with fail
    refine HAS.out.mono ?_
    rintro e w1 ⟨g1, rfl, hm1, hb1⟩
    obtain ⟨vq, hvq, lvq, ovq⟩ := msg_row (askM id s k) (some ⟨g1, 0, none⟩) none none none 1 0 0 0
    have HVQ := Lib.hid hvq
    have HLQ := Lib.hid lvq
    have HM1 := Lib.hid hm1
    have HB1 := Lib.hid hb1
    have HZ1 : Hid (CellsAt (w1.alloc (.cells zM.toArray 25)) w1.heap.size zM) := Lib.hid (CellsAt.new w1 _ zM)
    rw [hvq]
    clear hm1 hb1 HAS hvq
    go_upto_region 4 with (have HZ := HZ1; refine store_msg HZ rfl _ _ rfl rfl rfl rfl lvq ovq (fun W2 HW2 HX2 => ?_); clear HZ1)
    have HB2 : Hid (Below w1.heap.size w1 W2) := Lib.hid (by rw [HW2.out]; exact below_cells (Nat.le_refl _) _ _ _ ((Below.refl _ _).alloc (Nat.le_refl _) _))
    replace HM1 := Lib.hid (HM1.out.below HB2.out)
    replace HB1 := Lib.hid (chain HB1.out HB2.out)
    clear HB2
    generalize w1.heap.size = G1 at *
    have HAN := Lib.hid (answer_any (askM id s k) (some ⟨g1, 0, none⟩) none none none 1 0 0 0 (some ⟨g, o, none⟩) cap E W2 HM1.out.qs (HD.out.below HB1.out) (by show 1 ≤ 100000; decide) (by rw [HLD.out]; decide))
    rw [HVQ.out, HLD.out] at HAN
    clear HZ HW2 lvq ovq
    go_wp2_with (refine load_msg HX2 HLQ.out _ rfl rfl rfl ?_)
    refine HAN.out.mono ?_
    rintro e w3 ⟨hb3, aq2, a2, cq2, c2, rfl, hm3⟩
    obtain ⟨va, hva, lva, ova⟩ := msg_row (ansM (askM id s k) E) aq2 a2 none none cq2 c2 0 0
    have HVA := Lib.hid hva
    have HLA := Lib.hid lva
    have HM3 := Lib.hid hm3
    have HB3 := Lib.hid (chain HB1.out hb3)
    have HX3 := Lib.hid (HX2.out.below hb3)
    replace HM1 := Lib.hid (HM1.out.below hb3)
    have HZ3 : Hid (CellsAt (w3.alloc (.cells zM.toArray 25)) w3.heap.size zM) := Lib.hid (CellsAt.new w3 _ zM)
    rw [hva]
    clear hm3 hb3 HAN hva HB1 HX2
    go_upto_region 5 with (have HZ := HZ3; refine store_msg HZ rfl _ _ rfl rfl rfl rfl lva ova (fun W4 HW4 HX4 => ?_); clear HZ3)
    have HB4 : Hid (Below w3.heap.size w3 W4) := Lib.hid (by rw [HW4.out]; exact below_cells (Nat.le_refl _) _ _ _ ((Below.refl _ _).alloc (Nat.le_refl _) _))
    replace HM1 := Lib.hid (HM1.out.below HB4.out)
    replace HM3 := Lib.hid (HM3.out.below HB4.out)
    replace HX3 := Lib.hid (HX3.out.below HB4.out)
    replace HB3 := Lib.hid (chain HB3.out HB4.out)
    clear HB4 HZ HW4 lva ova
    generalize w3.heap.size = G3 at *
    go_upto_region 6 with (first | refine build_qu3 rfl _ _ _ rfl rfl rfl rfl ?_ | refine build_quS rfl _ rfl rfl (fun W5 HW5 => ?_))
    have HB5 : Hid (Below W4.heap.size W4 W5) := Lib.hid (by rw [HW5.out]; exact (Below.refl _ _).alloc (Nat.le_refl _) _)
    have HQ5 : Hid (QusAt W5 (some ⟨W4.heap.size, 0, none⟩) 1 [⟨s, k, 1⟩]) := Lib.hid (by rw [HW5.out]; exact QusAt.new1 HFQ.out _)
    have HB6 := Lib.hid (chain HB3.out HB5.out).drew
    have HD6 := Lib.hid (HD.out.below HB6.out)
    have hdr := (Below.refl W5.heap.size W5).drew
    have HQ6 := Lib.hid (HQ5.out.below hdr)
    have HM6 := Lib.hid ((HM1.out.below HB5.out).below hdr)
    have HN6 := Lib.hid ((HM3.out.below HB5.out).below hdr)
    have HX6 := Lib.hid ((HX3.out.below HB5.out).below hdr)
    have HY6 := Lib.hid ((HX4.out.below HB5.out).below hdr)
    clear hdr HB3 HB5 HD HQ5 HM1 HM3 HX3 HX4 HW5
    generalize W4.heap.size = G5 at *
    obtain ⟨V, hV⟩ : ∃ V, W5.drew = V := ⟨_, rfl⟩
    rw [hV] at HB6 HD6 HQ6 HM6 HN6 HX6 HY6
    obtain ⟨L, hL⟩ : ∃ L : List (Nat × Nat × List Value), [(G1, 0, vq), (G3, 0, va)] = L := ⟨_, rfl⟩
    have HK : Hid (HeldR L V V) := Lib.hid (by rw [← hL]; exact HX6.out.held (HY6.out.held (HeldR.nil (Below.refl _ _))))
    have HIQ : Hid ((G1, 0, vq) ∈ L ∧ vq.length = 6) := Lib.hid ⟨by rw [← hL]; simp, HLQ.out⟩
    have HIA : Hid ((G3, 0, va) ∈ L ∧ va.length = 6) := Lib.hid ⟨by rw [← hL]; simp, HLA.out⟩
    have HMA : Hid (MsgIn V (askM id s k) (some ⟨G5, 0, none⟩) none none none 1 0 0 0) := Lib.hid ⟨HQ6.out, RecsAt.none0 _, RecsAt.none0 _, RecsAt.none0 _⟩
    have HNA : Hid (MsgIn V (ansM (askM id s k) E) (some ⟨G5, 0, none⟩) (some ⟨g, o, none⟩) none none 1 cap 0 0) := Lib.hid ⟨HQ6.out, HD6.out, RecsAt.none0 _, RecsAt.none0 _⟩
    have HLK : Hid (Lens (askM id s k)) := Lib.hid ⟨by show 1 ≤ 1000000; decide, Nat.zero_le _, Nat.zero_le _, Nat.zero_le _⟩
    have HLN : Hid (Lens (ansM (askM id s k) E)) := Lib.hid ⟨by show 1 ≤ 1000000; decide, by show E.length ≤ 1000000; rw [HLD.out]; decide, Nat.zero_le _, Nat.zero_le _⟩
    have HS1 : ∀ w', HeldR L V w' → Hid (Calls Try.prog 17 #[.agg vq.toArray, .agg #[.int .i64 id, .int .i64 256, .slice (some ⟨G5, 0, none⟩) 1 1, .slice none 0 0, .slice none 0 0, .slice none 0 0]] w' fun e w2 => e = .returned (.bool true) ∧ Below w'.heap.size w' w2) := fun w' h => Lib.hid (by
      have := refSame9_any (askM id s k) (askM id s k) _ _ _ _ _ _ _ _ _ _ _ _ _ _ _ _ w' (HM6.out.below h.bel) (HMA.out.below h.bel) HLK.out HLK.out
      rw [HVQ.out, decide_eq_true rfl] at this
      exact this)
    have HS2 : ∀ w', HeldR L V w' → Hid (Calls Try.prog 17 #[.agg va.toArray, .agg #[.int .i64 id, .int .i64 33152, .slice (some ⟨G5, 0, none⟩) 1 1, .slice (some ⟨g, o, none⟩) 3 cap, .slice none 0 0, .slice none 0 0]] w' fun e w2 => e = .returned (.bool true) ∧ Below w'.heap.size w' w2) := fun w' h => Lib.hid (by
      have := refSame9_any (ansM (askM id s k) E) (ansM (askM id s k) E) _ _ _ _ _ _ _ _ _ _ _ _ _ _ _ _ w' (HN6.out.below h.bel) (HNA.out.below h.bel) HLN.out HLN.out
      rw [HVA.out, decide_eq_true rfl] at this
      have e2 : msgV (ansM (askM id s k) E) (some ⟨G5, 0, none⟩) (some ⟨g, o, none⟩) none none 1 cap 0 0 = .agg #[.int .i64 id, .int .i64 33152, .slice (some ⟨G5, 0, none⟩) 1 1, .slice (some ⟨g, o, none⟩) 3 cap, .slice none 0 0, .slice none 0 0] := by
        show Value.agg #[.int .i64 id, .int .i64 33152, .slice (some ⟨G5, 0, none⟩) 1 1, .slice (some ⟨g, o, none⟩) E.length cap, .slice none 0 0, .slice none 0 0] = _
        rw [HLD.out]
      rw [e2] at this
      exact this)
    obtain ⟨bb, hbb⟩ : ∃ bb, decide (ansM (askM id s k) E = askM id s k) = bb := ⟨_, rfl⟩
    have HS3 : ∀ w', HeldR L V w' → Hid (Calls Try.prog 18 #[.agg va.toArray, .agg vq.toArray] w' fun e w2 => e = .returned (.bool bb) ∧ Below w'.heap.size w' w2) := fun w' h => Lib.hid (by
      have := wireSame_any (ansM (askM id s k) E) (askM id s k) _ _ _ _ _ _ _ _ _ _ _ _ _ _ _ _ w' (HN6.out.below h.bel) (HM6.out.below h.bel) HLN.out HLK.out
      rw [HVA.out, HVQ.out, hbb] at this
      exact this)
    have HS4 : ∀ w', HeldR L V w' → Hid (Calls Try.prog 17 #[.agg va.toArray, .agg vq.toArray] w' fun e w2 => e = .returned (.bool bb) ∧ Below w'.heap.size w' w2) := fun w' h => Lib.hid (by
      have := refSame9_any (ansM (askM id s k) E) (askM id s k) _ _ _ _ _ _ _ _ _ _ _ _ _ _ _ _ w' (HN6.out.below h.bel) (HM6.out.below h.bel) HLN.out HLK.out
      rw [HVA.out, HVQ.out, hbb] at this
      exact this)
    have HS5 : ∀ w', HeldR L V w' → Hid (Calls Try.prog 14 #[] w' fun e w2 => e = .returned (.bool true) ∧ Below w'.heap.size w' w2) := fun w' h => HLV w'
    have hbq : (bb == bb) = true := by cases bb <;> rfl
    clear hbb hL HLV HMA HNA HLK HLN HM6 HN6 HX6 HY6 HD6 HQ6 HVQ HVA HLQ HLA
    refine wp_region_noPanic ?_
    refine wp_region_held_drew (S := HeldR L V) (by kernel_rfl) (by rw [hV]; exact HK.out) (fun hHeld => ?_)
    rw [hV]
    clear hV
    refine wpAnyH_take (i := 0) rfl (by kernel_rfl) (by kernel_rfl) (by kernel_rfl) (fun _ _ _ h => h) (yields_msg HIQ (by rfl) _ rfl rfl) (by assumption) ?_
    try simp only [Act.put, List.getElem_toArray, List.getElem_cons_zero, List.setIfInBounds_toArray, List.set_cons_zero, List.set_cons_succ]
    refine wpAnyH_take (i := 1) (v := ?_) rfl (by kernel_rfl) (by kernel_rfl) (by kernel_rfl) (fun _ _ _ h => h) (Or.inl ⟨by rfl, ?_⟩) (by assumption) ?_
    rotate_left
    · (intro w hSw; go_simp; try (with_reducible rfl))
    try simp only [Act.put, List.getElem_toArray, List.getElem_cons_zero, List.getElem_cons_succ, List.setIfInBounds_toArray, List.set_cons_zero, List.set_cons_succ]
    refine wpAnyH_take (i := 2) (v := ?_) rfl (by kernel_rfl) (by kernel_rfl) (by kernel_rfl) (fun _ _ _ h => h) (Or.inl ⟨by rfl, ?_⟩) (by assumption) ?_
    rotate_left
    · (intro w hSw; go_simp; try (with_reducible rfl))
    try simp only [Act.put, List.getElem_toArray, List.getElem_cons_zero, List.getElem_cons_succ, List.setIfInBounds_toArray, List.set_cons_zero, List.set_cons_succ]
    refine wpAnyH_take (i := 3) (v := ?_) rfl (by kernel_rfl) (by kernel_rfl) (by kernel_rfl) (fun _ _ _ h => h) (Or.inl ⟨by rfl, ?_⟩) (by assumption) ?_
    rotate_left
    · (intro w hSw; go_simp; try (with_reducible rfl))
    try simp only [Act.put, List.getElem_toArray, List.getElem_cons_zero, List.getElem_cons_succ, List.setIfInBounds_toArray, List.set_cons_zero, List.set_cons_succ]
    refine wpAnyH_ready (rs := [4]) (by kernel_rfl) (by simp) ?_
    refine AllReadyH.cons rfl (fun K hK => ?_) AllReadyH.nil
    go_simp
    refine (Calls.heldR (HS1 _ (by assumption)).out (by assumption)).mono ?_
    rintro e wr4 ⟨rfl, hS4⟩
    go_wp2_with fail
    refine hK.out _ _ hS4 (fun hHeld => ?_)
    clear hK K
    try simp only [Act.put, List.getElem_toArray, List.getElem_cons_zero, List.getElem_cons_succ, List.setIfInBounds_toArray, List.set_cons_zero, List.set_cons_succ]
    refine wpAnyH_take (i := 5) (v := ?_) rfl (by kernel_rfl) (by kernel_rfl) (by kernel_rfl) (fun _ _ _ h => h) (Or.inl ⟨by rfl, ?_⟩) (by assumption) ?_
    rotate_left
    · (intro w hSw; go_simp; try (with_reducible rfl))
    try simp only [Act.put, List.getElem_toArray, List.getElem_cons_zero, List.getElem_cons_succ, List.setIfInBounds_toArray, List.set_cons_zero, List.set_cons_succ]
    refine wpAnyH_take (i := 6) rfl (by kernel_rfl) (by kernel_rfl) (by kernel_rfl) (fun _ _ _ h => h) (yields_msg HIA (by rfl) _ rfl rfl) (by assumption) ?_
    try simp only [Act.put, List.getElem_toArray, List.getElem_cons_zero, List.getElem_cons_succ, List.setIfInBounds_toArray, List.set_cons_zero, List.set_cons_succ]
    refine wpAnyH_take (i := 7) (v := ?_) rfl (by kernel_rfl) (by kernel_rfl) (by kernel_rfl) (fun _ _ _ h => h) (Or.inl ⟨by rfl, ?_⟩) (by assumption) ?_
    rotate_left
    · (intro w hSw; go_simp; try (with_reducible rfl))
    try simp only [Act.put, List.getElem_toArray, List.getElem_cons_zero, List.getElem_cons_succ, List.setIfInBounds_toArray, List.set_cons_zero, List.set_cons_succ]
    refine wpAnyH_take (i := 8) (v := ?_) rfl (by kernel_rfl) (by kernel_rfl) (by kernel_rfl) (fun _ _ _ h => h) (Or.inl ⟨by rfl, ?_⟩) (by assumption) ?_
    rotate_left
    · (intro w hSw; go_simp; try (with_reducible rfl))
    try simp only [Act.put, List.getElem_toArray, List.getElem_cons_zero, List.getElem_cons_succ, List.setIfInBounds_toArray, List.set_cons_zero, List.set_cons_succ]
    refine wpAnyH_take (i := 9) (v := ?_) rfl (by kernel_rfl) (by kernel_rfl) (by kernel_rfl) (fun _ _ _ h => h) (Or.inl ⟨by rfl, ?_⟩) (by assumption) ?_
    rotate_left
    · (intro w hSw; go_simp; try (with_reducible rfl))
    try simp only [Act.put, List.getElem_toArray, List.getElem_cons_zero, List.getElem_cons_succ, List.setIfInBounds_toArray, List.set_cons_zero, List.set_cons_succ]
    refine wpAnyH_take (i := 10) (v := ?_) rfl (by kernel_rfl) (by kernel_rfl) (by kernel_rfl) (fun _ _ _ h => h) (Or.inl ⟨by rfl, ?_⟩) (by assumption) ?_
    rotate_left
    · (intro w hSw; go_simp; try (with_reducible rfl))
    try simp only [Act.put, List.getElem_toArray, List.getElem_cons_zero, List.getElem_cons_succ, List.setIfInBounds_toArray, List.set_cons_zero, List.set_cons_succ]
    refine wpAnyH_ready (rs := [11]) (by kernel_rfl) (by simp) ?_
    refine AllReadyH.cons rfl (fun K hK => ?_) AllReadyH.nil
    go_simp
    refine (Calls.heldR (HS2 _ (by assumption)).out (by assumption)).mono ?_
    rintro e wr11 ⟨rfl, hS11⟩
    go_wp2_with fail
    refine hK.out _ _ hS11 (fun hHeld => ?_)
    clear hK K
    try simp only [Act.put, List.getElem_toArray, List.getElem_cons_zero, List.getElem_cons_succ, List.setIfInBounds_toArray, List.set_cons_zero, List.set_cons_succ]
    refine wpAnyH_take (i := 12) (v := ?_) rfl (by kernel_rfl) (by kernel_rfl) (by kernel_rfl) (fun _ _ _ h => h) (Or.inl ⟨by rfl, ?_⟩) (by assumption) ?_
    rotate_left
    · (intro w hSw; go_simp; try (with_reducible rfl))
    try simp only [Act.put, List.getElem_toArray, List.getElem_cons_zero, List.getElem_cons_succ, List.setIfInBounds_toArray, List.set_cons_zero, List.set_cons_succ]
    refine wpAnyH_take (i := 13) (v := ?_) rfl (by kernel_rfl) (by kernel_rfl) (by kernel_rfl) (fun _ _ _ h => h) (Or.inl ⟨by rfl, ?_⟩) (by assumption) ?_
    rotate_left
    · (intro w hSw; go_simp; try (with_reducible rfl))
    try simp only [Act.put, List.getElem_toArray, List.getElem_cons_zero, List.getElem_cons_succ, List.setIfInBounds_toArray, List.set_cons_zero, List.set_cons_succ]
    refine wpAnyH_take (i := 14) rfl (by kernel_rfl) (by kernel_rfl) (by kernel_rfl) (fun _ _ _ h => h) (yields_msg HIA (by rfl) _ rfl rfl) (by assumption) ?_
    try simp only [Act.put, List.getElem_toArray, List.getElem_cons_zero, List.getElem_cons_succ, List.setIfInBounds_toArray, List.set_cons_zero, List.set_cons_succ]
    refine wpAnyH_take (i := 15) rfl (by kernel_rfl) (by kernel_rfl) (by kernel_rfl) (fun _ _ _ h => h) (yields_msg HIQ (by rfl) _ rfl rfl) (by assumption) ?_
    try simp only [Act.put, List.getElem_toArray, List.getElem_cons_zero, List.getElem_cons_succ, List.setIfInBounds_toArray, List.set_cons_zero, List.set_cons_succ]
    refine wpAnyH_take (i := 17) rfl (by kernel_rfl) (by kernel_rfl) (by kernel_rfl) (fun _ _ _ h => h) (yields_msg HIA (by rfl) _ rfl rfl) (by assumption) ?_
    try simp only [Act.put, List.getElem_toArray, List.getElem_cons_zero, List.getElem_cons_succ, List.setIfInBounds_toArray, List.set_cons_zero, List.set_cons_succ]
    refine wpAnyH_take (i := 18) rfl (by kernel_rfl) (by kernel_rfl) (by kernel_rfl) (fun _ _ _ h => h) (yields_msg HIQ (by rfl) _ rfl rfl) (by assumption) ?_
    try simp only [Act.put, List.getElem_toArray, List.getElem_cons_zero, List.getElem_cons_succ, List.setIfInBounds_toArray, List.set_cons_zero, List.set_cons_succ]
    refine wpAnyH_ready (rs := [16]) (by kernel_rfl) (by simp) ?_
    refine AllReadyH.cons rfl (fun K hK => ?_) AllReadyH.nil
    go_simp
    refine (Calls.heldR (HS3 _ (by assumption)).out (by assumption)).mono ?_
    rintro e wr16 ⟨rfl, hS16⟩
    go_wp2_with fail
    refine hK.out _ _ hS16 (fun hHeld => ?_)
    clear hK K
    try simp only [Act.put, List.getElem_toArray, List.getElem_cons_zero, List.getElem_cons_succ, List.setIfInBounds_toArray, List.set_cons_zero, List.set_cons_succ]
    refine wpAnyH_ready (rs := [19]) (by kernel_rfl) (by simp) ?_
    refine AllReadyH.cons rfl (fun K hK => ?_) AllReadyH.nil
    go_simp
    refine (Calls.heldR (HS4 _ (by assumption)).out (by assumption)).mono ?_
    rintro e wr19 ⟨rfl, hS19⟩
    go_wp2_with fail
    refine hK.out _ _ hS19 (fun hHeld => ?_)
    clear hK K
    try simp only [Act.put, List.getElem_toArray, List.getElem_cons_zero, List.getElem_cons_succ, List.setIfInBounds_toArray, List.set_cons_zero, List.set_cons_succ]
    refine wpAnyH_take (i := 20) (v := ?_) rfl (by kernel_rfl) (by kernel_rfl) (by kernel_rfl) (fun _ _ _ h => h) (Or.inl ⟨by rfl, ?_⟩) (by assumption) ?_
    rotate_left
    · (intro w hSw; go_simp; try (with_reducible rfl))
    try simp only [Act.put, List.getElem_toArray, List.getElem_cons_zero, List.getElem_cons_succ, List.setIfInBounds_toArray, List.set_cons_zero, List.set_cons_succ]
    refine wpAnyH_take (i := 21) (v := ?_) rfl (by kernel_rfl) (by kernel_rfl) (by kernel_rfl) (fun _ _ _ h => h) (Or.inl ⟨by rfl, ?_⟩) (by assumption) ?_
    rotate_left
    · (intro w hSw; go_simp; try (with_reducible rfl))
    try simp only [Act.put, List.getElem_toArray, List.getElem_cons_zero, List.getElem_cons_succ, List.setIfInBounds_toArray, List.set_cons_zero, List.set_cons_succ]
    refine wpAnyH_take (i := 22) (v := ?_) rfl (by kernel_rfl) (by kernel_rfl) (by kernel_rfl) (fun _ _ _ h => h) (Or.inl ⟨by rfl, ?_⟩) (by assumption) ?_
    rotate_left
    · (intro w hSw; go_simp; try (with_reducible rfl))
    try simp only [Act.put, List.getElem_toArray, List.getElem_cons_zero, List.getElem_cons_succ, List.setIfInBounds_toArray, List.set_cons_zero, List.set_cons_succ]
    refine wpAnyH_ready (rs := [23]) (by kernel_rfl) (by simp) ?_
    refine AllReadyH.cons rfl (fun K hK => ?_) AllReadyH.nil
    go_simp
    refine (Calls.heldR (HS5 _ (by assumption)).out (by assumption)).mono ?_
    rintro e wr23 ⟨rfl, hS23⟩
    go_wp2_with fail
    refine hK.out _ _ hS23 (fun hHeld => ?_)
    clear hK K
    try simp only [Act.put, List.getElem_toArray, List.getElem_cons_zero, List.getElem_cons_succ, List.setIfInBounds_toArray, List.set_cons_zero, List.set_cons_succ]
    refine wpAnyH_take (i := 24) (v := ?_) rfl (by kernel_rfl) (by kernel_rfl) (by kernel_rfl) (fun _ _ _ h => h) (Or.inl ⟨by rfl, ?_⟩) (by assumption) ?_
    rotate_left
    · (intro w hSw; go_simp; try (with_reducible rfl))
    try simp only [Act.put, List.getElem_toArray, List.getElem_cons_zero, List.getElem_cons_succ, List.setIfInBounds_toArray, List.set_cons_zero, List.set_cons_succ]
    refine wpAnyH_take (i := 25) (v := ?_) rfl (by kernel_rfl) (by kernel_rfl) (by kernel_rfl) (fun _ _ _ h => h) (Or.inl ⟨by rfl, ?_⟩) (by assumption) ?_
    rotate_left
    · (intro w hSw; go_simp; try (with_reducible rfl))
    try simp only [Act.put, List.getElem_toArray, List.getElem_cons_zero, List.getElem_cons_succ, List.setIfInBounds_toArray, List.set_cons_zero, List.set_cons_succ]
    refine wpAnyH_done (by kernel_rfl) ?_ _
    refine NoPanic.normal ?_
    clear HS1 HS2 HS3 HS4 HS5 HIQ HIA
    go_wp2_with fail
    go_ret
    exact ⟨rfl, chain HB6.out hHeld.bel⟩
  · have HD := HD0
    obtain ⟨n, hn⟩ : ∃ n, D.length = n := ⟨_, rfl⟩
    have HLD := Lib.hid hn
    have HN3 : Hid (n ≤ 3) := Lib.hid (by omega)
    have hd : decide ((3 : Int) < (D.length : Int)) = false := decide_eq_false (by omega)
    have hdn : decide (3 < D.length) = false := decide_eq_false hl3
    rw [hn] at hd hdn ⊢
    clear w0 w1 w2 hD hn HD0
    go_enter Try.func7, Try.ntmps7
    clear hl3
    go_upto_region 3 with fail
    go_wp2_with fail
    refine HAS.out.mono ?_
    rintro e w1 ⟨g1, rfl, hm1, hb1⟩
    obtain ⟨vq, hvq, lvq, ovq⟩ := msg_row (askM id s k) (some ⟨g1, 0, none⟩) none none none 1 0 0 0
    have HVQ := Lib.hid hvq
    have HLQ := Lib.hid lvq
    have HM1 := Lib.hid hm1
    have HB1 := Lib.hid hb1
    have HZ1 : Hid (CellsAt (w1.alloc (.cells zM.toArray 25)) w1.heap.size zM) := Lib.hid (CellsAt.new w1 _ zM)
    rw [hvq]
    clear hm1 hb1 HAS hvq
    go_upto_region 4 with (have HZ := HZ1; refine store_msg HZ rfl _ _ rfl rfl rfl rfl lvq ovq (fun W2 HW2 HX2 => ?_); clear HZ1)
    have HB2 : Hid (Below w1.heap.size w1 W2) := Lib.hid (by rw [HW2.out]; exact below_cells (Nat.le_refl _) _ _ _ ((Below.refl _ _).alloc (Nat.le_refl _) _))
    replace HM1 := Lib.hid (HM1.out.below HB2.out)
    replace HB1 := Lib.hid (chain HB1.out HB2.out)
    clear HB2
    generalize w1.heap.size = G1 at *
    have HAN := Lib.hid (answer_any (askM id s k) (some ⟨g1, 0, none⟩) none none none 1 0 0 0 a cap D W2 HM1.out.qs (HD.out.below HB1.out) (by show 1 ≤ 100000; decide) (by rw [HLD.out]; have := HN3.out; omega))
    rw [HVQ.out, HLD.out] at HAN
    clear HZ HW2 lvq ovq
    go_wp2_with (refine load_msg HX2 HLQ.out _ rfl rfl rfl ?_)
    refine HAN.out.mono ?_
    rintro e w3 ⟨hb3, aq2, a2, cq2, c2, rfl, hm3⟩
    obtain ⟨va, hva, lva, ova⟩ := msg_row (ansM (askM id s k) D) aq2 a2 none none cq2 c2 0 0
    have HVA := Lib.hid hva
    have HLA := Lib.hid lva
    have HM3 := Lib.hid hm3
    have HB3 := Lib.hid (chain HB1.out hb3)
    have HX3 := Lib.hid (HX2.out.below hb3)
    replace HM1 := Lib.hid (HM1.out.below hb3)
    have HZ3 : Hid (CellsAt (w3.alloc (.cells zM.toArray 25)) w3.heap.size zM) := Lib.hid (CellsAt.new w3 _ zM)
    rw [hva]
    clear hm3 hb3 HAN hva HB1 HX2
    go_upto_region 5 with (have HZ := HZ3; refine store_msg HZ rfl _ _ rfl rfl rfl rfl lva ova (fun W4 HW4 HX4 => ?_); clear HZ3)
    have HB4 : Hid (Below w3.heap.size w3 W4) := Lib.hid (by rw [HW4.out]; exact below_cells (Nat.le_refl _) _ _ _ ((Below.refl _ _).alloc (Nat.le_refl _) _))
    replace HM1 := Lib.hid (HM1.out.below HB4.out)
    replace HM3 := Lib.hid (HM3.out.below HB4.out)
    replace HX3 := Lib.hid (HX3.out.below HB4.out)
    replace HB3 := Lib.hid (chain HB3.out HB4.out)
    clear HB4 HZ HW4 lva ova
    generalize w3.heap.size = G3 at *
    go_upto_region 6 with (first | refine build_qu3 rfl _ _ _ rfl rfl rfl rfl ?_ | refine build_quS rfl _ rfl rfl (fun W5 HW5 => ?_))
    have HB5 : Hid (Below W4.heap.size W4 W5) := Lib.hid (by rw [HW5.out]; exact (Below.refl _ _).alloc (Nat.le_refl _) _)
    have HQ5 : Hid (QusAt W5 (some ⟨W4.heap.size, 0, none⟩) 1 [⟨s, k, 1⟩]) := Lib.hid (by rw [HW5.out]; exact QusAt.new1 HFQ.out _)
    have HB6 := Lib.hid (chain HB3.out HB5.out).drew
    have HD6 := Lib.hid (HD.out.below HB6.out)
    have hdr := (Below.refl W5.heap.size W5).drew
    have HQ6 := Lib.hid (HQ5.out.below hdr)
    have HM6 := Lib.hid ((HM1.out.below HB5.out).below hdr)
    have HN6 := Lib.hid ((HM3.out.below HB5.out).below hdr)
    have HX6 := Lib.hid ((HX3.out.below HB5.out).below hdr)
    have HY6 := Lib.hid ((HX4.out.below HB5.out).below hdr)
    clear hdr HB3 HB5 HD HQ5 HM1 HM3 HX3 HX4 HW5
    generalize W4.heap.size = G5 at *
    obtain ⟨V, hV⟩ : ∃ V, W5.drew = V := ⟨_, rfl⟩
    rw [hV] at HB6 HD6 HQ6 HM6 HN6 HX6 HY6
    obtain ⟨L, hL⟩ : ∃ L : List (Nat × Nat × List Value), [(G1, 0, vq), (G3, 0, va)] = L := ⟨_, rfl⟩
    have HK : Hid (HeldR L V V) := Lib.hid (by rw [← hL]; exact HX6.out.held (HY6.out.held (HeldR.nil (Below.refl _ _))))
    have HIQ : Hid ((G1, 0, vq) ∈ L ∧ vq.length = 6) := Lib.hid ⟨by rw [← hL]; simp, HLQ.out⟩
    have HIA : Hid ((G3, 0, va) ∈ L ∧ va.length = 6) := Lib.hid ⟨by rw [← hL]; simp, HLA.out⟩
    have HMA : Hid (MsgIn V (askM id s k) (some ⟨G5, 0, none⟩) none none none 1 0 0 0) := Lib.hid ⟨HQ6.out, RecsAt.none0 _, RecsAt.none0 _, RecsAt.none0 _⟩
    have HNA : Hid (MsgIn V (ansM (askM id s k) D) (some ⟨G5, 0, none⟩) a none none 1 cap 0 0) := Lib.hid ⟨HQ6.out, HD6.out, RecsAt.none0 _, RecsAt.none0 _⟩
    have HLK : Hid (Lens (askM id s k)) := Lib.hid ⟨by show 1 ≤ 1000000; decide, Nat.zero_le _, Nat.zero_le _, Nat.zero_le _⟩
    have HLN : Hid (Lens (ansM (askM id s k) D)) := Lib.hid ⟨by show 1 ≤ 1000000; decide, by show D.length ≤ 1000000; rw [HLD.out]; have := HN3.out; omega, Nat.zero_le _, Nat.zero_le _⟩
    have HS1 : ∀ w', HeldR L V w' → Hid (Calls Try.prog 17 #[.agg vq.toArray, .agg #[.int .i64 id, .int .i64 256, .slice (some ⟨G5, 0, none⟩) 1 1, .slice none 0 0, .slice none 0 0, .slice none 0 0]] w' fun e w2 => e = .returned (.bool true) ∧ Below w'.heap.size w' w2) := fun w' h => Lib.hid (by
      have := refSame9_any (askM id s k) (askM id s k) _ _ _ _ _ _ _ _ _ _ _ _ _ _ _ _ w' (HM6.out.below h.bel) (HMA.out.below h.bel) HLK.out HLK.out
      rw [HVQ.out, decide_eq_true rfl] at this
      exact this)
    have HS2 : ∀ w', HeldR L V w' → Hid (Calls Try.prog 17 #[.agg va.toArray, .agg #[.int .i64 id, .int .i64 33152, .slice (some ⟨G5, 0, none⟩) 1 1, .slice a n cap, .slice none 0 0, .slice none 0 0]] w' fun e w2 => e = .returned (.bool true) ∧ Below w'.heap.size w' w2) := fun w' h => Lib.hid (by
      have := refSame9_any (ansM (askM id s k) D) (ansM (askM id s k) D) _ _ _ _ _ _ _ _ _ _ _ _ _ _ _ _ w' (HN6.out.below h.bel) (HNA.out.below h.bel) HLN.out HLN.out
      rw [HVA.out, decide_eq_true rfl] at this
      have e2 : msgV (ansM (askM id s k) D) (some ⟨G5, 0, none⟩) a none none 1 cap 0 0 = .agg #[.int .i64 id, .int .i64 33152, .slice (some ⟨G5, 0, none⟩) 1 1, .slice a n cap, .slice none 0 0, .slice none 0 0] := by
        show Value.agg #[.int .i64 id, .int .i64 33152, .slice (some ⟨G5, 0, none⟩) 1 1, .slice a D.length cap, .slice none 0 0, .slice none 0 0] = _
        rw [HLD.out]
      rw [e2] at this
      exact this)
    obtain ⟨bb, hbb⟩ : ∃ bb, decide (ansM (askM id s k) D = askM id s k) = bb := ⟨_, rfl⟩
    have HS3 : ∀ w', HeldR L V w' → Hid (Calls Try.prog 18 #[.agg va.toArray, .agg vq.toArray] w' fun e w2 => e = .returned (.bool bb) ∧ Below w'.heap.size w' w2) := fun w' h => Lib.hid (by
      have := wireSame_any (ansM (askM id s k) D) (askM id s k) _ _ _ _ _ _ _ _ _ _ _ _ _ _ _ _ w' (HN6.out.below h.bel) (HM6.out.below h.bel) HLN.out HLK.out
      rw [HVA.out, HVQ.out, hbb] at this
      exact this)
    have HS4 : ∀ w', HeldR L V w' → Hid (Calls Try.prog 17 #[.agg va.toArray, .agg vq.toArray] w' fun e w2 => e = .returned (.bool bb) ∧ Below w'.heap.size w' w2) := fun w' h => Lib.hid (by
      have := refSame9_any (ansM (askM id s k) D) (askM id s k) _ _ _ _ _ _ _ _ _ _ _ _ _ _ _ _ w' (HN6.out.below h.bel) (HM6.out.below h.bel) HLN.out HLK.out
      rw [HVA.out, HVQ.out, hbb] at this
      exact this)
    have HS5 : ∀ w', HeldR L V w' → Hid (Calls Try.prog 14 #[] w' fun e w2 => e = .returned (.bool true) ∧ Below w'.heap.size w' w2) := fun w' h => HLV w'
    have hbq : (bb == bb) = true := by cases bb <;> rfl
    clear hbb hL HLV HMA HNA HLK HLN HM6 HN6 HX6 HY6 HD6 HQ6 HVQ HVA HLQ HLA
    refine wp_region_noPanic ?_
    refine wp_region_held_drew (S := HeldR L V) (by kernel_rfl) (by rw [hV]; exact HK.out) (fun hHeld => ?_)
    rw [hV]
    clear hV
    refine wpAnyH_take (i := 0) rfl (by kernel_rfl) (by kernel_rfl) (by kernel_rfl) (fun _ _ _ h => h) (yields_msg HIQ (by rfl) _ rfl rfl) (by assumption) ?_
    try simp only [Act.put, List.getElem_toArray, List.getElem_cons_zero, List.setIfInBounds_toArray, List.set_cons_zero, List.set_cons_succ]
    refine wpAnyH_take (i := 1) (v := ?_) rfl (by kernel_rfl) (by kernel_rfl) (by kernel_rfl) (fun _ _ _ h => h) (Or.inl ⟨by rfl, ?_⟩) (by assumption) ?_
    rotate_left
    · (intro w hSw; go_simp; try (with_reducible rfl))
    try simp only [Act.put, List.getElem_toArray, List.getElem_cons_zero, List.getElem_cons_succ, List.setIfInBounds_toArray, List.set_cons_zero, List.set_cons_succ]
    refine wpAnyH_take (i := 2) (v := ?_) rfl (by kernel_rfl) (by kernel_rfl) (by kernel_rfl) (fun _ _ _ h => h) (Or.inl ⟨by rfl, ?_⟩) (by assumption) ?_
    rotate_left
    · (intro w hSw; go_simp; try (with_reducible rfl))
    try simp only [Act.put, List.getElem_toArray, List.getElem_cons_zero, List.getElem_cons_succ, List.setIfInBounds_toArray, List.set_cons_zero, List.set_cons_succ]
    refine wpAnyH_take (i := 3) (v := ?_) rfl (by kernel_rfl) (by kernel_rfl) (by kernel_rfl) (fun _ _ _ h => h) (Or.inl ⟨by rfl, ?_⟩) (by assumption) ?_
    rotate_left
    · (intro w hSw; go_simp; try (with_reducible rfl))
    try simp only [Act.put, List.getElem_toArray, List.getElem_cons_zero, List.getElem_cons_succ, List.setIfInBounds_toArray, List.set_cons_zero, List.set_cons_succ]
    refine wpAnyH_ready (rs := [4]) (by kernel_rfl) (by simp) ?_
    refine AllReadyH.cons rfl (fun K hK => ?_) AllReadyH.nil
    go_simp
    refine (Calls.heldR (HS1 _ (by assumption)).out (by assumption)).mono ?_
    rintro e wr4 ⟨rfl, hS4⟩
    go_wp2_with fail
    refine hK.out _ _ hS4 (fun hHeld => ?_)
    clear hK K
    try simp only [Act.put, List.getElem_toArray, List.getElem_cons_zero, List.getElem_cons_succ, List.setIfInBounds_toArray, List.set_cons_zero, List.set_cons_succ]
    refine wpAnyH_take (i := 5) (v := ?_) rfl (by kernel_rfl) (by kernel_rfl) (by kernel_rfl) (fun _ _ _ h => h) (Or.inl ⟨by rfl, ?_⟩) (by assumption) ?_
    rotate_left
    · (intro w hSw; go_simp; try (with_reducible rfl))
    try simp only [Act.put, List.getElem_toArray, List.getElem_cons_zero, List.getElem_cons_succ, List.setIfInBounds_toArray, List.set_cons_zero, List.set_cons_succ]
    refine wpAnyH_take (i := 6) rfl (by kernel_rfl) (by kernel_rfl) (by kernel_rfl) (fun _ _ _ h => h) (yields_msg HIA (by rfl) _ rfl rfl) (by assumption) ?_
    try simp only [Act.put, List.getElem_toArray, List.getElem_cons_zero, List.getElem_cons_succ, List.setIfInBounds_toArray, List.set_cons_zero, List.set_cons_succ]
    refine wpAnyH_take (i := 7) (v := ?_) rfl (by kernel_rfl) (by kernel_rfl) (by kernel_rfl) (fun _ _ _ h => h) (Or.inl ⟨by rfl, ?_⟩) (by assumption) ?_
    rotate_left
    · (intro w hSw; go_simp; try (with_reducible rfl))
    try simp only [Act.put, List.getElem_toArray, List.getElem_cons_zero, List.getElem_cons_succ, List.setIfInBounds_toArray, List.set_cons_zero, List.set_cons_succ]
    refine wpAnyH_take (i := 8) (v := ?_) rfl (by kernel_rfl) (by kernel_rfl) (by kernel_rfl) (fun _ _ _ h => h) (Or.inl ⟨by rfl, ?_⟩) (by assumption) ?_
    rotate_left
    · (intro w hSw; go_simp; try (with_reducible rfl))
    try simp only [Act.put, List.getElem_toArray, List.getElem_cons_zero, List.getElem_cons_succ, List.setIfInBounds_toArray, List.set_cons_zero, List.set_cons_succ]
    refine wpAnyH_take (i := 9) (v := ?_) rfl (by kernel_rfl) (by kernel_rfl) (by kernel_rfl) (fun _ _ _ h => h) (Or.inl ⟨by rfl, ?_⟩) (by assumption) ?_
    rotate_left
    · (intro w hSw; go_simp; try (with_reducible rfl))
    try simp only [Act.put, List.getElem_toArray, List.getElem_cons_zero, List.getElem_cons_succ, List.setIfInBounds_toArray, List.set_cons_zero, List.set_cons_succ]
    refine wpAnyH_take (i := 10) (v := ?_) rfl (by kernel_rfl) (by kernel_rfl) (by kernel_rfl) (fun _ _ _ h => h) (Or.inl ⟨by rfl, ?_⟩) (by assumption) ?_
    rotate_left
    · (intro w hSw; go_simp; try (with_reducible rfl))
    try simp only [Act.put, List.getElem_toArray, List.getElem_cons_zero, List.getElem_cons_succ, List.setIfInBounds_toArray, List.set_cons_zero, List.set_cons_succ]
    refine wpAnyH_ready (rs := [11]) (by kernel_rfl) (by simp) ?_
    refine AllReadyH.cons rfl (fun K hK => ?_) AllReadyH.nil
    go_simp
    refine (Calls.heldR (HS2 _ (by assumption)).out (by assumption)).mono ?_
    rintro e wr11 ⟨rfl, hS11⟩
    go_wp2_with fail
    refine hK.out _ _ hS11 (fun hHeld => ?_)
    clear hK K
    try simp only [Act.put, List.getElem_toArray, List.getElem_cons_zero, List.getElem_cons_succ, List.setIfInBounds_toArray, List.set_cons_zero, List.set_cons_succ]
    refine wpAnyH_take (i := 12) (v := ?_) rfl (by kernel_rfl) (by kernel_rfl) (by kernel_rfl) (fun _ _ _ h => h) (Or.inl ⟨by rfl, ?_⟩) (by assumption) ?_
    rotate_left
    · (intro w hSw; go_simp; try (with_reducible rfl))
    try simp only [Act.put, List.getElem_toArray, List.getElem_cons_zero, List.getElem_cons_succ, List.setIfInBounds_toArray, List.set_cons_zero, List.set_cons_succ]
    refine wpAnyH_take (i := 13) (v := ?_) rfl (by kernel_rfl) (by kernel_rfl) (by kernel_rfl) (fun _ _ _ h => h) (Or.inl ⟨by rfl, ?_⟩) (by assumption) ?_
    rotate_left
    · (intro w hSw; go_simp; try (with_reducible rfl))
    try simp only [Act.put, List.getElem_toArray, List.getElem_cons_zero, List.getElem_cons_succ, List.setIfInBounds_toArray, List.set_cons_zero, List.set_cons_succ]
    refine wpAnyH_take (i := 14) rfl (by kernel_rfl) (by kernel_rfl) (by kernel_rfl) (fun _ _ _ h => h) (yields_msg HIA (by rfl) _ rfl rfl) (by assumption) ?_
    try simp only [Act.put, List.getElem_toArray, List.getElem_cons_zero, List.getElem_cons_succ, List.setIfInBounds_toArray, List.set_cons_zero, List.set_cons_succ]
    refine wpAnyH_take (i := 15) rfl (by kernel_rfl) (by kernel_rfl) (by kernel_rfl) (fun _ _ _ h => h) (yields_msg HIQ (by rfl) _ rfl rfl) (by assumption) ?_
    try simp only [Act.put, List.getElem_toArray, List.getElem_cons_zero, List.getElem_cons_succ, List.setIfInBounds_toArray, List.set_cons_zero, List.set_cons_succ]
    refine wpAnyH_take (i := 17) rfl (by kernel_rfl) (by kernel_rfl) (by kernel_rfl) (fun _ _ _ h => h) (yields_msg HIA (by rfl) _ rfl rfl) (by assumption) ?_
    try simp only [Act.put, List.getElem_toArray, List.getElem_cons_zero, List.getElem_cons_succ, List.setIfInBounds_toArray, List.set_cons_zero, List.set_cons_succ]
    refine wpAnyH_take (i := 18) rfl (by kernel_rfl) (by kernel_rfl) (by kernel_rfl) (fun _ _ _ h => h) (yields_msg HIQ (by rfl) _ rfl rfl) (by assumption) ?_
    try simp only [Act.put, List.getElem_toArray, List.getElem_cons_zero, List.getElem_cons_succ, List.setIfInBounds_toArray, List.set_cons_zero, List.set_cons_succ]
    refine wpAnyH_ready (rs := [16]) (by kernel_rfl) (by simp) ?_
    refine AllReadyH.cons rfl (fun K hK => ?_) AllReadyH.nil
    go_simp
    refine (Calls.heldR (HS3 _ (by assumption)).out (by assumption)).mono ?_
    rintro e wr16 ⟨rfl, hS16⟩
    go_wp2_with fail
    refine hK.out _ _ hS16 (fun hHeld => ?_)
    clear hK K
    try simp only [Act.put, List.getElem_toArray, List.getElem_cons_zero, List.getElem_cons_succ, List.setIfInBounds_toArray, List.set_cons_zero, List.set_cons_succ]
    refine wpAnyH_ready (rs := [19]) (by kernel_rfl) (by simp) ?_
    refine AllReadyH.cons rfl (fun K hK => ?_) AllReadyH.nil
    go_simp
    refine (Calls.heldR (HS4 _ (by assumption)).out (by assumption)).mono ?_
    rintro e wr19 ⟨rfl, hS19⟩
    go_wp2_with fail
    refine hK.out _ _ hS19 (fun hHeld => ?_)
    clear hK K
    try simp only [Act.put, List.getElem_toArray, List.getElem_cons_zero, List.getElem_cons_succ, List.setIfInBounds_toArray, List.set_cons_zero, List.set_cons_succ]
    refine wpAnyH_take (i := 20) (v := ?_) rfl (by kernel_rfl) (by kernel_rfl) (by kernel_rfl) (fun _ _ _ h => h) (Or.inl ⟨by rfl, ?_⟩) (by assumption) ?_
    rotate_left
    · (intro w hSw; go_simp; try (with_reducible rfl))
    try simp only [Act.put, List.getElem_toArray, List.getElem_cons_zero, List.getElem_cons_succ, List.setIfInBounds_toArray, List.set_cons_zero, List.set_cons_succ]
    refine wpAnyH_take (i := 21) (v := ?_) rfl (by kernel_rfl) (by kernel_rfl) (by kernel_rfl) (fun _ _ _ h => h) (Or.inl ⟨by rfl, ?_⟩) (by assumption) ?_
    rotate_left
    · (intro w hSw; go_simp; try (with_reducible rfl))
    try simp only [Act.put, List.getElem_toArray, List.getElem_cons_zero, List.getElem_cons_succ, List.setIfInBounds_toArray, List.set_cons_zero, List.set_cons_succ]
    refine wpAnyH_take (i := 22) (v := ?_) rfl (by kernel_rfl) (by kernel_rfl) (by kernel_rfl) (fun _ _ _ h => h) (Or.inl ⟨by rfl, ?_⟩) (by assumption) ?_
    rotate_left
    · (intro w hSw; go_simp; try (with_reducible rfl))
    try simp only [Act.put, List.getElem_toArray, List.getElem_cons_zero, List.getElem_cons_succ, List.setIfInBounds_toArray, List.set_cons_zero, List.set_cons_succ]
    refine wpAnyH_ready (rs := [23]) (by kernel_rfl) (by simp) ?_
    refine AllReadyH.cons rfl (fun K hK => ?_) AllReadyH.nil
    go_simp
    refine (Calls.heldR (HS5 _ (by assumption)).out (by assumption)).mono ?_
    rintro e wr23 ⟨rfl, hS23⟩
    go_wp2_with fail
    refine hK.out _ _ hS23 (fun hHeld => ?_)
    clear hK K
    try simp only [Act.put, List.getElem_toArray, List.getElem_cons_zero, List.getElem_cons_succ, List.setIfInBounds_toArray, List.set_cons_zero, List.set_cons_succ]
    refine wpAnyH_take (i := 24) (v := ?_) rfl (by kernel_rfl) (by kernel_rfl) (by kernel_rfl) (fun _ _ _ h => h) (Or.inl ⟨by rfl, ?_⟩) (by assumption) ?_
    rotate_left
    · (intro w hSw; go_simp; try (with_reducible rfl))
    try simp only [Act.put, List.getElem_toArray, List.getElem_cons_zero, List.getElem_cons_succ, List.setIfInBounds_toArray, List.set_cons_zero, List.set_cons_succ]
    refine wpAnyH_take (i := 25) (v := ?_) rfl (by kernel_rfl) (by kernel_rfl) (by kernel_rfl) (fun _ _ _ h => h) (Or.inl ⟨by rfl, ?_⟩) (by assumption) ?_
    rotate_left
    · (intro w hSw; go_simp; try (with_reducible rfl))
    try simp only [Act.put, List.getElem_toArray, List.getElem_cons_zero, List.getElem_cons_succ, List.setIfInBounds_toArray, List.set_cons_zero, List.set_cons_succ]
    refine wpAnyH_done (by kernel_rfl) ?_ _
    refine NoPanic.normal ?_
    clear HS1 HS2 HS3 HS4 HS5 HIQ HIA
    go_wp2_with fail
    go_ret
    exact ⟨rfl, chain HB6.out hHeld.bel⟩

set_option maxRecDepth 100000 in
theorem lifted (os : Os) (started : os.Started) (H : Type) (enc : TypeId × Value → H) :
    ReturnsInHanded {} Try.checked os 7 .any (Rows.wireAsksSpec.pre6 enc Try.prog Try.f7 Rows.wireAsksRow.domain false) (Rows.wireAsksSpec.post enc Try.prog Try.f7 false true false false) := by
  refine returnsInHanded_of_change (C := Try.checked) own started (by kernel_rfl) Try.func7
    (ChangeSpec.witness6 (enc := enc) (C := Try.checked) false ⟨#[], #[.int .i64 0, .string ByteArray.empty, .int .i64 0, .slice none 0 0], []⟩ 8 (by kernel_rfl) (by kernel_rfl) (by kernel_rfl) (by kernel_rfl)) ?_
  intro W base args ds gs before hval0 hW hcnd _
  have hval : ∀ (j : Nat) t v, Try.f7.params[j]? = some t → args[j]? = some v → Value.okWide Try.prog W .any base t v := hval0
  have hW' := hW
  obtain ⟨p, q, hA0, hV, rfl, hfz, hnd⟩ := hW
  have hA : DataW.TrodAll enc Try.prog W 0 (fun _ => true) true Try.f7.params.toList args.toList ds p := hA0
  rw [Try.params7] at hA hval
  obtain ⟨v0, vs0, d0, ds0, p0, q0, hargs, rfl, rfl, h0, r0⟩ := trodAll_cons hA
  obtain ⟨v1, vs1, d1, ds1, p1, q1, rfl, rfl, rfl, h1, r1⟩ := trodAll_cons r0
  obtain ⟨v2, vs2, d2, ds2, p2, q2, rfl, rfl, rfl, h2, r2⟩ := trodAll_cons r1
  obtain ⟨v3, vs3, d3, ds3, p3, q3, rfl, rfl, rfl, h3, r3⟩ := trodAll_cons r2
  obtain ⟨rfl, rfl, rfl⟩ := trodAll_nil r3
  obtain rfl : args = #[v0, v1, v2, v3] := by cases args; simp_all
  obtain ⟨rfl, rfl⟩ := trodVars_none hV
  obtain ⟨a0, rfl, rfl, rfl, w0⟩ := open_int Try.underlying3 (hval 0 3 v0 rfl rfl) h0
  obtain ⟨a1, rfl, rfl, rfl, w1⟩ := open_string Try.underlying9 (hval 1 9 v1 rfl rfl) h1
  obtain ⟨a2, rfl, rfl, rfl, w2⟩ := open_int Try.underlying3 (hval 2 3 v2 rfl rfl) h2
  obtain ⟨a3, len3, cap3, rfl⟩ := okWide_slice Try.underlying23 (hval 3 23 v3 rfl rfl)
  have k3 := h3
  have lt3 : ∀ x ∈ p3, x.block < W.heap.size := by obtain ⟨m, hm⟩ := k3; exact DataW.trod_lt m _ _ _ hm
  obtain ⟨z3, w3⟩ : ∃ D, RecsIn W a3 len3 cap3 D (Rows.uptoBulk d3) := by
    obtain ⟨fuel, hf⟩ := h3
    obtain ⟨xa, xl, xc, D, hcs, hw⟩ := open_recs hf
    simp [Value.cells] at hcs
    obtain ⟨rfl, rfl, rfl⟩ := hcs
    exact ⟨D, hw⟩
  clear hA0 hval0
  refine (walk a0 a1 a2 a3 len3 cap3 z3 W w0 w1 w2 w3).mono fun e W' ⟨he, bel⟩ => ?_
  subst he
  exact ⟨_, rfl, _, _, _, [], _, [], hW', trodAll_mk1 (shut_bool Try.underlying4 _), (trodAll_cons_mk (shut_int Try.underlying3 w0) (trodAll_cons_mk (shut_string Try.underlying9 w1) (trodAll_cons_mk (shut_int Try.underlying3 w2) (trodAll_cons_mk (Below.trod laidOut (by kernel_rfl) (of_decide_eq_true (by kernel_rfl)) k3 bel lt3) trodAll_mk0)))), rfl, bel.frame _, fun h => by cases h⟩

theorem over : Rows.wireAsksRow.holds Try.pinned (OpenSpec.ofChange Rows.wireAsksSpec) :=
  OpenClaim.holds_of_wide 7 Try.f7 rfl rfl rfl rfl rfl rfl rfl ⟨rfl, rfl, rfl, rfl, rfl⟩ rfl rfl rfl rfl rfl (by kernel_rfl) Try.func7 (by kernel_rfl)
    (of_decide_eq_true (by kernel_rfl)) (by unfold Func.isWrapper; first | (rw [if_pos (by decide +kernel)]; kernel_rfl) | (rw [if_neg (by decide +kernel)]; exact ⟨rfl, rfl⟩))
    (fun os started H enc _ => lifted os started H enc)


theorem proved : Rows.WireAsksSaid := over
#print axioms proved
end Go.Proofs.Yticdpidngmeebaa.wireAsks

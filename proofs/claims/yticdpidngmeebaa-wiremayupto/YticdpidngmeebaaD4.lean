/- Texts that belong together, one behind the other: RefWireSame, RefWireSame2, WirEqual, WirSame, RecAt, RecRow, QuRow, MsgKit, WirAsk. -/
import Derived.Test.YticdpidngmeebaaD3
import Derived.Deep.RegionHeld3
import Derived.Maps.AppendAt
import Derived.Laws.OwnMore
/- Contracts of the reference's sameRecords and Same of layer 9. -/
namespace Go.Proofs.Yticdpidngmeebaa
open Go.RowKit
set_option linter.unusedVariables false
set_option maxRecDepth 20000

theorem yields_rec {ops : Array Oper} {S : World → Prop} {op : Oper} {a : Act} {G o : Nat} {r : Rec} (h16 : Hid (r.b.length = 16)) (hS : Hid (∀ w, S w → w.rangeAt G o (recL r))) (hw : Region.wanted op (yielded ops a.tmps) = true) (x : Operand) (ho : op.op = .load 42 x) (hx : a.eval x = .pointer (some ⟨G, o, none⟩)) : YieldsIf Try.prog ops S op (recV r) a :=
  yieldsIf_load_mid hw 42 x ho G o hx (recL r) _ (fun w h => hS.out w h) Try.underlying42 rfl (by rw [rec_size, recL_len r h16.out])
theorem qu_size : (Try.prog.info? 51).map (·.size) = some 3 := by kernel_rfl
theorem yields_qu {ops : Array Oper} {S : World → Prop} {op : Oper} {a : Act} {G o : Nat} {r : Qu} (hS : Hid (∀ w, S w → w.rangeAt G o (quL r))) (hw : Region.wanted op (yielded ops a.tmps) = true) (x : Operand) (ho : op.op = .load 51 x) (hx : a.eval x = .pointer (some ⟨G, o, none⟩)) : YieldsIf Try.prog ops S op (quV r) a :=
  yieldsIf_load_mid hw 51 x ho G o hx (quL r) _ (fun w h => hS.out w h) Try.underlying51 rfl (by rw [qu_size]; rfl)
theorem agg_rec (r : Rec) : ∃ cs, recV r = .agg cs := ⟨_, rfl⟩
set_option maxRecDepth 100000 in
set_option maxHeartbeats 1000000 in
theorem sameRecs_any (a b : Option Addr) (c d : Nat) (D E : List Rec) (w : World) (hD : RecsAt w a c D) (hE : RecsAt w b d E) (hl : D.length ≤ 1000000) (hl2 : E.length ≤ 1000000) :
    Calls Try.prog 41 #[.slice a D.length c, .slice b E.length d] w fun e w' => e = .returned (.bool (decide (D = E))) ∧ Below w.heap.size w w' := by
  have HD := Lib.hid hD
  have HE := Lib.hid hE
  obtain ⟨R, hR⟩ : ∃ R, decide (D = E) = R := ⟨_, rfl⟩
  have HRR := Lib.hid hR
  rw [hR]
  obtain ⟨N, hN⟩ : ∃ N, D.length = N := ⟨_, rfl⟩
  obtain ⟨M, hM⟩ : ∃ M, E.length = M := ⟨_, rfl⟩
  have HN := Lib.hid hN
  have HM := Lib.hid hM
  rw [hN] at hl ⊢
  rw [hM] at hl2 ⊢
  clear hD hE hR hN hM
  by_cases hNM : N = M
  · subst hNM
    have hne : ((N : Int) != (N : Int)) = false := by simp
    go_enter Try.func41, Try.ntmps41
    go_wp2_with fail
    go_loopw [5] (fun i wr => ∃ k : Nat, k ≤ N ∧ i = .int .i64 (k : Int) ∧ Hid (∀ j (h : j < D.length) (h2 : j < E.length), j < k → D[j] = E[j]) ∧ Hid (Below w.heap.size w wr)) (fun i _ => N - (intOf i).toNat)
    case atStart => exact ⟨0, Nat.zero_le _, rfl, Lib.hid (fun j _ _ h => absurd h (by omega)), Lib.hid (Below.refl _ _)⟩
    case round =>
      obtain ⟨k, hk, rfl, HO, HB⟩ := hrel
      by_cases hkN : k < N
      · have hd : decide ((k : Int) < (N : Int)) = true := decide_eq_true (by omega)
        have hdn : decide (k < N) = true := decide_eq_true hkN
        have hkD : k < D.length := by rw [HN.out]; exact hkN
        have hkE : k < E.length := by rw [HM.out]; exact hkN
        have HBD := Lib.hid HB.out.drew
        obtain ⟨g, o, ha, hg, hrg⟩ := (HD.out.below HBD.out).at k hkD
        obtain ⟨g2, o2, hb, hg2, hrg2⟩ := (HE.out.below HBD.out).at k hkE
        subst ha
        subst hb
        have H16 := Lib.hid (HD.out.2.2.1 _ (List.getElem_mem hkD)).1
        have H17 := Lib.hid (HE.out.2.2.1 _ (List.getElem_mem hkE)).1
        have q := fun W => run_neq_rec D[k] E[k] W H16.out H17.out
        have HO2 : Hid (D[k] = E[k] → ∀ j (h : j < D.length) (h2 : j < E.length), j < k + 1 → D[j] = E[j]) := Lib.hid (fun e j h h2 hj => by
          by_cases h3 : j < k
          · exact HO.out j h h2 h3
          · obtain rfl : j = k := by omega
            exact e)
        have HF : Hid (D[k] ≠ E[k] → R = false) := Lib.hid (fun e => by
          rw [← HRR.out]
          refine decide_eq_false (fun h => e ?_)
          subst h
          rfl)
        have gd := guard_rec
        generalize D[k] = r at *
        generalize E[k] = s at *
        have hb1 : (0 : Int) ≤ (k : Int) := by omega
        have hb2 : (k : Int) < (N : Int) := by omega
        obtain ⟨S, hS⟩ : ∃ S : World → Prop, (fun W => W.rangeAt g (o + k * 23) (recL r) ∧ W.rangeAt g2 (o2 + k * 23) (recL s)) = S := ⟨_, rfl⟩
        have C1 : Hid (∀ w', S w' → w'.rangeAt g (o + k * 23) (recL r)) := Lib.hid (fun w' h => by rw [← hS] at h; exact h.1)
        have C2 : Hid (∀ w', S w' → w'.rangeAt g2 (o2 + k * 23) (recL s)) := Lib.hid (fun w' h => by rw [← hS] at h; exact h.2)
        have HSS : Hid (S wr.drew) := Lib.hid (by rw [← hS]; exact ⟨hrg, hrg2⟩)
        clear hS hrg hrg2 hg hg2
        by_cases hrs : r = s
        · have hq : (!decide (r = s)) = false := by rw [decide_eq_true hrs]; rfl
          rw [hq] at q
          have HO3 := Lib.hid (HO2.out hrs)
          clear HO2 HF HO hrs hq
          go_upto_region 6 with fail
          refine wp_region_noPanic ?_
          refine wp_region_held_drew (S := S) (by kernel_rfl) HSS.out (fun hHeld => ?_)
          refine wpAnyH_take (i := 0) (v := ?_) rfl (by kernel_rfl) (by kernel_rfl) (by kernel_rfl) (fun _ _ _ h => h) (Or.inl ⟨by rfl, ?_⟩) (by assumption) ?_
          rotate_left
          · (intro w hSw; go_simp; try (with_reducible rfl))
          try simp only [Act.put, List.getElem_toArray, List.getElem_cons_zero, List.setIfInBounds_toArray, List.set_cons_zero, List.set_cons_succ]
          refine wpAnyH_take (i := 1) (v := ?_) rfl (by kernel_rfl) (by kernel_rfl) (by kernel_rfl) (fun _ _ _ h => h) (Or.inl ⟨by rfl, ?_⟩) (by assumption) ?_
          rotate_left
          · (intro w hSw; go_simp; try (with_reducible rfl))
          try simp only [Act.put, List.getElem_toArray, List.getElem_cons_zero, List.getElem_cons_succ, List.setIfInBounds_toArray, List.set_cons_zero, List.set_cons_succ]
          refine wpAnyH_take (i := 2) (v := ?_) rfl (by kernel_rfl) (by kernel_rfl) (by kernel_rfl) (fun _ _ _ h => h) (Or.inl ⟨by rfl, ?_⟩) (by assumption) ?_
          rotate_left
          · (intro w hSw; go_simp; try (with_reducible rfl))
          try simp only [Act.put, List.getElem_toArray, List.getElem_cons_zero, List.getElem_cons_succ, List.setIfInBounds_toArray, List.set_cons_zero, List.set_cons_succ]
          refine wpAnyH_take (i := 3) rfl (by kernel_rfl) (by kernel_rfl) (by kernel_rfl) (fun _ _ _ h => h) (yields_rec H16 C1 (by rfl) _ rfl rfl) (by assumption) ?_
          try simp only [Act.put, List.getElem_toArray, List.getElem_cons_zero, List.getElem_cons_succ, List.setIfInBounds_toArray, List.set_cons_zero, List.set_cons_succ]
          refine wpAnyH_take (i := 4) (v := ?_) rfl (by kernel_rfl) (by kernel_rfl) (by kernel_rfl) (fun _ _ _ h => h) (Or.inl ⟨by rfl, ?_⟩) (by assumption) ?_
          rotate_left
          · (intro w hSw; go_simp; try (with_reducible rfl))
          try simp only [Act.put, List.getElem_toArray, List.getElem_cons_zero, List.getElem_cons_succ, List.setIfInBounds_toArray, List.set_cons_zero, List.set_cons_succ]
          refine wpAnyH_take (i := 5) (v := ?_) rfl (by kernel_rfl) (by kernel_rfl) (by kernel_rfl) (fun _ _ _ h => h) (Or.inl ⟨by rfl, ?_⟩) (by assumption) ?_
          rotate_left
          · (intro w hSw; go_simp; try (with_reducible rfl))
          try simp only [Act.put, List.getElem_toArray, List.getElem_cons_zero, List.getElem_cons_succ, List.setIfInBounds_toArray, List.set_cons_zero, List.set_cons_succ]
          refine wpAnyH_take (i := 6) (v := ?_) rfl (by kernel_rfl) (by kernel_rfl) (by kernel_rfl) (fun _ _ _ h => h) (Or.inl ⟨by rfl, ?_⟩) (by assumption) ?_
          rotate_left
          · (intro w hSw; go_simp; try (with_reducible rfl))
          try simp only [Act.put, List.getElem_toArray, List.getElem_cons_zero, List.getElem_cons_succ, List.setIfInBounds_toArray, List.set_cons_zero, List.set_cons_succ]
          refine wpAnyH_take (i := 7) rfl (by kernel_rfl) (by kernel_rfl) (by kernel_rfl) (fun _ _ _ h => h) (yields_rec H17 C2 (by rfl) _ rfl rfl) (by assumption) ?_
          try simp only [Act.put, List.getElem_toArray, List.getElem_cons_zero, List.getElem_cons_succ, List.setIfInBounds_toArray, List.set_cons_zero, List.set_cons_succ]
          refine wpAnyH_take (i := 8) (v := ?_) rfl (by kernel_rfl) (by kernel_rfl) (by kernel_rfl) (fun _ _ _ h => h) (Or.inl ⟨by rfl, ?_⟩) (by assumption) ?_
          rotate_left
          · (intro w hSw; go_simp; try (with_reducible rfl))
          try simp only [Act.put, List.getElem_toArray, List.getElem_cons_zero, List.getElem_cons_succ, List.setIfInBounds_toArray, List.set_cons_zero, List.set_cons_succ]
          refine wpAnyH_done (by kernel_rfl) ?_ _
          refine NoPanic.normal ?_
          clear q gd C1 C2 HSS hHeld
          go_wp2_with fail
          go_roundw
          case rel => exact ⟨k + 1, by omega, by go_num, HO3, HBD⟩
          case measure => simp [intOf]; omega
        · have hq : (!decide (r = s)) = true := by rw [decide_eq_false hrs]; rfl
          rw [hq] at q
          have ER := HF.out hrs
          subst ER
          clear HO2 HF HO hrs hq
          go_upto_region 6 with fail
          refine wp_region_noPanic ?_
          refine wp_region_held_drew (S := S) (by kernel_rfl) HSS.out (fun hHeld => ?_)
          refine wpAnyH_take (i := 0) (v := ?_) rfl (by kernel_rfl) (by kernel_rfl) (by kernel_rfl) (fun _ _ _ h => h) (Or.inl ⟨by rfl, ?_⟩) (by assumption) ?_
          rotate_left
          · (intro w hSw; go_simp; try (with_reducible rfl))
          try simp only [Act.put, List.getElem_toArray, List.getElem_cons_zero, List.setIfInBounds_toArray, List.set_cons_zero, List.set_cons_succ]
          refine wpAnyH_take (i := 1) (v := ?_) rfl (by kernel_rfl) (by kernel_rfl) (by kernel_rfl) (fun _ _ _ h => h) (Or.inl ⟨by rfl, ?_⟩) (by assumption) ?_
          rotate_left
          · (intro w hSw; go_simp; try (with_reducible rfl))
          try simp only [Act.put, List.getElem_toArray, List.getElem_cons_zero, List.getElem_cons_succ, List.setIfInBounds_toArray, List.set_cons_zero, List.set_cons_succ]
          refine wpAnyH_take (i := 2) (v := ?_) rfl (by kernel_rfl) (by kernel_rfl) (by kernel_rfl) (fun _ _ _ h => h) (Or.inl ⟨by rfl, ?_⟩) (by assumption) ?_
          rotate_left
          · (intro w hSw; go_simp; try (with_reducible rfl))
          try simp only [Act.put, List.getElem_toArray, List.getElem_cons_zero, List.getElem_cons_succ, List.setIfInBounds_toArray, List.set_cons_zero, List.set_cons_succ]
          refine wpAnyH_take (i := 3) rfl (by kernel_rfl) (by kernel_rfl) (by kernel_rfl) (fun _ _ _ h => h) (yields_rec H16 C1 (by rfl) _ rfl rfl) (by assumption) ?_
          try simp only [Act.put, List.getElem_toArray, List.getElem_cons_zero, List.getElem_cons_succ, List.setIfInBounds_toArray, List.set_cons_zero, List.set_cons_succ]
          refine wpAnyH_take (i := 4) (v := ?_) rfl (by kernel_rfl) (by kernel_rfl) (by kernel_rfl) (fun _ _ _ h => h) (Or.inl ⟨by rfl, ?_⟩) (by assumption) ?_
          rotate_left
          · (intro w hSw; go_simp; try (with_reducible rfl))
          try simp only [Act.put, List.getElem_toArray, List.getElem_cons_zero, List.getElem_cons_succ, List.setIfInBounds_toArray, List.set_cons_zero, List.set_cons_succ]
          refine wpAnyH_take (i := 5) (v := ?_) rfl (by kernel_rfl) (by kernel_rfl) (by kernel_rfl) (fun _ _ _ h => h) (Or.inl ⟨by rfl, ?_⟩) (by assumption) ?_
          rotate_left
          · (intro w hSw; go_simp; try (with_reducible rfl))
          try simp only [Act.put, List.getElem_toArray, List.getElem_cons_zero, List.getElem_cons_succ, List.setIfInBounds_toArray, List.set_cons_zero, List.set_cons_succ]
          refine wpAnyH_take (i := 6) (v := ?_) rfl (by kernel_rfl) (by kernel_rfl) (by kernel_rfl) (fun _ _ _ h => h) (Or.inl ⟨by rfl, ?_⟩) (by assumption) ?_
          rotate_left
          · (intro w hSw; go_simp; try (with_reducible rfl))
          try simp only [Act.put, List.getElem_toArray, List.getElem_cons_zero, List.getElem_cons_succ, List.setIfInBounds_toArray, List.set_cons_zero, List.set_cons_succ]
          refine wpAnyH_take (i := 7) rfl (by kernel_rfl) (by kernel_rfl) (by kernel_rfl) (fun _ _ _ h => h) (yields_rec H17 C2 (by rfl) _ rfl rfl) (by assumption) ?_
          try simp only [Act.put, List.getElem_toArray, List.getElem_cons_zero, List.getElem_cons_succ, List.setIfInBounds_toArray, List.set_cons_zero, List.set_cons_succ]
          refine wpAnyH_take (i := 8) (v := ?_) rfl (by kernel_rfl) (by kernel_rfl) (by kernel_rfl) (fun _ _ _ h => h) (Or.inl ⟨by rfl, ?_⟩) (by assumption) ?_
          rotate_left
          · (intro w hSw; go_simp; try (with_reducible rfl))
          try simp only [Act.put, List.getElem_toArray, List.getElem_cons_zero, List.getElem_cons_succ, List.setIfInBounds_toArray, List.set_cons_zero, List.set_cons_succ]
          refine wpAnyH_done (by kernel_rfl) ?_ _
          refine NoPanic.normal ?_
          clear q gd C1 C2 HSS hHeld
          go_wp2_with fail
          go_ret
          exact ⟨rfl, HBD.out⟩
      · obtain rfl : k = N := by omega
        have hd : decide ((k : Int) < (k : Int)) = false := by simp
        have ER : R = true := by
          rw [← HRR.out]
          refine decide_eq_true (List.ext_getElem (by rw [HN.out, HM.out]) (fun j h1 h2 => HO.out j h1 h2 (by rw [← HN.out]; exact h1)))
        subst ER
        clear HO
        go_wp2_with fail
        go_ret
        exact ⟨rfl, HB.out⟩
  · have hne : ((N : Int) != (M : Int)) = true := by rw [bne_iff_ne]; omega
    have ER : R = false := by
      rw [← HRR.out]
      refine decide_eq_false (fun h => hNM ?_)
      rw [← HN.out, ← HM.out, h]
    subst ER
    go_enter Try.func41, Try.ntmps41
    go_wp2_with fail
    go_ret
    exact ⟨rfl, Below.refl _ _⟩
end Go.Proofs.Yticdpidngmeebaa
/- Contract of the reference's Same of layer 9. -/
namespace Go.Proofs.Yticdpidngmeebaa
open Go.RowKit
set_option linter.unusedVariables false
set_option maxRecDepth 20000

theorem QusAt.range {w : World} {a : Option Addr} {cap : Nat} {D : List Qu} (h : QusAt w a cap D) (k : Nat) (hk : k < D.length) : ∃ g o, a = some ⟨g, o, none⟩ ∧ g < w.heap.size ∧ w.rangeAt g (o + k * 3) (quL D[k]) := by
  obtain ⟨h1, h2, h3, h4⟩ := h
  rcases h4 with h4 | ⟨g, o, e, hg, hr⟩
  · omega
  · exact ⟨g, o, e, hg, range_at hr (S := 3) (fun d hd => rfl) k hk⟩
def Lens (m : Msg) : Prop := m.qs.length ≤ 1000000 ∧ m.an.length ≤ 1000000 ∧ m.au.length ≤ 1000000 ∧ m.mo.length ≤ 1000000
set_option maxRecDepth 100000 in
set_option maxHeartbeats 2000000 in
theorem refSame9_any (m n : Msg) (aq a1 a2 a3 : Option Addr) (cq c1 c2 c3 : Nat) (bq b1 b2 b3 : Option Addr) (dq d1 d2 d3 : Nat) (w : World) (hM : MsgIn w m aq a1 a2 a3 cq c1 c2 c3) (hN : MsgIn w n bq b1 b2 b3 dq d1 d2 d3) (hlm : Lens m) (hln : Lens n) :
    Calls Try.prog 17 #[msgV m aq a1 a2 a3 cq c1 c2 c3, msgV n bq b1 b2 b3 dq d1 d2 d3] w fun e w' => e = .returned (.bool (decide (m = n))) ∧ Below w.heap.size w w' := by
  unfold msgV
  obtain ⟨hl1, hl2, hl3, hl4⟩ := hlm
  obtain ⟨hk1, hk2, hk3, hk4⟩ := hln
  have HMI := Lib.hid hM
  have HNI := Lib.hid hN
  have HA1 := fun W (h : Below w.heap.size w W) => Lib.hid (sameRecs_any a1 b1 c1 d1 m.an n.an W (hM.an.below h) (hN.an.below h) hl2 hk2)
  have HA2 := fun W (h : Below w.heap.size w W) => Lib.hid (sameRecs_any a2 b2 c2 d2 m.au n.au W (hM.au.below h) (hN.au.below h) hl3 hk3)
  have HA3 := fun W (h : Below w.heap.size w W) => Lib.hid (sameRecs_any a3 b3 c3 d3 m.mo n.mo W (hM.mo.below h) (hN.mo.below h) hl4 hk4)
  obtain ⟨R, hR⟩ : ∃ R, decide (m = n) = R := ⟨_, rfl⟩
  have HRM := Lib.hid hR
  rw [hR]
  obtain ⟨i1, f1, q1, x1, y1, z1⟩ := m
  obtain ⟨i2, f2, q2, x2, y2, z2⟩ := n
  simp only at HA1 HA2 HA3 hl1 hk1
  have HEQ : Hid (R = decide (i1 = i2 ∧ f1 = f2 ∧ q1 = q2 ∧ x1 = x2 ∧ y1 = y2 ∧ z1 = z2)) := Lib.hid (by
    rw [← HRM.out]
    exact decide_eq_decide.2 (by simp only [Msg.mk.injEq]))
  have HQ1 := Lib.hid hM.qs
  have HQ2 := Lib.hid hN.qs
  simp only at HQ1 HQ2
  clear hM hN hR HMI HNI HRM
  obtain ⟨W, hW⟩ : ∃ W, (w.alloc (.cells #[.int .i64 i1, .int .i64 f1, .slice aq q1.length cq, .slice a1 x1.length c1, .slice a2 y1.length c2, .slice a3 z1.length c3] 25)).alloc (.cells #[.int .i64 i2, .int .i64 f2, .slice bq q2.length dq, .slice b1 x2.length d1, .slice b2 y2.length d2, .slice b3 z2.length d3] 25) = W := ⟨_, rfl⟩
  have HB0 : Hid (Below w.heap.size w W) := Lib.hid (by rw [← hW]; exact ((Below.refl _ _).alloc (Nat.le_refl _) _).alloc (by simp) _)
  have HBX : Hid (MBox W w.heap.size (.int .i64 i1) (.int .i64 f1) (.slice aq q1.length cq) (.slice a1 x1.length c1) (.slice a2 y1.length c2) (.slice a3 z1.length c3)) := Lib.hid (by rw [← hW]; exact (MBox.new w _ _ _ _ _ _ _).below ((Below.refl _ _).alloc (Nat.le_refl _) _))
  have HBY : Hid (MBox W (w.heap.size + 1) (.int .i64 i2) (.int .i64 f2) (.slice bq q2.length dq) (.slice b1 x2.length d1) (.slice b2 y2.length d2) (.slice b3 z2.length d3)) := Lib.hid (by
    rw [← hW]
    have := MBox.new (w.alloc (.cells #[.int .i64 i1, .int .i64 f1, .slice aq q1.length cq, .slice a1 x1.length c1, .slice a2 y1.length c2, .slice a3 z1.length c3] 25)) 25 (.int .i64 i2) (.int .i64 f2) (.slice bq q2.length dq) (.slice b1 x2.length d1) (.slice b2 y2.length d2) (.slice b3 z2.length d3)
    rw [show (w.alloc (.cells #[.int .i64 i1, .int .i64 f1, .slice aq q1.length cq, .slice a1 x1.length c1, .slice a2 y1.length c2, .slice a3 z1.length c3] 25)).heap.size = w.heap.size + 1 by simp] at this
    exact this)
  obtain ⟨N, hN⟩ : ∃ N, q1.length = N := ⟨_, rfl⟩
  have HN := Lib.hid hN
  obtain ⟨M, hM⟩ : ∃ M, q2.length = M := ⟨_, rfl⟩
  have HM := Lib.hid hM
  rw [hN] at hl1 HBX hW ⊢
  rw [hM] at hk1 HBY hW ⊢
  generalize x1.length = n1 at *
  generalize y1.length = n2 at *
  generalize z1.length = n3 at *
  generalize x2.length = n4 at *
  generalize y2.length = n5 at *
  generalize z2.length = n6 at *
  have e10 := HBX.out.c0
  have e11 := HBX.out.c1
  have e12 := HBX.out.c2
  have e20 := HBY.out.c0
  have e21 := HBY.out.c1
  have e22 := HBY.out.c2
  clear hN hM
  by_cases hi : i1 = i2
  · have hib : (i1 != i2) = false := by rw [hi]; simp
    have HI := Lib.hid hi
    clear hi
    by_cases hf : f1 = f2
    · have hfb : (f1 != f2) = false := by rw [hf]; simp
      have HF1 := Lib.hid hf
      clear hf
      by_cases hNM : N = M
      · have hnb : ((N : Int) != (M : Int)) = false := by rw [hNM]; simp
        have HNM := Lib.hid hNM
        clear hNM
        go_enter Try.func17, Try.ntmps17
        go_upto_region 1 with fail
        try rw [hW]
        clear hW
        go_wp2_with fail
        clear e10 e11 e12 e20 e21 e22
        go_loopw [5] (fun i wr => ∃ k : Nat, k ≤ N ∧ i = .int .i64 (k : Int) ∧ Hid (∀ j (h : j < q1.length) (h2 : j < q2.length), j < k → q1[j] = q2[j]) ∧ Hid (MBox wr w.heap.size (.int .i64 i1) (.int .i64 f1) (.slice aq N cq) (.slice a1 n1 c1) (.slice a2 n2 c2) (.slice a3 n3 c3)) ∧ Hid (MBox wr (w.heap.size + 1) (.int .i64 i2) (.int .i64 f2) (.slice bq M dq) (.slice b1 n4 d1) (.slice b2 n5 d2) (.slice b3 n6 d3)) ∧ Hid (Below w.heap.size w wr)) (fun i _ => N - (intOf i).toNat)
        case atStart => exact ⟨0, Nat.zero_le _, rfl, Lib.hid (fun j _ _ h => absurd h (by omega)), HBX, HBY, HB0⟩
        case round =>
          clear HBX HBY HB0
          obtain ⟨k, hk, rfl, HO, HX, HY, HB⟩ := hrel
          have e12 := HX.out.c2
          by_cases hkN : k < N
          · have hd : decide ((k : Int) < (N : Int)) = true := decide_eq_true (by omega)
            have hdn : decide (k < N) = true := decide_eq_true hkN
            have hkD : k < q1.length := by rw [HN.out]; exact hkN
            have hkE : k < q2.length := by rw [HM.out, ← HNM.out]; exact hkN
            have HBD := Lib.hid HB.out.drew
            have HXD := Lib.hid (HX.out.below (Below.refl _ _).drew)
            have HYD := Lib.hid (HY.out.below (Below.refl _ _).drew)
            obtain ⟨g, o, ha, hg, hrg⟩ := (HQ1.out.below HBD.out).range k hkD
            obtain ⟨g2, o2, hb, hg2, hrg2⟩ := (HQ2.out.below HBD.out).range k hkE
            subst ha
            subst hb
            have q := fun W => run_neq_qu q1[k] q2[k] W
            have HO2 : Hid (q1[k] = q2[k] → ∀ j (h : j < q1.length) (h2 : j < q2.length), j < k + 1 → q1[j] = q2[j]) := Lib.hid (fun e j h h2 hj => by
              by_cases h3 : j < k
              · exact HO.out j h h2 h3
              · obtain rfl : j = k := by omega
                exact e)
            have HF : Hid (q1[k] ≠ q2[k] → R = false) := Lib.hid (fun e => by
              rw [HEQ.out]
              refine decide_eq_false (fun h => e ?_)
              have := h.2.2.1
              subst this
              rfl)
            have gd := guard_qu
            generalize q1[k] = r at *
            generalize q2[k] = s at *
            have hb1 : (0 : Int) ≤ (k : Int) := by omega
            have hb2 : (k : Int) < (N : Int) := by omega
            have hb3 : (k : Int) < (M : Int) := by have := HNM.out; omega
            obtain ⟨S, hS⟩ : ∃ S : World → Prop, (fun W => W.rangeAt g (o + k * 3) (quL r) ∧ W.rangeAt g2 (o2 + k * 3) (quL s) ∧ W.cell? ⟨w.heap.size, 2, none⟩ = some (.slice (some ⟨g, o, none⟩) N cq) ∧ W.cell? ⟨w.heap.size + 1, 2, none⟩ = some (.slice (some ⟨g2, o2, none⟩) M dq)) = S := ⟨_, rfl⟩
            have C1 : Hid (∀ w', S w' → w'.rangeAt g (o + k * 3) (quL r)) := Lib.hid (fun w' h => by rw [← hS] at h; exact h.1)
            have C2 : Hid (∀ w', S w' → w'.rangeAt g2 (o2 + k * 3) (quL s)) := Lib.hid (fun w' h => by rw [← hS] at h; exact h.2.1)
            have C3 : Hid (∀ w', S w' → w'.cell? ⟨w.heap.size, 2, none⟩ = some (.slice (some ⟨g, o, none⟩) N cq)) := Lib.hid (fun w' h => by rw [← hS] at h; exact h.2.2.1)
            have C4 : Hid (∀ w', S w' → w'.cell? ⟨w.heap.size + 1, 2, none⟩ = some (.slice (some ⟨g2, o2, none⟩) M dq)) := Lib.hid (fun w' h => by rw [← hS] at h; exact h.2.2.2)
            have HSS : Hid (S wr.drew) := Lib.hid (by rw [← hS]; exact ⟨hrg, hrg2, HXD.out.c2, HYD.out.c2⟩)
            clear hS hrg hrg2 hg hg2
            by_cases hrs : r = s
            · have hq : (!decide (r = s)) = false := by rw [decide_eq_true hrs]; rfl
              rw [hq] at q
              have HO3 := Lib.hid (HO2.out hrs)
              clear HO2 HF HO hrs hq
              go_upto_region 6 with fail
              refine wp_region_noPanic ?_
              refine wp_region_held_drew (S := S) (by kernel_rfl) HSS.out (fun hHeld => ?_)
              refine wpAnyH_take (i := 0) (v := ?_) rfl (by kernel_rfl) (by kernel_rfl) (by kernel_rfl) (fun _ _ _ h => h) (Or.inl ⟨by rfl, ?_⟩) (by assumption) ?_
              rotate_left
              · (intro w hSw; go_simp; try (with_reducible rfl))
              try simp only [Act.put, List.getElem_toArray, List.getElem_cons_zero, List.setIfInBounds_toArray, List.set_cons_zero, List.set_cons_succ]
              refine wpAnyH_take (i := 1) (v := ?_) rfl (by kernel_rfl) (by kernel_rfl) (by kernel_rfl) (fun _ _ _ h => h) (Or.inl ⟨by rfl, ?_⟩) (by assumption) ?_
              rotate_left
              · (intro w hSw; have hc0 := C3.out w hSw; go_simp; try (with_reducible rfl))
              try simp only [Act.put, List.getElem_toArray, List.getElem_cons_zero, List.getElem_cons_succ, List.setIfInBounds_toArray, List.set_cons_zero, List.set_cons_succ]
              refine wpAnyH_take (i := 2) (v := ?_) rfl (by kernel_rfl) (by kernel_rfl) (by kernel_rfl) (fun _ _ _ h => h) (Or.inl ⟨by rfl, ?_⟩) (by assumption) ?_
              rotate_left
              · (intro w hSw; go_simp; try (with_reducible rfl))
              try simp only [Act.put, List.getElem_toArray, List.getElem_cons_zero, List.getElem_cons_succ, List.setIfInBounds_toArray, List.set_cons_zero, List.set_cons_succ]
              refine wpAnyH_take (i := 3) (v := ?_) rfl (by kernel_rfl) (by kernel_rfl) (by kernel_rfl) (fun _ _ _ h => h) (Or.inl ⟨by rfl, ?_⟩) (by assumption) ?_
              rotate_left
              · (intro w hSw; go_simp; try (with_reducible rfl))
              try simp only [Act.put, List.getElem_toArray, List.getElem_cons_zero, List.getElem_cons_succ, List.setIfInBounds_toArray, List.set_cons_zero, List.set_cons_succ]
              refine wpAnyH_take (i := 4) rfl (by kernel_rfl) (by kernel_rfl) (by kernel_rfl) (fun _ _ _ h => h) (yields_qu C1 (by rfl) _ rfl rfl) (by assumption) ?_
              try simp only [Act.put, List.getElem_toArray, List.getElem_cons_zero, List.getElem_cons_succ, List.setIfInBounds_toArray, List.set_cons_zero, List.set_cons_succ]
              refine wpAnyH_take (i := 5) (v := ?_) rfl (by kernel_rfl) (by kernel_rfl) (by kernel_rfl) (fun _ _ _ h => h) (Or.inl ⟨by rfl, ?_⟩) (by assumption) ?_
              rotate_left
              · (intro w hSw; go_simp; try (with_reducible rfl))
              try simp only [Act.put, List.getElem_toArray, List.getElem_cons_zero, List.getElem_cons_succ, List.setIfInBounds_toArray, List.set_cons_zero, List.set_cons_succ]
              refine wpAnyH_take (i := 6) (v := ?_) rfl (by kernel_rfl) (by kernel_rfl) (by kernel_rfl) (fun _ _ _ h => h) (Or.inl ⟨by rfl, ?_⟩) (by assumption) ?_
              rotate_left
              · (intro w hSw; have hc0 := C4.out w hSw; go_simp; try (with_reducible rfl))
              try simp only [Act.put, List.getElem_toArray, List.getElem_cons_zero, List.getElem_cons_succ, List.setIfInBounds_toArray, List.set_cons_zero, List.set_cons_succ]
              refine wpAnyH_take (i := 7) (v := ?_) rfl (by kernel_rfl) (by kernel_rfl) (by kernel_rfl) (fun _ _ _ h => h) (Or.inl ⟨by rfl, ?_⟩) (by assumption) ?_
              rotate_left
              · (intro w hSw; go_simp; try (with_reducible rfl))
              try simp only [Act.put, List.getElem_toArray, List.getElem_cons_zero, List.getElem_cons_succ, List.setIfInBounds_toArray, List.set_cons_zero, List.set_cons_succ]
              refine wpAnyH_take (i := 8) (v := ?_) rfl (by kernel_rfl) (by kernel_rfl) (by kernel_rfl) (fun _ _ _ h => h) (Or.inl ⟨by rfl, ?_⟩) (by assumption) ?_
              rotate_left
              · (intro w hSw; go_simp; try (with_reducible rfl))
              try simp only [Act.put, List.getElem_toArray, List.getElem_cons_zero, List.getElem_cons_succ, List.setIfInBounds_toArray, List.set_cons_zero, List.set_cons_succ]
              refine wpAnyH_take (i := 9) rfl (by kernel_rfl) (by kernel_rfl) (by kernel_rfl) (fun _ _ _ h => h) (yields_qu C2 (by rfl) _ rfl rfl) (by assumption) ?_
              try simp only [Act.put, List.getElem_toArray, List.getElem_cons_zero, List.getElem_cons_succ, List.setIfInBounds_toArray, List.set_cons_zero, List.set_cons_succ]
              refine wpAnyH_take (i := 10) (v := ?_) rfl (by kernel_rfl) (by kernel_rfl) (by kernel_rfl) (fun _ _ _ h => h) (Or.inl ⟨by rfl, ?_⟩) (by assumption) ?_
              rotate_left
              · (intro w hSw; go_simp; try (with_reducible rfl))
              try simp only [Act.put, List.getElem_toArray, List.getElem_cons_zero, List.getElem_cons_succ, List.setIfInBounds_toArray, List.set_cons_zero, List.set_cons_succ]
              refine wpAnyH_done (by kernel_rfl) ?_ _
              refine NoPanic.normal ?_
              clear q gd C1 C2 C3 C4 HSS hHeld e12
              go_wp2_with fail
              go_roundw
              case rel => exact ⟨k + 1, by omega, by go_num, HO3, HXD, HYD, HBD⟩
              case measure => simp [intOf]; omega
            · have hq : (!decide (r = s)) = true := by rw [decide_eq_false hrs]; rfl
              rw [hq] at q
              have ER := HF.out hrs
              subst ER
              clear HO2 HF HO hrs hq
              go_upto_region 6 with fail
              refine wp_region_noPanic ?_
              refine wp_region_held_drew (S := S) (by kernel_rfl) HSS.out (fun hHeld => ?_)
              refine wpAnyH_take (i := 0) (v := ?_) rfl (by kernel_rfl) (by kernel_rfl) (by kernel_rfl) (fun _ _ _ h => h) (Or.inl ⟨by rfl, ?_⟩) (by assumption) ?_
              rotate_left
              · (intro w hSw; go_simp; try (with_reducible rfl))
              try simp only [Act.put, List.getElem_toArray, List.getElem_cons_zero, List.setIfInBounds_toArray, List.set_cons_zero, List.set_cons_succ]
              refine wpAnyH_take (i := 1) (v := ?_) rfl (by kernel_rfl) (by kernel_rfl) (by kernel_rfl) (fun _ _ _ h => h) (Or.inl ⟨by rfl, ?_⟩) (by assumption) ?_
              rotate_left
              · (intro w hSw; have hc0 := C3.out w hSw; go_simp; try (with_reducible rfl))
              try simp only [Act.put, List.getElem_toArray, List.getElem_cons_zero, List.getElem_cons_succ, List.setIfInBounds_toArray, List.set_cons_zero, List.set_cons_succ]
              refine wpAnyH_take (i := 2) (v := ?_) rfl (by kernel_rfl) (by kernel_rfl) (by kernel_rfl) (fun _ _ _ h => h) (Or.inl ⟨by rfl, ?_⟩) (by assumption) ?_
              rotate_left
              · (intro w hSw; go_simp; try (with_reducible rfl))
              try simp only [Act.put, List.getElem_toArray, List.getElem_cons_zero, List.getElem_cons_succ, List.setIfInBounds_toArray, List.set_cons_zero, List.set_cons_succ]
              refine wpAnyH_take (i := 3) (v := ?_) rfl (by kernel_rfl) (by kernel_rfl) (by kernel_rfl) (fun _ _ _ h => h) (Or.inl ⟨by rfl, ?_⟩) (by assumption) ?_
              rotate_left
              · (intro w hSw; go_simp; try (with_reducible rfl))
              try simp only [Act.put, List.getElem_toArray, List.getElem_cons_zero, List.getElem_cons_succ, List.setIfInBounds_toArray, List.set_cons_zero, List.set_cons_succ]
              refine wpAnyH_take (i := 4) rfl (by kernel_rfl) (by kernel_rfl) (by kernel_rfl) (fun _ _ _ h => h) (yields_qu C1 (by rfl) _ rfl rfl) (by assumption) ?_
              try simp only [Act.put, List.getElem_toArray, List.getElem_cons_zero, List.getElem_cons_succ, List.setIfInBounds_toArray, List.set_cons_zero, List.set_cons_succ]
              refine wpAnyH_take (i := 5) (v := ?_) rfl (by kernel_rfl) (by kernel_rfl) (by kernel_rfl) (fun _ _ _ h => h) (Or.inl ⟨by rfl, ?_⟩) (by assumption) ?_
              rotate_left
              · (intro w hSw; go_simp; try (with_reducible rfl))
              try simp only [Act.put, List.getElem_toArray, List.getElem_cons_zero, List.getElem_cons_succ, List.setIfInBounds_toArray, List.set_cons_zero, List.set_cons_succ]
              refine wpAnyH_take (i := 6) (v := ?_) rfl (by kernel_rfl) (by kernel_rfl) (by kernel_rfl) (fun _ _ _ h => h) (Or.inl ⟨by rfl, ?_⟩) (by assumption) ?_
              rotate_left
              · (intro w hSw; have hc0 := C4.out w hSw; go_simp; try (with_reducible rfl))
              try simp only [Act.put, List.getElem_toArray, List.getElem_cons_zero, List.getElem_cons_succ, List.setIfInBounds_toArray, List.set_cons_zero, List.set_cons_succ]
              refine wpAnyH_take (i := 7) (v := ?_) rfl (by kernel_rfl) (by kernel_rfl) (by kernel_rfl) (fun _ _ _ h => h) (Or.inl ⟨by rfl, ?_⟩) (by assumption) ?_
              rotate_left
              · (intro w hSw; go_simp; try (with_reducible rfl))
              try simp only [Act.put, List.getElem_toArray, List.getElem_cons_zero, List.getElem_cons_succ, List.setIfInBounds_toArray, List.set_cons_zero, List.set_cons_succ]
              refine wpAnyH_take (i := 8) (v := ?_) rfl (by kernel_rfl) (by kernel_rfl) (by kernel_rfl) (fun _ _ _ h => h) (Or.inl ⟨by rfl, ?_⟩) (by assumption) ?_
              rotate_left
              · (intro w hSw; go_simp; try (with_reducible rfl))
              try simp only [Act.put, List.getElem_toArray, List.getElem_cons_zero, List.getElem_cons_succ, List.setIfInBounds_toArray, List.set_cons_zero, List.set_cons_succ]
              refine wpAnyH_take (i := 9) rfl (by kernel_rfl) (by kernel_rfl) (by kernel_rfl) (fun _ _ _ h => h) (yields_qu C2 (by rfl) _ rfl rfl) (by assumption) ?_
              try simp only [Act.put, List.getElem_toArray, List.getElem_cons_zero, List.getElem_cons_succ, List.setIfInBounds_toArray, List.set_cons_zero, List.set_cons_succ]
              refine wpAnyH_take (i := 10) (v := ?_) rfl (by kernel_rfl) (by kernel_rfl) (by kernel_rfl) (fun _ _ _ h => h) (Or.inl ⟨by rfl, ?_⟩) (by assumption) ?_
              rotate_left
              · (intro w hSw; go_simp; try (with_reducible rfl))
              try simp only [Act.put, List.getElem_toArray, List.getElem_cons_zero, List.getElem_cons_succ, List.setIfInBounds_toArray, List.set_cons_zero, List.set_cons_succ]
              refine wpAnyH_done (by kernel_rfl) ?_ _
              refine NoPanic.normal ?_
              clear q gd C1 C2 C3 C4 HSS hHeld e12
              go_wp2_with fail
              go_ret
              exact ⟨rfl, HBD.out⟩
          · obtain rfl : k = N := by omega
            have hd : decide ((k : Int) < (k : Int)) = false := by simp
            have HQE : Hid (q1 = q2) := Lib.hid (List.ext_getElem (by rw [HN.out, HM.out]; exact HNM.out) (fun j h1 h2 => HO.out j h1 h2 (by rw [← HN.out]; exact h1)))
            have ER : R = (decide (x1 = x2) && decide (y1 = y2) && decide (z1 = z2)) := by
              rw [HEQ.out, Bool.eq_iff_iff]
              simp only [Bool.and_eq_true, decide_eq_true_iff]
              exact ⟨fun h => ⟨⟨h.2.2.2.1, h.2.2.2.2.1⟩, h.2.2.2.2.2⟩, fun h => ⟨HI.out, HF1.out, HQE.out, h.1.1, h.1.2, h.2⟩⟩
            generalize decide (x1 = x2) = r1 at *
            generalize decide (y1 = y2) = r2 at *
            generalize decide (z1 = z2) = r3 at *
            subst ER
            have e13 := HX.out.c3
            have e23 := HY.out.c3
            clear HO HEQ HQE
            go_wp2_with fail
            refine (HA1 _ HB.out).out.mono ?_
            rintro e w2 ⟨rfl, hbx⟩
            replace HB := Lib.hid (chain HB.out hbx)
            replace HX := Lib.hid (HX.out.below hbx)
            replace HY := Lib.hid (HY.out.below hbx)
            clear hbx HA1 e12 e13 e23
            cases r1 with
            | false =>
              go_wp2_with fail
              go_ret
              exact ⟨rfl, HB.out⟩
            | true =>
              have e14 := HX.out.c4
              have e24 := HY.out.c4
              go_wp2_with fail
              refine (HA2 _ HB.out).out.mono ?_
              rintro e w3 ⟨rfl, hbx⟩
              replace HB := Lib.hid (chain HB.out hbx)
              replace HX := Lib.hid (HX.out.below hbx)
              replace HY := Lib.hid (HY.out.below hbx)
              clear hbx HA2 e14 e24
              cases r2 with
              | false =>
                go_wp2_with fail
                go_ret
                exact ⟨rfl, HB.out⟩
              | true =>
                have e15 := HX.out.c5
                have e25 := HY.out.c5
                go_wp2_with fail
                refine (HA3 _ HB.out).out.mono ?_
                rintro e w4 ⟨rfl, hbx⟩
                replace HB := Lib.hid (chain HB.out hbx)
                clear hbx HA3 e15 e25
                go_wp2_with fail
                go_ret
                exact ⟨rfl, HB.out⟩
      · have hnb : ((N : Int) != (M : Int)) = true := by rw [bne_iff_ne]; omega
        have ER : R = false := by
          rw [HEQ.out]
          refine decide_eq_false (fun h => hNM ?_)
          rw [← HN.out, ← HM.out, h.2.2.1]
        subst ER
        go_enter Try.func17, Try.ntmps17
        go_upto_region 1 with fail
        try rw [hW]
        clear hW
        go_wp2_with fail
        go_ret
        exact ⟨rfl, HB0.out⟩
    · have hfb : (f1 != f2) = true := by rw [bne_iff_ne]; exact hf
      have ER : R = false := by rw [HEQ.out]; exact decide_eq_false (fun h => hf h.2.1)
      subst ER
      go_enter Try.func17, Try.ntmps17
      go_upto_region 1 with fail
      try rw [hW]
      clear hW
      go_wp2_with fail
      go_ret
      exact ⟨rfl, HB0.out⟩
  · have hib : (i1 != i2) = true := by rw [bne_iff_ne]; exact hi
    have ER : R = false := by rw [HEQ.out]; exact decide_eq_false (fun h => hi h.1)
    subst ER
    go_enter Try.func17, Try.ntmps17
    go_upto_region 1 with fail
    try rw [hW]
    clear hW
    go_wp2_with fail
    go_ret
    exact ⟨rfl, HB0.out⟩
end Go.Proofs.Yticdpidngmeebaa
/- Contracts of slices.Equal at records and at questions. -/
namespace Go.Proofs.Yticdpidngmeebaa
open Go.RowKit
set_option linter.unusedVariables false
set_option maxRecDepth 20000

set_option maxRecDepth 100000 in
set_option maxHeartbeats 1000000 in
theorem equalR_any (a b : Option Addr) (c d : Nat) (D E : List Rec) (w : World) (hD : RecsAt w a c D) (hE : RecsAt w b d E) (hl : D.length ≤ 1000000) (hl2 : E.length ≤ 1000000) :
    Calls Try.prog 43 #[.slice a D.length c, .slice b E.length d] w fun e w' => e = .returned (.bool (decide (D = E))) ∧ Below w.heap.size w w' := by
  have HD := Lib.hid hD
  have HE := Lib.hid hE
  obtain ⟨R, hR⟩ : ∃ R, decide (D = E) = R := ⟨_, rfl⟩
  have HRR := Lib.hid hR
  rw [hR]
  obtain ⟨N, hN⟩ : ∃ N, D.length = N := ⟨_, rfl⟩
  obtain ⟨M, hM⟩ : ∃ M, E.length = M := ⟨_, rfl⟩
  have HN := Lib.hid hN
  have HM := Lib.hid hM
  rw [hN] at hl ⊢
  rw [hM] at hl2 ⊢
  clear hD hE hR hN hM
  by_cases hNM : N = M
  · subst hNM
    have hne : ((N : Int) != (N : Int)) = false := by simp
    go_enter Try.func43, Try.ntmps43
    go_wp2_with fail
    go_loopw [13] (fun i wr => ∃ k : Nat, k ≤ N ∧ i = .int .i64 (k : Int) ∧ Hid (∀ j (h : j < D.length) (h2 : j < E.length), j < k → D[j] = E[j]) ∧ Hid (Below w.heap.size w wr)) (fun i _ => N - (intOf i).toNat)
    case atStart => exact ⟨0, Nat.zero_le _, rfl, Lib.hid (fun j _ _ h => absurd h (by omega)), Lib.hid (Below.refl _ _)⟩
    case round =>
      obtain ⟨k, hk, rfl, HO, HB⟩ := hrel
      by_cases hkN : k < N
      · have hd : decide ((k : Int) < (N : Int)) = true := decide_eq_true (by omega)
        have hdn : decide (k < N) = true := decide_eq_true hkN
        have hkD : k < D.length := by rw [HN.out]; exact hkN
        have hkE : k < E.length := by rw [HM.out]; exact hkN
        have HBD := Lib.hid HB.out.drew
        obtain ⟨g, o, ha, hg, hrg⟩ := (HD.out.below HBD.out).at k hkD
        obtain ⟨g2, o2, hb, hg2, hrg2⟩ := (HE.out.below HBD.out).at k hkE
        subst ha
        subst hb
        have H16 := Lib.hid (HD.out.2.2.1 _ (List.getElem_mem hkD)).1
        have H17 := Lib.hid (HE.out.2.2.1 _ (List.getElem_mem hkE)).1
        have q := fun W => run_neq_rec D[k] E[k] W H16.out H17.out
        have HO2 : Hid (D[k] = E[k] → ∀ j (h : j < D.length) (h2 : j < E.length), j < k + 1 → D[j] = E[j]) := Lib.hid (fun e j h h2 hj => by
          by_cases h3 : j < k
          · exact HO.out j h h2 h3
          · obtain rfl : j = k := by omega
            exact e)
        have HF : Hid (D[k] ≠ E[k] → R = false) := Lib.hid (fun e => by
          rw [← HRR.out]
          refine decide_eq_false (fun h => e ?_)
          subst h
          rfl)
        have gd := guard_rec
        generalize D[k] = r at *
        generalize E[k] = s at *
        have hb1 : (0 : Int) ≤ (k : Int) := by omega
        have hb2 : (k : Int) < (N : Int) := by omega
        obtain ⟨S, hS⟩ : ∃ S : World → Prop, (fun W => W.rangeAt g (o + k * 23) (recL r) ∧ W.rangeAt g2 (o2 + k * 23) (recL s)) = S := ⟨_, rfl⟩
        have C1 : Hid (∀ w', S w' → w'.rangeAt g (o + k * 23) (recL r)) := Lib.hid (fun w' h => by rw [← hS] at h; exact h.1)
        have C2 : Hid (∀ w', S w' → w'.rangeAt g2 (o2 + k * 23) (recL s)) := Lib.hid (fun w' h => by rw [← hS] at h; exact h.2)
        have HSS : Hid (S wr.drew) := Lib.hid (by rw [← hS]; exact ⟨hrg, hrg2⟩)
        clear hS hrg hrg2 hg hg2
        by_cases hrs : r = s
        · have hq : (!decide (r = s)) = false := by rw [decide_eq_true hrs]; rfl
          rw [hq] at q
          have HO3 := Lib.hid (HO2.out hrs)
          clear HO2 HF HO hrs hq
          go_upto_region 6 with fail
          refine wp_region_noPanic ?_
          refine wp_region_held_drew (S := S) (by kernel_rfl) HSS.out (fun hHeld => ?_)
          refine wpAnyH_take (i := 0) (v := ?_) rfl (by kernel_rfl) (by kernel_rfl) (by kernel_rfl) (fun _ _ _ h => h) (Or.inl ⟨by rfl, ?_⟩) (by assumption) ?_
          rotate_left
          · (intro w hSw; go_simp; try (with_reducible rfl))
          try simp only [Act.put, List.getElem_toArray, List.getElem_cons_zero, List.setIfInBounds_toArray, List.set_cons_zero, List.set_cons_succ]
          refine wpAnyH_take (i := 1) (v := ?_) rfl (by kernel_rfl) (by kernel_rfl) (by kernel_rfl) (fun _ _ _ h => h) (Or.inl ⟨by rfl, ?_⟩) (by assumption) ?_
          rotate_left
          · (intro w hSw; go_simp; try (with_reducible rfl))
          try simp only [Act.put, List.getElem_toArray, List.getElem_cons_zero, List.getElem_cons_succ, List.setIfInBounds_toArray, List.set_cons_zero, List.set_cons_succ]
          refine wpAnyH_take (i := 2) (v := ?_) rfl (by kernel_rfl) (by kernel_rfl) (by kernel_rfl) (fun _ _ _ h => h) (Or.inl ⟨by rfl, ?_⟩) (by assumption) ?_
          rotate_left
          · (intro w hSw; go_simp; try (with_reducible rfl))
          try simp only [Act.put, List.getElem_toArray, List.getElem_cons_zero, List.getElem_cons_succ, List.setIfInBounds_toArray, List.set_cons_zero, List.set_cons_succ]
          refine wpAnyH_take (i := 3) rfl (by kernel_rfl) (by kernel_rfl) (by kernel_rfl) (fun _ _ _ h => h) (yields_rec H16 C1 (by rfl) _ rfl rfl) (by assumption) ?_
          try simp only [Act.put, List.getElem_toArray, List.getElem_cons_zero, List.getElem_cons_succ, List.setIfInBounds_toArray, List.set_cons_zero, List.set_cons_succ]
          refine wpAnyH_take (i := 4) (v := ?_) rfl (by kernel_rfl) (by kernel_rfl) (by kernel_rfl) (fun _ _ _ h => h) (Or.inl ⟨by rfl, ?_⟩) (by assumption) ?_
          rotate_left
          · (intro w hSw; go_simp; try (with_reducible rfl))
          try simp only [Act.put, List.getElem_toArray, List.getElem_cons_zero, List.getElem_cons_succ, List.setIfInBounds_toArray, List.set_cons_zero, List.set_cons_succ]
          refine wpAnyH_take (i := 5) (v := ?_) rfl (by kernel_rfl) (by kernel_rfl) (by kernel_rfl) (fun _ _ _ h => h) (Or.inl ⟨by rfl, ?_⟩) (by assumption) ?_
          rotate_left
          · (intro w hSw; go_simp; try (with_reducible rfl))
          try simp only [Act.put, List.getElem_toArray, List.getElem_cons_zero, List.getElem_cons_succ, List.setIfInBounds_toArray, List.set_cons_zero, List.set_cons_succ]
          refine wpAnyH_take (i := 6) (v := ?_) rfl (by kernel_rfl) (by kernel_rfl) (by kernel_rfl) (fun _ _ _ h => h) (Or.inl ⟨by rfl, ?_⟩) (by assumption) ?_
          rotate_left
          · (intro w hSw; go_simp; try (with_reducible rfl))
          try simp only [Act.put, List.getElem_toArray, List.getElem_cons_zero, List.getElem_cons_succ, List.setIfInBounds_toArray, List.set_cons_zero, List.set_cons_succ]
          refine wpAnyH_take (i := 7) rfl (by kernel_rfl) (by kernel_rfl) (by kernel_rfl) (fun _ _ _ h => h) (yields_rec H17 C2 (by rfl) _ rfl rfl) (by assumption) ?_
          try simp only [Act.put, List.getElem_toArray, List.getElem_cons_zero, List.getElem_cons_succ, List.setIfInBounds_toArray, List.set_cons_zero, List.set_cons_succ]
          refine wpAnyH_take (i := 8) (v := ?_) rfl (by kernel_rfl) (by kernel_rfl) (by kernel_rfl) (fun _ _ _ h => h) (Or.inl ⟨by rfl, ?_⟩) (by assumption) ?_
          rotate_left
          · (intro w hSw; go_simp; try (with_reducible rfl))
          try simp only [Act.put, List.getElem_toArray, List.getElem_cons_zero, List.getElem_cons_succ, List.setIfInBounds_toArray, List.set_cons_zero, List.set_cons_succ]
          refine wpAnyH_done (by kernel_rfl) ?_ _
          refine NoPanic.normal ?_
          clear q gd C1 C2 HSS hHeld
          go_wp2_with fail
          go_roundw
          case rel => exact ⟨k + 1, by omega, by go_num, HO3, HBD⟩
          case measure => simp [intOf]; omega
        · have hq : (!decide (r = s)) = true := by rw [decide_eq_false hrs]; rfl
          rw [hq] at q
          have ER := HF.out hrs
          subst ER
          clear HO2 HF HO hrs hq
          go_upto_region 6 with fail
          refine wp_region_noPanic ?_
          refine wp_region_held_drew (S := S) (by kernel_rfl) HSS.out (fun hHeld => ?_)
          refine wpAnyH_take (i := 0) (v := ?_) rfl (by kernel_rfl) (by kernel_rfl) (by kernel_rfl) (fun _ _ _ h => h) (Or.inl ⟨by rfl, ?_⟩) (by assumption) ?_
          rotate_left
          · (intro w hSw; go_simp; try (with_reducible rfl))
          try simp only [Act.put, List.getElem_toArray, List.getElem_cons_zero, List.setIfInBounds_toArray, List.set_cons_zero, List.set_cons_succ]
          refine wpAnyH_take (i := 1) (v := ?_) rfl (by kernel_rfl) (by kernel_rfl) (by kernel_rfl) (fun _ _ _ h => h) (Or.inl ⟨by rfl, ?_⟩) (by assumption) ?_
          rotate_left
          · (intro w hSw; go_simp; try (with_reducible rfl))
          try simp only [Act.put, List.getElem_toArray, List.getElem_cons_zero, List.getElem_cons_succ, List.setIfInBounds_toArray, List.set_cons_zero, List.set_cons_succ]
          refine wpAnyH_take (i := 2) (v := ?_) rfl (by kernel_rfl) (by kernel_rfl) (by kernel_rfl) (fun _ _ _ h => h) (Or.inl ⟨by rfl, ?_⟩) (by assumption) ?_
          rotate_left
          · (intro w hSw; go_simp; try (with_reducible rfl))
          try simp only [Act.put, List.getElem_toArray, List.getElem_cons_zero, List.getElem_cons_succ, List.setIfInBounds_toArray, List.set_cons_zero, List.set_cons_succ]
          refine wpAnyH_take (i := 3) rfl (by kernel_rfl) (by kernel_rfl) (by kernel_rfl) (fun _ _ _ h => h) (yields_rec H16 C1 (by rfl) _ rfl rfl) (by assumption) ?_
          try simp only [Act.put, List.getElem_toArray, List.getElem_cons_zero, List.getElem_cons_succ, List.setIfInBounds_toArray, List.set_cons_zero, List.set_cons_succ]
          refine wpAnyH_take (i := 4) (v := ?_) rfl (by kernel_rfl) (by kernel_rfl) (by kernel_rfl) (fun _ _ _ h => h) (Or.inl ⟨by rfl, ?_⟩) (by assumption) ?_
          rotate_left
          · (intro w hSw; go_simp; try (with_reducible rfl))
          try simp only [Act.put, List.getElem_toArray, List.getElem_cons_zero, List.getElem_cons_succ, List.setIfInBounds_toArray, List.set_cons_zero, List.set_cons_succ]
          refine wpAnyH_take (i := 5) (v := ?_) rfl (by kernel_rfl) (by kernel_rfl) (by kernel_rfl) (fun _ _ _ h => h) (Or.inl ⟨by rfl, ?_⟩) (by assumption) ?_
          rotate_left
          · (intro w hSw; go_simp; try (with_reducible rfl))
          try simp only [Act.put, List.getElem_toArray, List.getElem_cons_zero, List.getElem_cons_succ, List.setIfInBounds_toArray, List.set_cons_zero, List.set_cons_succ]
          refine wpAnyH_take (i := 6) (v := ?_) rfl (by kernel_rfl) (by kernel_rfl) (by kernel_rfl) (fun _ _ _ h => h) (Or.inl ⟨by rfl, ?_⟩) (by assumption) ?_
          rotate_left
          · (intro w hSw; go_simp; try (with_reducible rfl))
          try simp only [Act.put, List.getElem_toArray, List.getElem_cons_zero, List.getElem_cons_succ, List.setIfInBounds_toArray, List.set_cons_zero, List.set_cons_succ]
          refine wpAnyH_take (i := 7) rfl (by kernel_rfl) (by kernel_rfl) (by kernel_rfl) (fun _ _ _ h => h) (yields_rec H17 C2 (by rfl) _ rfl rfl) (by assumption) ?_
          try simp only [Act.put, List.getElem_toArray, List.getElem_cons_zero, List.getElem_cons_succ, List.setIfInBounds_toArray, List.set_cons_zero, List.set_cons_succ]
          refine wpAnyH_take (i := 8) (v := ?_) rfl (by kernel_rfl) (by kernel_rfl) (by kernel_rfl) (fun _ _ _ h => h) (Or.inl ⟨by rfl, ?_⟩) (by assumption) ?_
          rotate_left
          · (intro w hSw; go_simp; try (with_reducible rfl))
          try simp only [Act.put, List.getElem_toArray, List.getElem_cons_zero, List.getElem_cons_succ, List.setIfInBounds_toArray, List.set_cons_zero, List.set_cons_succ]
          refine wpAnyH_done (by kernel_rfl) ?_ _
          refine NoPanic.normal ?_
          clear q gd C1 C2 HSS hHeld
          go_wp2_with fail
          go_ret
          exact ⟨rfl, HBD.out⟩
      · obtain rfl : k = N := by omega
        have hd : decide ((k : Int) < (k : Int)) = false := by simp
        have ER : R = true := by
          rw [← HRR.out]
          refine decide_eq_true (List.ext_getElem (by rw [HN.out, HM.out]) (fun j h1 h2 => HO.out j h1 h2 (by rw [← HN.out]; exact h1)))
        subst ER
        clear HO
        go_wp2_with fail
        go_ret
        exact ⟨rfl, HB.out⟩
  · have hne : ((N : Int) != (M : Int)) = true := by rw [bne_iff_ne]; omega
    have ER : R = false := by
      rw [← HRR.out]
      refine decide_eq_false (fun h => hNM ?_)
      rw [← HN.out, ← HM.out, h]
    subst ER
    go_enter Try.func43, Try.ntmps43
    go_wp2_with fail
    go_ret
    exact ⟨rfl, Below.refl _ _⟩
set_option maxRecDepth 100000 in
set_option maxHeartbeats 1000000 in
theorem equalQ_any (a b : Option Addr) (c d : Nat) (D E : List Qu) (w : World) (hD : QusAt w a c D) (hE : QusAt w b d E) (hl : D.length ≤ 1000000) (hl2 : E.length ≤ 1000000) :
    Calls Try.prog 42 #[.slice a D.length c, .slice b E.length d] w fun e w' => e = .returned (.bool (decide (D = E))) ∧ Below w.heap.size w w' := by
  have HD := Lib.hid hD
  have HE := Lib.hid hE
  obtain ⟨R, hR⟩ : ∃ R, decide (D = E) = R := ⟨_, rfl⟩
  have HRR := Lib.hid hR
  rw [hR]
  obtain ⟨N, hN⟩ : ∃ N, D.length = N := ⟨_, rfl⟩
  obtain ⟨M, hM⟩ : ∃ M, E.length = M := ⟨_, rfl⟩
  have HN := Lib.hid hN
  have HM := Lib.hid hM
  rw [hN] at hl ⊢
  rw [hM] at hl2 ⊢
  clear hD hE hR hN hM
  by_cases hNM : N = M
  · subst hNM
    have hne : ((N : Int) != (N : Int)) = false := by simp
    go_enter Try.func42, Try.ntmps42
    go_wp2_with fail
    go_loopw [13] (fun i wr => ∃ k : Nat, k ≤ N ∧ i = .int .i64 (k : Int) ∧ Hid (∀ j (h : j < D.length) (h2 : j < E.length), j < k → D[j] = E[j]) ∧ Hid (Below w.heap.size w wr)) (fun i _ => N - (intOf i).toNat)
    case atStart => exact ⟨0, Nat.zero_le _, rfl, Lib.hid (fun j _ _ h => absurd h (by omega)), Lib.hid (Below.refl _ _)⟩
    case round =>
      obtain ⟨k, hk, rfl, HO, HB⟩ := hrel
      by_cases hkN : k < N
      · have hd : decide ((k : Int) < (N : Int)) = true := decide_eq_true (by omega)
        have hdn : decide (k < N) = true := decide_eq_true hkN
        have hkD : k < D.length := by rw [HN.out]; exact hkN
        have hkE : k < E.length := by rw [HM.out]; exact hkN
        have HBD := Lib.hid HB.out.drew
        obtain ⟨g, o, ha, hg, hrg⟩ := (HD.out.below HBD.out).range k hkD
        obtain ⟨g2, o2, hb, hg2, hrg2⟩ := (HE.out.below HBD.out).range k hkE
        subst ha
        subst hb
        have q := fun W => run_neq_qu D[k] E[k] W
        have HO2 : Hid (D[k] = E[k] → ∀ j (h : j < D.length) (h2 : j < E.length), j < k + 1 → D[j] = E[j]) := Lib.hid (fun e j h h2 hj => by
          by_cases h3 : j < k
          · exact HO.out j h h2 h3
          · obtain rfl : j = k := by omega
            exact e)
        have HF : Hid (D[k] ≠ E[k] → R = false) := Lib.hid (fun e => by
          rw [← HRR.out]
          refine decide_eq_false (fun h => e ?_)
          subst h
          rfl)
        have gd := guard_qu
        generalize D[k] = r at *
        generalize E[k] = s at *
        have hb1 : (0 : Int) ≤ (k : Int) := by omega
        have hb2 : (k : Int) < (N : Int) := by omega
        obtain ⟨S, hS⟩ : ∃ S : World → Prop, (fun W => W.rangeAt g (o + k * 3) (quL r) ∧ W.rangeAt g2 (o2 + k * 3) (quL s)) = S := ⟨_, rfl⟩
        have C1 : Hid (∀ w', S w' → w'.rangeAt g (o + k * 3) (quL r)) := Lib.hid (fun w' h => by rw [← hS] at h; exact h.1)
        have C2 : Hid (∀ w', S w' → w'.rangeAt g2 (o2 + k * 3) (quL s)) := Lib.hid (fun w' h => by rw [← hS] at h; exact h.2)
        have HSS : Hid (S wr.drew) := Lib.hid (by rw [← hS]; exact ⟨hrg, hrg2⟩)
        clear hS hrg hrg2 hg hg2
        by_cases hrs : r = s
        · have hq : (!decide (r = s)) = false := by rw [decide_eq_true hrs]; rfl
          rw [hq] at q
          have HO3 := Lib.hid (HO2.out hrs)
          clear HO2 HF HO hrs hq
          go_upto_region 6 with fail
          refine wp_region_noPanic ?_
          refine wp_region_held_drew (S := S) (by kernel_rfl) HSS.out (fun hHeld => ?_)
          refine wpAnyH_take (i := 0) (v := ?_) rfl (by kernel_rfl) (by kernel_rfl) (by kernel_rfl) (fun _ _ _ h => h) (Or.inl ⟨by rfl, ?_⟩) (by assumption) ?_
          rotate_left
          · (intro w hSw; go_simp; try (with_reducible rfl))
          try simp only [Act.put, List.getElem_toArray, List.getElem_cons_zero, List.setIfInBounds_toArray, List.set_cons_zero, List.set_cons_succ]
          refine wpAnyH_take (i := 1) (v := ?_) rfl (by kernel_rfl) (by kernel_rfl) (by kernel_rfl) (fun _ _ _ h => h) (Or.inl ⟨by rfl, ?_⟩) (by assumption) ?_
          rotate_left
          · (intro w hSw; go_simp; try (with_reducible rfl))
          try simp only [Act.put, List.getElem_toArray, List.getElem_cons_zero, List.getElem_cons_succ, List.setIfInBounds_toArray, List.set_cons_zero, List.set_cons_succ]
          refine wpAnyH_take (i := 2) (v := ?_) rfl (by kernel_rfl) (by kernel_rfl) (by kernel_rfl) (fun _ _ _ h => h) (Or.inl ⟨by rfl, ?_⟩) (by assumption) ?_
          rotate_left
          · (intro w hSw; go_simp; try (with_reducible rfl))
          try simp only [Act.put, List.getElem_toArray, List.getElem_cons_zero, List.getElem_cons_succ, List.setIfInBounds_toArray, List.set_cons_zero, List.set_cons_succ]
          refine wpAnyH_take (i := 3) rfl (by kernel_rfl) (by kernel_rfl) (by kernel_rfl) (fun _ _ _ h => h) (yields_qu C1 (by rfl) _ rfl rfl) (by assumption) ?_
          try simp only [Act.put, List.getElem_toArray, List.getElem_cons_zero, List.getElem_cons_succ, List.setIfInBounds_toArray, List.set_cons_zero, List.set_cons_succ]
          refine wpAnyH_take (i := 4) (v := ?_) rfl (by kernel_rfl) (by kernel_rfl) (by kernel_rfl) (fun _ _ _ h => h) (Or.inl ⟨by rfl, ?_⟩) (by assumption) ?_
          rotate_left
          · (intro w hSw; go_simp; try (with_reducible rfl))
          try simp only [Act.put, List.getElem_toArray, List.getElem_cons_zero, List.getElem_cons_succ, List.setIfInBounds_toArray, List.set_cons_zero, List.set_cons_succ]
          refine wpAnyH_take (i := 5) (v := ?_) rfl (by kernel_rfl) (by kernel_rfl) (by kernel_rfl) (fun _ _ _ h => h) (Or.inl ⟨by rfl, ?_⟩) (by assumption) ?_
          rotate_left
          · (intro w hSw; go_simp; try (with_reducible rfl))
          try simp only [Act.put, List.getElem_toArray, List.getElem_cons_zero, List.getElem_cons_succ, List.setIfInBounds_toArray, List.set_cons_zero, List.set_cons_succ]
          refine wpAnyH_take (i := 6) (v := ?_) rfl (by kernel_rfl) (by kernel_rfl) (by kernel_rfl) (fun _ _ _ h => h) (Or.inl ⟨by rfl, ?_⟩) (by assumption) ?_
          rotate_left
          · (intro w hSw; go_simp; try (with_reducible rfl))
          try simp only [Act.put, List.getElem_toArray, List.getElem_cons_zero, List.getElem_cons_succ, List.setIfInBounds_toArray, List.set_cons_zero, List.set_cons_succ]
          refine wpAnyH_take (i := 7) rfl (by kernel_rfl) (by kernel_rfl) (by kernel_rfl) (fun _ _ _ h => h) (yields_qu C2 (by rfl) _ rfl rfl) (by assumption) ?_
          try simp only [Act.put, List.getElem_toArray, List.getElem_cons_zero, List.getElem_cons_succ, List.setIfInBounds_toArray, List.set_cons_zero, List.set_cons_succ]
          refine wpAnyH_take (i := 8) (v := ?_) rfl (by kernel_rfl) (by kernel_rfl) (by kernel_rfl) (fun _ _ _ h => h) (Or.inl ⟨by rfl, ?_⟩) (by assumption) ?_
          rotate_left
          · (intro w hSw; go_simp; try (with_reducible rfl))
          try simp only [Act.put, List.getElem_toArray, List.getElem_cons_zero, List.getElem_cons_succ, List.setIfInBounds_toArray, List.set_cons_zero, List.set_cons_succ]
          refine wpAnyH_done (by kernel_rfl) ?_ _
          refine NoPanic.normal ?_
          clear q gd C1 C2 HSS hHeld
          go_wp2_with fail
          go_roundw
          case rel => exact ⟨k + 1, by omega, by go_num, HO3, HBD⟩
          case measure => simp [intOf]; omega
        · have hq : (!decide (r = s)) = true := by rw [decide_eq_false hrs]; rfl
          rw [hq] at q
          have ER := HF.out hrs
          subst ER
          clear HO2 HF HO hrs hq
          go_upto_region 6 with fail
          refine wp_region_noPanic ?_
          refine wp_region_held_drew (S := S) (by kernel_rfl) HSS.out (fun hHeld => ?_)
          refine wpAnyH_take (i := 0) (v := ?_) rfl (by kernel_rfl) (by kernel_rfl) (by kernel_rfl) (fun _ _ _ h => h) (Or.inl ⟨by rfl, ?_⟩) (by assumption) ?_
          rotate_left
          · (intro w hSw; go_simp; try (with_reducible rfl))
          try simp only [Act.put, List.getElem_toArray, List.getElem_cons_zero, List.setIfInBounds_toArray, List.set_cons_zero, List.set_cons_succ]
          refine wpAnyH_take (i := 1) (v := ?_) rfl (by kernel_rfl) (by kernel_rfl) (by kernel_rfl) (fun _ _ _ h => h) (Or.inl ⟨by rfl, ?_⟩) (by assumption) ?_
          rotate_left
          · (intro w hSw; go_simp; try (with_reducible rfl))
          try simp only [Act.put, List.getElem_toArray, List.getElem_cons_zero, List.getElem_cons_succ, List.setIfInBounds_toArray, List.set_cons_zero, List.set_cons_succ]
          refine wpAnyH_take (i := 2) (v := ?_) rfl (by kernel_rfl) (by kernel_rfl) (by kernel_rfl) (fun _ _ _ h => h) (Or.inl ⟨by rfl, ?_⟩) (by assumption) ?_
          rotate_left
          · (intro w hSw; go_simp; try (with_reducible rfl))
          try simp only [Act.put, List.getElem_toArray, List.getElem_cons_zero, List.getElem_cons_succ, List.setIfInBounds_toArray, List.set_cons_zero, List.set_cons_succ]
          refine wpAnyH_take (i := 3) rfl (by kernel_rfl) (by kernel_rfl) (by kernel_rfl) (fun _ _ _ h => h) (yields_qu C1 (by rfl) _ rfl rfl) (by assumption) ?_
          try simp only [Act.put, List.getElem_toArray, List.getElem_cons_zero, List.getElem_cons_succ, List.setIfInBounds_toArray, List.set_cons_zero, List.set_cons_succ]
          refine wpAnyH_take (i := 4) (v := ?_) rfl (by kernel_rfl) (by kernel_rfl) (by kernel_rfl) (fun _ _ _ h => h) (Or.inl ⟨by rfl, ?_⟩) (by assumption) ?_
          rotate_left
          · (intro w hSw; go_simp; try (with_reducible rfl))
          try simp only [Act.put, List.getElem_toArray, List.getElem_cons_zero, List.getElem_cons_succ, List.setIfInBounds_toArray, List.set_cons_zero, List.set_cons_succ]
          refine wpAnyH_take (i := 5) (v := ?_) rfl (by kernel_rfl) (by kernel_rfl) (by kernel_rfl) (fun _ _ _ h => h) (Or.inl ⟨by rfl, ?_⟩) (by assumption) ?_
          rotate_left
          · (intro w hSw; go_simp; try (with_reducible rfl))
          try simp only [Act.put, List.getElem_toArray, List.getElem_cons_zero, List.getElem_cons_succ, List.setIfInBounds_toArray, List.set_cons_zero, List.set_cons_succ]
          refine wpAnyH_take (i := 6) (v := ?_) rfl (by kernel_rfl) (by kernel_rfl) (by kernel_rfl) (fun _ _ _ h => h) (Or.inl ⟨by rfl, ?_⟩) (by assumption) ?_
          rotate_left
          · (intro w hSw; go_simp; try (with_reducible rfl))
          try simp only [Act.put, List.getElem_toArray, List.getElem_cons_zero, List.getElem_cons_succ, List.setIfInBounds_toArray, List.set_cons_zero, List.set_cons_succ]
          refine wpAnyH_take (i := 7) rfl (by kernel_rfl) (by kernel_rfl) (by kernel_rfl) (fun _ _ _ h => h) (yields_qu C2 (by rfl) _ rfl rfl) (by assumption) ?_
          try simp only [Act.put, List.getElem_toArray, List.getElem_cons_zero, List.getElem_cons_succ, List.setIfInBounds_toArray, List.set_cons_zero, List.set_cons_succ]
          refine wpAnyH_take (i := 8) (v := ?_) rfl (by kernel_rfl) (by kernel_rfl) (by kernel_rfl) (fun _ _ _ h => h) (Or.inl ⟨by rfl, ?_⟩) (by assumption) ?_
          rotate_left
          · (intro w hSw; go_simp; try (with_reducible rfl))
          try simp only [Act.put, List.getElem_toArray, List.getElem_cons_zero, List.getElem_cons_succ, List.setIfInBounds_toArray, List.set_cons_zero, List.set_cons_succ]
          refine wpAnyH_done (by kernel_rfl) ?_ _
          refine NoPanic.normal ?_
          clear q gd C1 C2 HSS hHeld
          go_wp2_with fail
          go_ret
          exact ⟨rfl, HBD.out⟩
      · obtain rfl : k = N := by omega
        have hd : decide ((k : Int) < (k : Int)) = false := by simp
        have ER : R = true := by
          rw [← HRR.out]
          refine decide_eq_true (List.ext_getElem (by rw [HN.out, HM.out]) (fun j h1 h2 => HO.out j h1 h2 (by rw [← HN.out]; exact h1)))
        subst ER
        clear HO
        go_wp2_with fail
        go_ret
        exact ⟨rfl, HB.out⟩
  · have hne : ((N : Int) != (M : Int)) = true := by rw [bne_iff_ne]; omega
    have ER : R = false := by
      rw [← HRR.out]
      refine decide_eq_false (fun h => hNM ?_)
      rw [← HN.out, ← HM.out, h]
    subst ER
    go_enter Try.func42, Try.ntmps42
    go_wp2_with fail
    go_ret
    exact ⟨rfl, Below.refl _ _⟩
end Go.Proofs.Yticdpidngmeebaa
/- Contract of the landed wire's Same. -/
namespace Go.Proofs.Yticdpidngmeebaa
open Go.RowKit
set_option linter.unusedVariables false
set_option maxRecDepth 20000

set_option maxRecDepth 100000 in
set_option maxHeartbeats 4000000 in
theorem wireSame_any (m n : Msg) (aq a1 a2 a3 : Option Addr) (cq c1 c2 c3 : Nat) (bq b1 b2 b3 : Option Addr) (dq d1 d2 d3 : Nat) (w : World) (hM : MsgIn w m aq a1 a2 a3 cq c1 c2 c3) (hN : MsgIn w n bq b1 b2 b3 dq d1 d2 d3) (hlm : Lens m) (hln : Lens n) :
    Calls Try.prog 18 #[msgV m aq a1 a2 a3 cq c1 c2 c3, msgV n bq b1 b2 b3 dq d1 d2 d3] w fun e w' => e = .returned (.bool (decide (m = n))) ∧ Below w.heap.size w w' := by
  unfold msgV
  obtain ⟨hl1, hl2, hl3, hl4⟩ := hlm
  obtain ⟨hk1, hk2, hk3, hk4⟩ := hln
  have HA0 := fun W (h : Below w.heap.size w W) => Lib.hid (equalQ_any aq bq cq dq m.qs n.qs W (hM.qs.below h) (hN.qs.below h) hl1 hk1)
  have HA1 := fun W (h : Below w.heap.size w W) => Lib.hid (equalR_any a1 b1 c1 d1 m.an n.an W (hM.an.below h) (hN.an.below h) hl2 hk2)
  have HA2 := fun W (h : Below w.heap.size w W) => Lib.hid (equalR_any a2 b2 c2 d2 m.au n.au W (hM.au.below h) (hN.au.below h) hl3 hk3)
  have HA3 := fun W (h : Below w.heap.size w W) => Lib.hid (equalR_any a3 b3 c3 d3 m.mo n.mo W (hM.mo.below h) (hN.mo.below h) hl4 hk4)
  obtain ⟨R, hR⟩ : ∃ R, decide (m = n) = R := ⟨_, rfl⟩
  have HRM := Lib.hid hR
  rw [hR]
  obtain ⟨i1, f1, q1, x1, y1, z1⟩ := m
  obtain ⟨i2, f2, q2, x2, y2, z2⟩ := n
  simp only at HA0 HA1 HA2 HA3
  have HEQ : Hid (R = (decide (i1 = i2) && decide (f1 = f2) && decide (q1 = q2) && decide (x1 = x2) && decide (y1 = y2) && decide (z1 = z2))) := Lib.hid (by
    rw [← HRM.out, Bool.eq_iff_iff]
    simp only [Msg.mk.injEq, Bool.and_eq_true, decide_eq_true_iff]
    constructor
    · rintro ⟨h1, h2, h3, h4, h5, h6⟩; exact ⟨⟨⟨⟨⟨h1, h2⟩, h3⟩, h4⟩, h5⟩, h6⟩
    · rintro ⟨⟨⟨⟨⟨h1, h2⟩, h3⟩, h4⟩, h5⟩, h6⟩; exact ⟨h1, h2, h3, h4, h5, h6⟩)
  clear hM hN hR HRM hl1 hl2 hl3 hl4 hk1 hk2 hk3 hk4
  obtain ⟨W, hW⟩ : ∃ W, (w.alloc (.cells #[.int .i64 i1, .int .i64 f1, .slice aq q1.length cq, .slice a1 x1.length c1, .slice a2 y1.length c2, .slice a3 z1.length c3] 25)).alloc (.cells #[.int .i64 i2, .int .i64 f2, .slice bq q2.length dq, .slice b1 x2.length d1, .slice b2 y2.length d2, .slice b3 z2.length d3] 25) = W := ⟨_, rfl⟩
  have HB : Hid (Below w.heap.size w W) := Lib.hid (by rw [← hW]; exact ((Below.refl _ _).alloc (Nat.le_refl _) _).alloc (by simp) _)
  have HX : Hid (MBox W w.heap.size (.int .i64 i1) (.int .i64 f1) (.slice aq q1.length cq) (.slice a1 x1.length c1) (.slice a2 y1.length c2) (.slice a3 z1.length c3)) := Lib.hid (by rw [← hW]; exact (MBox.new w _ _ _ _ _ _ _).below ((Below.refl _ _).alloc (Nat.le_refl _) _))
  have HY : Hid (MBox W (w.heap.size + 1) (.int .i64 i2) (.int .i64 f2) (.slice bq q2.length dq) (.slice b1 x2.length d1) (.slice b2 y2.length d2) (.slice b3 z2.length d3)) := Lib.hid (by
    rw [← hW]
    have := MBox.new (w.alloc (.cells #[.int .i64 i1, .int .i64 f1, .slice aq q1.length cq, .slice a1 x1.length c1, .slice a2 y1.length c2, .slice a3 z1.length c3] 25)) 25 (.int .i64 i2) (.int .i64 f2) (.slice bq q2.length dq) (.slice b1 x2.length d1) (.slice b2 y2.length d2) (.slice b3 z2.length d3)
    rw [show (w.alloc (.cells #[.int .i64 i1, .int .i64 f1, .slice aq q1.length cq, .slice a1 x1.length c1, .slice a2 y1.length c2, .slice a3 z1.length c3] 25)).heap.size = w.heap.size + 1 by simp] at this
    exact this)
  generalize q1.length = n10 at *
  generalize q2.length = n20 at *
  generalize x1.length = n1 at *
  generalize y1.length = n2 at *
  generalize z1.length = n3 at *
  generalize x2.length = n4 at *
  generalize y2.length = n5 at *
  generalize z2.length = n6 at *
  generalize decide (q1 = q2) = r0 at *
  generalize decide (x1 = x2) = r1 at *
  generalize decide (y1 = y2) = r2 at *
  generalize decide (z1 = z2) = r3 at *
  have e10 := HX.out.c0
  have e11 := HX.out.c1
  have e12 := HX.out.c2
  have e20 := HY.out.c0
  have e21 := HY.out.c1
  have e22 := HY.out.c2
  go_enter Try.func18, Try.ntmps18
  go_upto_region 1 with fail
  try rw [hW]
  clear hW
  by_cases hi : i1 = i2
  · have hib : (i1 == i2) = true := by rw [hi]; simp
    have hib2 : decide (i1 = i2) = true := decide_eq_true hi
    rw [hib2] at HEQ
    by_cases hf : f1 = f2
    · have hfb : (f1 == f2) = true := by rw [hf]; simp
      have hfb2 : decide (f1 = f2) = true := decide_eq_true hf
      rw [hfb2] at HEQ
      clear hi hf
      go_wp2_with fail
      refine (HA0 _ HB.out).out.mono ?_
      rintro e w2 ⟨rfl, hbx⟩
      replace HB := Lib.hid (chain HB.out hbx)
      replace HX := Lib.hid (HX.out.below hbx)
      replace HY := Lib.hid (HY.out.below hbx)
      clear hbx HA0 e10 e11 e12 e20 e21 e22
      have e13 := HX.out.c3
      have e23 := HY.out.c3
      cases r0 with
      | false =>
        go_wp2_with fail
        go_ret
        exact ⟨by rw [HEQ.out]; rfl, HB.out⟩
      | true =>
      go_wp2_with fail
      refine (HA1 _ HB.out).out.mono ?_
      rintro e w2 ⟨rfl, hbx⟩
      replace HB := Lib.hid (chain HB.out hbx)
      replace HX := Lib.hid (HX.out.below hbx)
      replace HY := Lib.hid (HY.out.below hbx)
      clear hbx HA1 e13 e23
      cases r1 with
      | false =>
        go_wp2_with fail
        go_ret
        exact ⟨by rw [HEQ.out]; rfl, HB.out⟩
      | true =>
        have e14 := HX.out.c4
        have e24 := HY.out.c4
        go_wp2_with fail
        refine (HA2 _ HB.out).out.mono ?_
        rintro e w3 ⟨rfl, hbx⟩
        replace HB := Lib.hid (chain HB.out hbx)
        replace HX := Lib.hid (HX.out.below hbx)
        replace HY := Lib.hid (HY.out.below hbx)
        clear hbx HA2 e14 e24
        cases r2 with
        | false =>
          go_wp2_with fail
          go_ret
          exact ⟨by rw [HEQ.out]; rfl, HB.out⟩
        | true =>
          have e15 := HX.out.c5
          have e25 := HY.out.c5
          go_wp2_with fail
          refine (HA3 _ HB.out).out.mono ?_
          rintro e w4 ⟨rfl, hbx⟩
          replace HB := Lib.hid (chain HB.out hbx)
          clear hbx HA3 e15 e25
          go_wp2_with fail
          go_ret
          exact ⟨by rw [HEQ.out]; rfl, HB.out⟩
    · have hfb : (f1 == f2) = false := by rw [beq_eq_false_iff_ne]; exact hf
      have hfb2 : decide (f1 = f2) = false := decide_eq_false hf
      rw [hfb2] at HEQ
      clear hi hf
      go_wp2_with fail
      go_ret
      exact ⟨by rw [HEQ.out]; rfl, HB.out⟩
  · have hib : (i1 == i2) = false := by rw [beq_eq_false_iff_ne]; exact hi
    have hib2 : decide (i1 = i2) = false := decide_eq_false hi
    rw [hib2] at HEQ
    clear hi
    go_wp2_with fail
    go_ret
    exact ⟨by rw [HEQ.out]; rfl, HB.out⟩
end Go.Proofs.Yticdpidngmeebaa
/- A record of one's own in memory: stored whole and in part, given back. -/
namespace Go.Proofs.Yticdpidngmeebaa
open Go.RowKit
set_option linter.unusedVariables false
set_option maxRecDepth 20000

/-- A record lies at G, and may be written. -/
structure RecAt (w : World) (G : Nat) (r : Rec) : Prop where
  len : r.b.length = 16
  lt : G < w.heap.size
  range : w.rangeAt G 0 (recL r)
  there : w.there G 0 23
section
variable {w w' : World} {G : Nat} {r : Rec}
theorem RecAt.below (h : RecAt w G r) (hb : Below w.heap.size w w') : RecAt w' G r :=
  ⟨h.len, Nat.lt_of_lt_of_le h.lt hb.size, fun j u hu => by rw [hb.cell (p := ⟨G, 0 + j, none⟩) h.lt]; exact h.range j u hu, fun j hj => by
    rw [hb.cell (p := ⟨G, 0 + j, none⟩) h.lt, hb.frozen (p := ⟨G, 0 + j, none⟩) h.lt]
    exact h.there j hj⟩
theorem RecAt.parts (h : RecAt w G r) : RecIn w G 0 r := rec_parts h.range h.len
theorem RecAt.cell (h : RecAt w G r) (k : Nat) (v : Value) (hv : (recL r)[k]? = some v) : w.cell? ⟨G, k, none⟩ = some v := by
  have := h.range k v hv
  rwa [Nat.zero_add] at this
theorem RecAt.live (h : RecAt w G r) (k : Nat) (hk : k < 23) : w.frozen? ⟨G, k, none⟩ = false := by
  have := (h.there k hk).2
  rwa [Nat.zero_add] at this
theorem RecAt.stored (h : RecAt w G r) (s : Rec) (hl : s.b.length = 16) : RecAt (w.setCells G 0 (recL s)) G s := by
  have ht : w.there G 0 (recL s).length := by rw [recL_len s hl]; exact h.there
  exact ⟨hl, by rw [size_setCells]; exact h.lt, World.rangeAt_setCells_same w G 0 _ ht, World.there_setCells h.there G 0 _⟩
theorem RecAt.other (h : RecAt w G r) {G' : Nat} (hG : G' ≠ G) (k : Nat) (v : Value) : RecAt (w.setCell ⟨G', k, none⟩ v) G r := by
  have hn : ∀ j, (⟨G', k, none⟩ : Addr) ≠ ⟨G, j, none⟩ := fun j h2 => by injection h2 with h3 _ _; exact hG h3
  refine ⟨h.len, by simpa using h.lt, fun j u hu => ?_, fun j hj => ⟨?_, ?_⟩⟩
  · rw [World.cell?_setCell_other _ _ _ _ (hn _)]; exact h.range j u hu
  · rw [World.cell?_setCell_other _ _ _ _ (hn _)]; exact (h.there j hj).1
  · rw [World.frozen?_setCell]; exact (h.there j hj).2
theorem RecAt.apart (h : RecAt w G r) {G' o : Nat} (hG : G ≠ G') (vs : List Value) : RecAt (w.setCells G' o vs) G r :=
  ⟨h.len, by rw [size_setCells]; exact h.lt, World.rangeAt_setCells_apart h.range G' o vs (.inl hG), World.there_setCells h.there G' o vs⟩
/-- One cell of it written. -/
theorem RecAt.set (h : RecAt w G r) (k : Nat) (v : Value) (s : Rec) (hs : s.b.length = 16) (hk : k < 23) (hL : recL s = (recL r).set k v) : RecAt (w.setCell ⟨G, k, none⟩ v) G s := by
  have hl := recL_len r h.len
  obtain ⟨u0, hu0⟩ : ∃ u, (recL r)[k]? = some u := ⟨_, List.getElem?_eq_getElem (by omega)⟩
  refine ⟨hs, by simpa using h.lt, fun j u hu => ?_, fun j hj => ⟨?_, ?_⟩⟩
  · rw [Nat.zero_add]
    rw [hL] at hu
    by_cases e : j = k
    · subst e
      rw [List.getElem?_set_self (by omega)] at hu
      cases hu
      exact World.cell?_setCell_same _ _ _ (h.cell j u0 hu0)
    · rw [List.getElem?_set_ne (fun e2 => e e2.symm)] at hu
      rw [World.cell?_setCell_other _ _ _ _ (by intro h2; injection h2 with _ h3 _; omega)]
      exact h.cell j u hu
  · rw [Nat.zero_add]
    by_cases e : j = k
    · subst e
      rw [World.cell?_setCell_same _ _ _ (h.cell j u0 hu0)]
      rfl
    · rw [World.cell?_setCell_other _ _ _ _ (by intro h2; injection h2 with _ h3 _; omega)]
      have := (h.there j hj).1
      rwa [Nat.zero_add] at this
  · rw [World.frozen?_setCell]
    exact (h.there j hj).2
end
theorem recL_ty (r : Rec) (x : Int) : recL { r with ty := x } = (recL r).set 1 (.int .i64 x) := rfl
theorem recL_ttl (r : Rec) (x : Int) : recL { r with ttl := x } = (recL r).set 3 (.int .i64 x) := rfl
theorem recL_fam (r : Rec) (x : Int) : recL { r with f := x } = (recL r).set 4 (.int .i64 x) := rfl
theorem recL_tg (r : Rec) (h16 : r.b.length = 16) (x : ByteArray) : recL { r with tg := x } = (recL r).set 21 (.string x) := by
  have hl := addrL_len r.f r.b h16
  unfold recL
  rw [List.set_append_right _ _ (by simp [hl])]
  simp [hl]
theorem recL_da (r : Rec) (h16 : r.b.length = 16) (x : ByteArray) : recL { r with da := x } = (recL r).set 22 (.string x) := by
  have hl := addrL_len r.f r.b h16
  unfold recL
  rw [List.set_append_right _ _ (by simp [hl])]
  simp [hl]
theorem recL_byte (r : Rec) (h16 : r.b.length = 16) (i v : Nat) (hi : i < 16) : recL { r with b := r.b.set i v } = (recL r).set (5 + i) (.int .u8 (v : Int)) := by
  have hl := addrL_len r.f r.b h16
  unfold recL
  rw [List.set_append_left _ _ (by simp [hl]; omega), List.set_append_right _ _ (by simp; omega)]
  have e : addrL r.f (r.b.set i v) = (addrL r.f r.b).set (i + 1) (.int .u8 (v : Int)) := by
    unfold addrL
    rw [List.set_cons_succ, List.map_set]
  rw [e]
  congr 3
  show i + 1 = 5 + i - 4
  omega
theorem RecAt.of (w : World) (t : TypeId) (cs : Array Value) (r : Rec) (h16 : r.b.length = 16) (h : cs.toList = recL r) : RecAt (w.alloc (.cells cs t)) w.heap.size r := by
  have e : ∀ j, cs[j]? = (recL r)[j]? := fun j => by rw [← h, Array.getElem?_toList]
  refine ⟨h16, by simp, fun j u hu => ?_, fun j hj => ⟨?_, World.frozen?_alloc_new _ _ _ _⟩⟩
  · rw [World.cell?_alloc_new, Nat.zero_add, e]; exact hu
  · rw [World.cell?_alloc_new, Nat.zero_add, e, List.getElem?_eq_getElem (by rw [recL_len r h16]; exact hj)]; rfl
/-- A record of zeros. -/
def zR : Rec := ⟨⟨#[]⟩, 0, 0, 0, 0, List.replicate 16 0, ⟨#[]⟩, ⟨#[]⟩⟩
abbrev zC : Array Value := #[.string ⟨#[]⟩, .int .i64 0, .int .i64 0, .int .i64 0, .int .i64 0, .int .u8 0, .int .u8 0, .int .u8 0, .int .u8 0, .int .u8 0, .int .u8 0, .int .u8 0, .int .u8 0, .int .u8 0, .int .u8 0, .int .u8 0, .int .u8 0, .int .u8 0, .int .u8 0, .int .u8 0, .int .u8 0, .string ⟨#[]⟩, .string ⟨#[]⟩]
theorem rec_zeroed (w : World) : RecAt (w.alloc (.cells zC 42)) w.heap.size zR := RecAt.of w _ _ zR rfl rfl
theorem loadVar_rec {w : World} {G : Nat} {r : Rec} (h : RecAt w G r) : (loadVar 42 ⟨G, 0, none⟩).run Try.prog w = .ok (recV r) w :=
  run_loadVar_mid w G 0 42 (recL r) _ h.range Try.underlying42 rfl (by rw [rec_size, recL_len r h.len])
theorem results_rec {fn : Func} {a : Tmp} {tmps : Array Value} {W : World} {R : Nat} {r : Rec} (h : fn.results = #[.cell a 42]) (ha : tmps.getD a undef = .pointer (some ⟨R, 0, none⟩)) (hA : RecAt W R r) : (results fn tmps).run Try.prog W = .ok (recV r) W := by
  rw [Array.getD_eq_getD_getElem?] at ha
  simp [results, h, ha, asAddr, loadVar_rec hA]
theorem results_rec3 {fn : Func} {a t u : Tmp} {tmps : Array Value} {W : World} {R : Nat} {r : Rec} (h : fn.results = #[.cell a 42, .tmp t, .tmp u]) (ha : tmps.getD a undef = .pointer (some ⟨R, 0, none⟩)) (hA : RecAt W R r) : (results fn tmps).run Try.prog W = .ok (.tuple #[recV r, tmps.getD t undef, tmps.getD u undef]) W := by
  rw [Array.getD_eq_getD_getElem?] at ha
  simp [results, h, ha, asAddr, loadVar_rec hA]
/-- A record, stored whole. -/
theorem store_rec {ops : Array Oper} {rest : List Oper} {op : Oper} {a : Act} {w : World} {Q : Exit → Act → World → Prop} {G : Nat} {r0 r : Rec} (hA : Hid (RecAt w G r0)) (x y : Operand) (hl : Hid (r.b.length = 16)) (hgd : op.guard = none) (ho : op.op = .store 42 x y)
    (hx : a.eval x = .pointer (some ⟨G, 0, none⟩)) (hy : a.eval y = recV r) (h : ∀ W, Hid (W = w.setCells G 0 (recL r)) → Hid (RecAt W G r) → wpList Try.prog ops Q rest (a.put op.dst undef) W) : wpList Try.prog ops Q (op :: rest) a w :=
  wpList_store_mid hgd 42 x y ho G 0 (recL r).toArray hx hy (by rw [List.size_toArray, recL_len r hl.out]; exact hA.out.there) (by rw [rec_size, List.size_toArray, recL_len r hl.out]) (all_oneCell_toArray (recL_one r)) (h _ (Lib.hid rfl) (Lib.hid (hA.out.stored r hl.out)))
theorem load_recAt {ops : Array Oper} {rest : List Oper} {op : Oper} {a : Act} {w : World} {Q : Exit → Act → World → Prop} {G : Nat} {r : Rec} (hA : Hid (RecAt w G r)) (x : Operand) (hw : Region.wanted op (yielded ops a.tmps) = true) (ho : op.op = .load 42 x)
    (hx : a.eval x = .pointer (some ⟨G, 0, none⟩)) (h : wpList Try.prog ops Q rest (a.put op.dst (recV r)) w) : wpList Try.prog ops Q (op :: rest) a w :=
  load_rec (Lib.hid hA.out.len) (Lib.hid hA.out.range) x hw ho hx h
/-- Records built. -/
theorem built_rec0 : Try.prog.built 42 [] = some (recL zR).toArray := rfl
theorem build_rec0 {ops : Array Oper} {rest : List Oper} {op : Oper} {a : Act} {w : World} {Q : Exit → Act → World → Prop} (hg : op.guard = none) (ho : op.op = .build 42 #[])
    (h : wpList Try.prog ops Q rest (a.put op.dst (recV zR)) w) : wpList Try.prog ops Q (op :: rest) a w := by
  have e : Try.prog.built 42 ((#[] : Array (Nat × Operand)).map fun (i, x) => (i, a.eval x)).toList = some (recL zR).toArray := by
    simp only [List.map_toArray, List.map_nil]
    exact built_rec0
  refine wpList_build hg 42 _ ho (by rw [e]; rfl) ?_
  rw [e]
  exact h
theorem built_rec4 (nm : ByteArray) (ty cl ttl : Int) : Try.prog.built 42 [(0, .string nm), (1, .int .i64 ty), (2, .int .i64 cl), (3, .int .i64 ttl)] = some (recL { zR with name := nm, ty := ty, cl := cl, ttl := ttl }).toArray := rfl
theorem build_rec4 {ops : Array Oper} {rest : List Oper} {op : Oper} {a : Act} {w : World} {Q : Exit → Act → World → Prop} {nm : ByteArray} {ty cl ttl : Int} (hg : op.guard = none) (x0 x1 x2 x3 : Operand) (ho : op.op = .build 42 #[(0, x0), (1, x1), (2, x2), (3, x3)])
    (h0 : a.eval x0 = .string nm) (h1 : a.eval x1 = .int .i64 ty) (h2 : a.eval x2 = .int .i64 cl) (h3 : a.eval x3 = .int .i64 ttl) (h : wpList Try.prog ops Q rest (a.put op.dst (recV { zR with name := nm, ty := ty, cl := cl, ttl := ttl })) w) : wpList Try.prog ops Q (op :: rest) a w := by
  have e : Try.prog.built 42 ((#[(0, x0), (1, x1), (2, x2), (3, x3)] : Array (Nat × Operand)).map fun (i, x) => (i, a.eval x)).toList = some (recL { zR with name := nm, ty := ty, cl := cl, ttl := ttl }).toArray := by
    simp only [List.map_toArray, List.map_cons, List.map_nil]
    rw [h0, h1, h2, h3]; exact built_rec4 nm ty cl ttl
  refine wpList_build hg 42 _ ho (by rw [e]; rfl) ?_
  rw [e]
  exact h
end Go.Proofs.Yticdpidngmeebaa
/- Records appended to a row of one's own. -/
namespace Go.Proofs.Yticdpidngmeebaa
open Go.RowKit
set_option linter.unusedVariables false
set_option maxRecDepth 20000

def All16 (D : List Rec) : Prop := ∀ r ∈ D, r.b.length = 16
theorem flatR_len : ∀ (D : List Rec), All16 D → (flatR D).length = D.length * 23
  | [], _ => rfl
  | e :: es, h => by
    have h1 := recL_len e (h e (by simp))
    have h2 := flatR_len es (fun x hx => h x (by simp [hx]))
    show (recL e ++ flatR es).length = _
    rw [List.length_append, h1, h2, List.length_cons]
    omega
theorem flatR_append (xs ys : List Rec) : flatR (xs ++ ys) = flatR xs ++ flatR ys := by simp [flatR]
theorem flatR_one (D : List Rec) : ∀ u ∈ flatR D, u.oneCell' = true := by
  intro u hu
  obtain ⟨e, he, h2⟩ := List.mem_flatMap.1 hu
  exact recL_one e u h2
theorem infoR : (Try.prog.info? 42).map (fun i => (i.zero, i.size, i.bytes)) = some (some (.agg zC), 23, 96) := by kernel_rfl
/-- A row of records of one's own. -/
def RowR (w : World) (base : Nat) (v : Value) (D : List Rec) : Prop := w.ownsRow base 42 23 v D.length (flatR D) ∧ All16 D
theorem RowR.nil (w : World) (base : Nat) : RowR w base (.slice none 0 0) [] := ⟨World.ownsRow_nil _ _ _ _, fun r hr => by cases hr⟩
theorem RowR.below {w w' : World} {base : Nat} {v : Value} {D : List Rec} (h : RowR w base v D) (hb : Below w.heap.size w w') : RowR w' base v D := ⟨own_below8 h.1 hb, h.2⟩
theorem RowR.kept {w w' : World} {base : Nat} {v : Value} {D : List Rec} {row : Option Nat} (h : RowR w base v D) (hg : w.grownBy w' row) (hne : v.ownBlock = none ∨ v.ownBlock ≠ row) : RowR w' base v D := ⟨h.1.kept hg hne, h.2⟩
/-- Records that lie somewhere are appended. -/
theorem append_recs {ops : Array Oper} {rest : List Oper} {op : Oper} {a : Act} {w : World} {Q : Exit → Act → World → Prop} {base : Nat} {v : Value} {D : List Rec} (hE : Hid (RowR w base v D)) (s x : Operand) (hgd : op.guard = none) (ho : op.op = .call { callee := .builtin .append, args := #[s, x], argTypes := #[23, 23] })
    (hs : a.eval s = v) {G o m c : Nat} (ys : List Rec) (hx : a.eval x = .slice (some ⟨G, o, none⟩) m c) (hm : Hid (m = ys.length)) (hr : Hid (w.rangeAt G o (flatR ys))) (hy : Hid (All16 ys)) (hle : Hid (D.length + ys.length ≤ 100000)) (hbase : Hid (base ≤ w.heap.size))
    (h : ∀ v' w', Hid (RowR w' base v' (D ++ ys)) → Hid (w.grownBy w' v.ownBlock) → Hid (v'.ownBlock = v.ownBlock ∨ v'.ownBlock = some w.heap.size) → wpList Try.prog ops Q rest (a.put op.dst v') w') : wpList Try.prog ops Q (op :: rest) a w := by
  obtain ⟨i0, hi0, hz0, hz1, hz2⟩ := info_parts infoR
  have hml := hm.out
  have hll := hle.out
  refine wpList_append_own_at w hgd s x 23 ho base 42 i0 _ 23 96 Try.underlying23 hi0 hz0 hz1 hz2 rfl (by decide) v D.length (flatR D) hs hE.out.1 ⟨G, o, none⟩ m c (flatR ys) hx (by rw [flatR_len ys hy.out, hml]) (fun j u hu => ?_) (flatR_one ys) (by unfold maxLen; omega) (by omega) hbase.out (fun v' w' h1 h2 _ h4 => ?_)
  · have := hr.out j u hu
    have hadd : (⟨G, o, none⟩ : Addr).add j = ⟨G, o + j, none⟩ := by unfold Addr.add; split <;> simp_all
    rw [hadd]
    exact this
  · refine h v' w' (Lib.hid ⟨?_, ?_⟩) (Lib.hid h2) (Lib.hid h4)
    · rw [List.length_append, flatR_append, ← hml]; exact h1
    · intro e he
      rcases List.mem_append.1 he with he | he
      · exact hE.out.2 e he
      · exact hy.out e he
theorem fillR (r : Rec) (h16 : r.b.length = 16) : Instr.fill (fun i => some (i * 23, 23)) ((Array.range (1 * 23)).map fun j => zC[j % zC.size]!) [(0, recV r)] = some (recL r).toArray := by
  obtain ⟨nm, ty, cl, ttl, f, b, tg, da⟩ := r
  obtain ⟨y0, y1, y2, y3, y4, y5, y6, y7, y8, y9, y10, y11, y12, y13, y14, y15, rfl⟩ := list16 b h16
  kernel_rfl
theorem run_buildR (r : Rec) (w : World) (h16 : r.b.length = 16) : (Instr.buildSlice 23 1 #[(0, recV r)]).run Try.prog w = .ok (.slice (some ⟨w.heap.size, 0, none⟩) 1 1) (w.alloc (.cells (recL r).toArray 42)) := by
  obtain ⟨i0, hi0, hz0, hz1, hz2⟩ := info_parts infoR
  have hf := fillR r h16
  obtain ⟨Z, hZ⟩ : ∃ Z : Array Value, zC = Z := ⟨_, rfl⟩
  rw [hZ] at hf hz0
  have hsz : (sizeOf 42).run Try.prog w = .ok 23 w := by simp [sizeOf, typeInfo, hi0, hz1]
  have hzv : (zeroValue 42).run Try.prog w = .ok (.agg Z) w := by simp [zeroValue, typeInfo, hi0, hz0]
  have hnr : ∀ cs : Array Value, (newRow 42 cs).run Try.prog w = .ok ⟨w.heap.size, 0, none⟩ (w.alloc (.cells cs 42)) := fun cs => by simp [newRow]
  have hu : (underlying 23).run Try.prog w = .ok _ w := run_underlying Try.underlying23 w
  have hfc : Instr.fill (fun i => some (i * 23, 23)) ((Array.range (1 * 23)).map fun j => (Value.agg Z).cells[j % (Value.agg Z).cells.size]!) (#[(0, recV r)] : Array (Nat × Value)).toList = some (recL r).toArray := hf
  unfold Instr.buildSlice
  simp only [Sem.run_bind, hu, Result.andThen_ok, hsz, if_neg (show ¬ (1 * 23 > 2 ^ 24) by decide), Sem.run_pure, if_neg (show ¬ (1 * 23 = 0) by decide), hzv, hfc, hnr]
theorem build_recS {ops : Array Oper} {rest : List Oper} {op : Oper} {a : Act} {w : World} {Q : Exit → Act → World → Prop} {r : Rec} (hl : Hid (r.b.length = 16)) (hg : op.guard = none) (x : Operand) (ho : op.op = .buildSlice 23 1 #[(0, x)])
    (hx : a.eval x = recV r) (h : ∀ W, Hid (W = w.alloc (.cells (recL r).toArray 42)) → wpList Try.prog ops Q rest (a.put op.dst (.slice (some ⟨w.heap.size, 0, none⟩) 1 1)) W) : wpList Try.prog ops Q (op :: rest) a w := by
  refine wpList_plain hg fun K hK => ?_
  unfold Oper.wp execOp
  simp only [ho, List.map_toArray, List.map_cons, List.map_nil, hx, Sem.run_bind, run_buildR r w hl.out, Result.andThen_ok]
  exact hK _ _ (h _ (Lib.hid rfl))
theorem built_new {w : World} {cs : List Value} (t : TypeId) : (w.alloc (.cells cs.toArray t)).rangeAt w.heap.size 0 cs := by
  intro j u hu
  rw [World.cell?_alloc_new, Nat.zero_add]
  simpa using hu
end Go.Proofs.Yticdpidngmeebaa
/- Questions appended to a row of one's own. -/
namespace Go.Proofs.Yticdpidngmeebaa
open Go.RowKit
set_option linter.unusedVariables false
set_option maxRecDepth 20000

def flatQ (D : List Qu) : List Value := D.flatMap quL
theorem flatQ_len : ∀ (D : List Qu), (flatQ D).length = D.length * 3
  | [] => rfl
  | e :: es => by
    have h2 := flatQ_len es
    show (quL e ++ flatQ es).length = _
    rw [List.length_append, h2, List.length_cons]
    show 3 + es.length * 3 = _
    omega
theorem flatQ_append (xs ys : List Qu) : flatQ (xs ++ ys) = flatQ xs ++ flatQ ys := by simp [flatQ]
theorem flatQ_one (D : List Qu) : ∀ u ∈ flatQ D, u.oneCell' = true := by
  intro u hu
  obtain ⟨e, he, h2⟩ := List.mem_flatMap.1 hu
  unfold quL at h2
  simp at h2
  rcases h2 with rfl | rfl | rfl <;> rfl
abbrev zQ : Array Value := #[.string ⟨#[]⟩, .int .i64 0, .int .i64 0]
theorem infoQ : (Try.prog.info? 51).map (fun i => (i.zero, i.size, i.bytes)) = some (some (.agg zQ), 3, 32) := by kernel_rfl
/-- A row of questions of one's own. -/
def RowQ (w : World) (base : Nat) (v : Value) (D : List Qu) : Prop := w.ownsRow base 51 3 v D.length (flatQ D)
theorem RowQ.nil (w : World) (base : Nat) : RowQ w base (.slice none 0 0) [] := World.ownsRow_nil _ _ _ _
theorem RowQ.below {w w' : World} {base : Nat} {v : Value} {D : List Qu} (h : RowQ w base v D) (hb : Below w.heap.size w w') : RowQ w' base v D := own_below8 h hb
/-- Questions that lie somewhere are appended. -/
theorem append_qus {ops : Array Oper} {rest : List Oper} {op : Oper} {a : Act} {w : World} {Q : Exit → Act → World → Prop} {base : Nat} {v : Value} {D : List Qu} (hE : Hid (RowQ w base v D)) (s x : Operand) (hgd : op.guard = none) (ho : op.op = .call { callee := .builtin .append, args := #[s, x], argTypes := #[22, 22] })
    (hs : a.eval s = v) {G o m c : Nat} (ys : List Qu) (hx : a.eval x = .slice (some ⟨G, o, none⟩) m c) (hm : Hid (m = ys.length)) (hr : Hid (w.rangeAt G o (flatQ ys))) (hle : Hid (D.length + ys.length ≤ 100000)) (hbase : Hid (base ≤ w.heap.size))
    (h : ∀ v' w', Hid (RowQ w' base v' (D ++ ys)) → Hid (w.grownBy w' v.ownBlock) → Hid (v'.ownBlock = v.ownBlock ∨ v'.ownBlock = some w.heap.size) → wpList Try.prog ops Q rest (a.put op.dst v') w') : wpList Try.prog ops Q (op :: rest) a w := by
  obtain ⟨i0, hi0, hz0, hz1, hz2⟩ := info_parts infoQ
  have hml := hm.out
  have hll := hle.out
  refine wpList_append_own_at w hgd s x 22 ho base 51 i0 _ 3 32 Try.underlying22 hi0 hz0 hz1 hz2 rfl (by decide) v D.length (flatQ D) hs hE.out ⟨G, o, none⟩ m c (flatQ ys) hx (by rw [flatQ_len ys, hml]) (fun j u hu => ?_) (flatQ_one ys) (by unfold maxLen; omega) (by omega) hbase.out (fun v' w' h1 h2 _ h4 => ?_)
  · have := hr.out j u hu
    have hadd : (⟨G, o, none⟩ : Addr).add j = ⟨G, o + j, none⟩ := by unfold Addr.add; split <;> simp_all
    rw [hadd]
    exact this
  · refine h v' w' (Lib.hid ?_) (Lib.hid h2) (Lib.hid h4)
    unfold RowQ
    rw [List.length_append, flatQ_append, ← hml]; exact h1
theorem fillQ (q : Qu) : Instr.fill (fun i => some (i * 3, 3)) ((Array.range (1 * 3)).map fun j => zQ[j % zQ.size]!) [(0, quV q)] = some (quL q).toArray := by
  obtain ⟨nm, ty, cl⟩ := q
  kernel_rfl
theorem run_buildQ (q : Qu) (w : World) : (Instr.buildSlice 22 1 #[(0, quV q)]).run Try.prog w = .ok (.slice (some ⟨w.heap.size, 0, none⟩) 1 1) (w.alloc (.cells (quL q).toArray 51)) := by
  obtain ⟨i0, hi0, hz0, hz1, hz2⟩ := info_parts infoQ
  have hf := fillQ q
  obtain ⟨Z, hZ⟩ : ∃ Z : Array Value, zQ = Z := ⟨_, rfl⟩
  rw [hZ] at hf hz0
  have hsz : (sizeOf 51).run Try.prog w = .ok 3 w := by simp [sizeOf, typeInfo, hi0, hz1]
  have hzv : (zeroValue 51).run Try.prog w = .ok (.agg Z) w := by simp [zeroValue, typeInfo, hi0, hz0]
  have hnr : ∀ cs : Array Value, (newRow 51 cs).run Try.prog w = .ok ⟨w.heap.size, 0, none⟩ (w.alloc (.cells cs 51)) := fun cs => by simp [newRow]
  have hu : (underlying 22).run Try.prog w = .ok _ w := run_underlying Try.underlying22 w
  have hfc : Instr.fill (fun i => some (i * 3, 3)) ((Array.range (1 * 3)).map fun j => (Value.agg Z).cells[j % (Value.agg Z).cells.size]!) (#[(0, quV q)] : Array (Nat × Value)).toList = some (quL q).toArray := hf
  unfold Instr.buildSlice
  simp only [Sem.run_bind, hu, Result.andThen_ok, hsz, if_neg (show ¬ (1 * 3 > 2 ^ 24) by decide), Sem.run_pure, if_neg (show ¬ (1 * 3 = 0) by decide), hzv, hfc, hnr]
theorem build_quS {ops : Array Oper} {rest : List Oper} {op : Oper} {a : Act} {w : World} {Q : Exit → Act → World → Prop} {q : Qu} (hg : op.guard = none) (x : Operand) (ho : op.op = .buildSlice 22 1 #[(0, x)])
    (hx : a.eval x = quV q) (h : ∀ W, Hid (W = w.alloc (.cells (quL q).toArray 51)) → wpList Try.prog ops Q rest (a.put op.dst (.slice (some ⟨w.heap.size, 0, none⟩) 1 1)) W) : wpList Try.prog ops Q (op :: rest) a w := by
  refine wpList_plain hg fun K hK => ?_
  unfold Oper.wp execOp
  simp only [ho, List.map_toArray, List.map_cons, List.map_nil, hx, Sem.run_bind, run_buildQ q w, Result.andThen_ok]
  exact hK _ _ (h _ (Lib.hid rfl))
theorem build_qu3 {ops : Array Oper} {rest : List Oper} {op : Oper} {a : Act} {w : World} {Q : Exit → Act → World → Prop} {nm : ByteArray} {ty cl : Int} (hg : op.guard = none) (x0 x1 x2 : Operand) (ho : op.op = .build 51 #[(0, x0), (1, x1), (2, x2)])
    (h0 : a.eval x0 = .string nm) (h1 : a.eval x1 = .int .i64 ty) (h2 : a.eval x2 = .int .i64 cl) (h : wpList Try.prog ops Q rest (a.put op.dst (quV ⟨nm, ty, cl⟩)) w) : wpList Try.prog ops Q (op :: rest) a w := by
  have e0 : Try.prog.built 51 [(0, .string nm), (1, .int .i64 ty), (2, .int .i64 cl)] = some (quL ⟨nm, ty, cl⟩).toArray := rfl
  have e : Try.prog.built 51 ((#[(0, x0), (1, x1), (2, x2)] : Array (Nat × Operand)).map fun (i, x) => (i, a.eval x)).toList = some (quL ⟨nm, ty, cl⟩).toArray := by
    simp only [List.map_toArray, List.map_cons, List.map_nil]
    rw [h0, h1, h2]; exact e0
  refine wpList_build hg 51 _ ho (by rw [e]; rfl) ?_
  rw [e]
  exact h
end Go.Proofs.Yticdpidngmeebaa
/- A struct of a few cells of one's own in memory: stored whole, loaded whole, given back: messages. -/
namespace Go.Proofs.Yticdpidngmeebaa
open Go.RowKit
set_option linter.unusedVariables false
set_option maxRecDepth 20000

/-- Cells that lie at the head of block G, and may be written. -/
structure CellsAt (w : World) (G : Nat) (vs : List Value) : Prop where
  lt : G < w.heap.size
  range : w.rangeAt G 0 vs
  there : w.there G 0 vs.length
section
variable {w w' : World} {G : Nat} {vs : List Value}
theorem CellsAt.below (h : CellsAt w G vs) (hb : Below w.heap.size w w') : CellsAt w' G vs :=
  ⟨Nat.lt_of_lt_of_le h.lt hb.size, fun j u hu => by rw [hb.cell (p := ⟨G, 0 + j, none⟩) h.lt]; exact h.range j u hu, fun j hj => by
    rw [hb.cell (p := ⟨G, 0 + j, none⟩) h.lt, hb.frozen (p := ⟨G, 0 + j, none⟩) h.lt]
    exact h.there j hj⟩
theorem CellsAt.cell (h : CellsAt w G vs) (k : Nat) (v : Value) (hv : vs[k]? = some v) : w.cell? ⟨G, k, none⟩ = some v := by
  have := h.range k v hv
  rwa [Nat.zero_add] at this
theorem CellsAt.live (h : CellsAt w G vs) (k : Nat) (hk : k < vs.length) : w.frozen? ⟨G, k, none⟩ = false := by
  have := (h.there k hk).2
  rwa [Nat.zero_add] at this
theorem CellsAt.stored (h : CellsAt w G vs) (us : List Value) (hl : us.length = vs.length) : CellsAt (w.setCells G 0 us) G us := by
  have ht : w.there G 0 us.length := by rw [hl]; exact h.there
  exact ⟨by rw [size_setCells]; exact h.lt, World.rangeAt_setCells_same w G 0 _ ht, World.there_setCells (by rw [hl]; exact h.there) G 0 _⟩
theorem CellsAt.new (w : World) (t : TypeId) (vs : List Value) : CellsAt (w.alloc (.cells vs.toArray t)) w.heap.size vs := by
  have e : ∀ j, vs.toArray[j]? = vs[j]? := fun j => by rw [List.getElem?_toArray]
  refine ⟨by simp, fun j u hu => ?_, fun j hj => ⟨?_, World.frozen?_alloc_new _ _ _ _⟩⟩
  · rw [World.cell?_alloc_new, Nat.zero_add, e]; exact hu
  · rw [World.cell?_alloc_new, Nat.zero_add, e, List.getElem?_eq_getElem hj]; rfl
theorem CellsAt.set (h : CellsAt w G vs) (k : Nat) (v : Value) (hk : k < vs.length) : CellsAt (w.setCell ⟨G, k, none⟩ v) G (vs.set k v) := by
  obtain ⟨u0, hu0⟩ : ∃ u, vs[k]? = some u := ⟨_, List.getElem?_eq_getElem hk⟩
  refine ⟨by simpa using h.lt, fun j u hu => ?_, fun j hj => ⟨?_, ?_⟩⟩
  · rw [Nat.zero_add]
    by_cases e : j = k
    · subst e
      rw [List.getElem?_set_self hk] at hu
      cases hu
      exact World.cell?_setCell_same _ _ _ (h.cell j u0 hu0)
    · rw [List.getElem?_set_ne (fun e2 => e e2.symm)] at hu
      rw [World.cell?_setCell_other _ _ _ _ (by intro h2; injection h2 with _ h3 _; omega)]
      exact h.cell j u hu
  · rw [Nat.zero_add]
    rw [List.length_set] at hj
    by_cases e : j = k
    · subst e
      rw [World.cell?_setCell_same _ _ _ (h.cell j u0 hu0)]
      rfl
    · rw [World.cell?_setCell_other _ _ _ _ (by intro h2; injection h2 with _ h3 _; omega)]
      have := (h.there j hj).1
      rwa [Nat.zero_add] at this
  · rw [World.frozen?_setCell]
    rw [List.length_set] at hj
    exact (h.there j hj).2
theorem CellsAt.other (h : CellsAt w G vs) {G' : Nat} (hG : G' ≠ G) (k : Nat) (v : Value) : CellsAt (w.setCell ⟨G', k, none⟩ v) G vs := by
  have hn : ∀ j, (⟨G', k, none⟩ : Addr) ≠ ⟨G, j, none⟩ := fun j h2 => by injection h2 with h3 _ _; exact hG h3
  refine ⟨by simpa using h.lt, fun j u hu => ?_, fun j hj => ⟨?_, ?_⟩⟩
  · rw [World.cell?_setCell_other _ _ _ _ (hn _)]; exact h.range j u hu
  · rw [World.cell?_setCell_other _ _ _ _ (hn _)]; exact (h.there j hj).1
  · rw [World.frozen?_setCell]; exact (h.there j hj).2
theorem CellsAt.apart (h : CellsAt w G vs) {G' o : Nat} (hG : G ≠ G') (us : List Value) : CellsAt (w.setCells G' o us) G vs :=
  ⟨by rw [size_setCells]; exact h.lt, World.rangeAt_setCells_apart h.range G' o us (.inl hG), World.there_setCells h.there G' o us⟩
theorem CellsAt.mbox {v0 v1 v2 v3 v4 v5 : Value} (h : CellsAt w G [v0, v1, v2, v3, v4, v5]) : MBox w G v0 v1 v2 v3 v4 v5 := ⟨h.cell 0 _ rfl, h.cell 1 _ rfl, h.cell 2 _ rfl, h.cell 3 _ rfl, h.cell 4 _ rfl, h.cell 5 _ rfl⟩
end
theorem msg_size : (Try.prog.info? 25).map (·.size) = some 6 := by kernel_rfl
/-- A message of zeros. -/
abbrev zM : List Value := [.int .i64 0, .int .i64 0, .slice none 0 0, .slice none 0 0, .slice none 0 0, .slice none 0 0]
theorem loadVar_msg {w : World} {G : Nat} {vs : List Value} (h : CellsAt w G vs) (hl : vs.length = 6) : (loadVar 25 ⟨G, 0, none⟩).run Try.prog w = .ok (.agg vs.toArray) w :=
  run_loadVar_mid w G 0 25 vs _ h.range Try.underlying25 rfl (by rw [msg_size, hl])
theorem results_msg {fn : Func} {a : Tmp} {tmps : Array Value} {W : World} {R : Nat} {vs : List Value} (h : fn.results = #[.cell a 25]) (ha : tmps.getD a undef = .pointer (some ⟨R, 0, none⟩)) (hA : CellsAt W R vs) (hl : vs.length = 6) : (results fn tmps).run Try.prog W = .ok (.agg vs.toArray) W := by
  rw [Array.getD_eq_getD_getElem?] at ha
  simp [results, h, ha, asAddr, loadVar_msg hA hl]
theorem results_msg2 {fn : Func} {a t : Tmp} {tmps : Array Value} {W : World} {R : Nat} {vs : List Value} (h : fn.results = #[.cell a 25, .tmp t]) (ha : tmps.getD a undef = .pointer (some ⟨R, 0, none⟩)) (hA : CellsAt W R vs) (hl : vs.length = 6) : (results fn tmps).run Try.prog W = .ok (.tuple #[.agg vs.toArray, tmps.getD t undef]) W := by
  rw [Array.getD_eq_getD_getElem?] at ha
  simp [results, h, ha, asAddr, loadVar_msg hA hl]
/-- A message, stored whole. -/
theorem store_msg {ops : Array Oper} {rest : List Oper} {op : Oper} {a : Act} {w : World} {Q : Exit → Act → World → Prop} {G : Nat} {us vs : List Value} (hA : Hid (CellsAt w G us)) (hu : us.length = 6) (x y : Operand) (hgd : op.guard = none) (ho : op.op = .store 25 x y)
    (hx : a.eval x = .pointer (some ⟨G, 0, none⟩)) (hy : a.eval y = .agg vs.toArray) (hl : vs.length = 6) (h1 : vs.all (fun u => u.oneCell') = true) (h : ∀ W, Hid (W = w.setCells G 0 vs) → Hid (CellsAt W G vs) → wpList Try.prog ops Q rest (a.put op.dst undef) W) : wpList Try.prog ops Q (op :: rest) a w :=
  wpList_store_mid hgd 25 x y ho G 0 vs.toArray hx hy (by rw [List.size_toArray, hl, ← hu]; exact hA.out.there) (by rw [msg_size, List.size_toArray, hl]) (all_oneCell_toArray (List.all_eq_true.1 h1)) (h _ (Lib.hid rfl) (Lib.hid (hA.out.stored vs (hl.trans hu.symm))))
theorem load_msg {ops : Array Oper} {rest : List Oper} {op : Oper} {a : Act} {w : World} {Q : Exit → Act → World → Prop} {G : Nat} {vs : List Value} (hA : Hid (CellsAt w G vs)) (hl : vs.length = 6) (x : Operand) (hw : Region.wanted op (yielded ops a.tmps) = true) (ho : op.op = .load 25 x)
    (hx : a.eval x = .pointer (some ⟨G, 0, none⟩)) (h : wpList Try.prog ops Q rest (a.put op.dst (.agg vs.toArray)) w) : wpList Try.prog ops Q (op :: rest) a w :=
  wpList_load_row hw 25 x ho G 0 hx vs _ hA.out.range Try.underlying25 rfl (by rw [msg_size, hl]) h
/-- A row of one's own, where it lies. -/
theorem own_range {w : World} {base : Nat} {t : TypeId} {z : Nat} {v : Value} {n : Nat} {xs : List Value} (h : w.ownsRow base t z v n xs) : ∃ ad c, v = .slice ad n c ∧ n ≤ c ∧ c ≤ maxLen ∧ (n = 0 ∨ ∃ g, ad = some ⟨g, 0, none⟩ ∧ g < w.heap.size ∧ w.rangeAt g 0 xs) := by
  rcases h.2 with ⟨rfl, e⟩ | ⟨g, cap, cur, rfl, hg, hc, h1, h2, _⟩
  · exact ⟨none, 0, by rw [e], by omega, Nat.zero_le _, .inl e⟩
  · refine ⟨_, _, rfl, h1, h2, .inr ⟨g, rfl, (Array.getElem?_eq_some_iff.1 hc).1, fun j u hu => ?_⟩⟩
    have := h.cells (g := g) rfl j u hu
    have hadd : (⟨g, 0, none⟩ : Addr).add j = ⟨g, 0 + j, none⟩ := by unfold Addr.add; split <;> simp_all
    rw [hadd] at this
    exact this
theorem RowR.recs {w : World} {base : Nat} {v : Value} {D : List Rec} (h : RowR w base v D) (hf : ∀ r ∈ D, Fit r) : ∃ ad c, v = .slice ad D.length c ∧ RecsAt w ad c D := by
  obtain ⟨ad, c, e, h1, h2, h3⟩ := own_range h.1
  refine ⟨ad, c, e, h1, h2, hf, ?_⟩
  rcases h3 with h3 | ⟨g, e, hg, hr⟩
  · exact .inl h3
  · exact .inr ⟨g, 0, e, hg, hr⟩
theorem RowQ.qus {w : World} {base : Nat} {v : Value} {D : List Qu} (h : RowQ w base v D) (hf : ∀ r ∈ D, FitQ r) : ∃ ad c, v = .slice ad D.length c ∧ QusAt w ad c D := by
  obtain ⟨ad, c, e, h1, h2, h3⟩ := own_range h
  refine ⟨ad, c, e, h1, h2, hf, ?_⟩
  rcases h3 with h3 | ⟨g, e, hg, hr⟩
  · exact .inl h3
  · exact .inr ⟨g, 0, e, hg, hr⟩
theorem RecsAt.none0 (w : World) : RecsAt w none 0 [] := ⟨Nat.le_refl _, Nat.zero_le _, (fun r (hr : r ∈ []) => absurd hr (by simp)), Or.inl rfl⟩
theorem QusAt.none0 (w : World) : QusAt w none 0 [] := ⟨Nat.le_refl _, Nat.zero_le _, (fun r (hr : r ∈ []) => absurd hr (by simp)), Or.inl rfl⟩
theorem QusAt.new1 {w : World} {q : Qu} (hf : FitQ q) (t : TypeId) : QusAt (w.alloc (.cells (quL q).toArray t)) (some ⟨w.heap.size, 0, none⟩) 1 [q] :=
  ⟨Nat.le_refl _, by decide, (fun x hx => by rw [List.mem_singleton.1 hx]; exact hf), Or.inr ⟨_, 0, rfl, by simp, by
    have := built_new (w := w) (cs := quL q) t
    simpa using this⟩⟩
theorem append_qusA {ops : Array Oper} {rest : List Oper} {op : Oper} {a : Act} {w : World} {Q : Exit → Act → World → Prop} {base : Nat} {v : Value} {D : List Qu} (hE : Hid (RowQ w base v D)) (s x : Operand) (hgd : op.guard = none) (ho : op.op = .call { callee := .builtin .append, args := #[s, x], argTypes := #[22, 22] })
    (hs : a.eval s = v) {m c : Nat} {y : Addr} (ys : List Qu) (hx : a.eval x = .slice (some y) m c) (hm : Hid (m = ys.length)) (hr : Hid (∀ j u, (flatQ ys)[j]? = some u → w.cell? (y.add j) = some u)) (hle : Hid (D.length + ys.length ≤ 100000)) (hbase : Hid (base ≤ w.heap.size))
    (h : ∀ v' w', Hid (RowQ w' base v' (D ++ ys)) → Hid (w.grownBy w' v.ownBlock) → Hid (v'.ownBlock = v.ownBlock ∨ v'.ownBlock = some w.heap.size) → wpList Try.prog ops Q rest (a.put op.dst v') w') : wpList Try.prog ops Q (op :: rest) a w := by
  obtain ⟨i0, hi0, hz0, hz1, hz2⟩ := info_parts infoQ
  have hml := hm.out
  have hll := hle.out
  refine wpList_append_own_at w hgd s x 22 ho base 51 i0 _ 3 32 Try.underlying22 hi0 hz0 hz1 hz2 rfl (by decide) v D.length (flatQ D) hs hE.out y m c (flatQ ys) hx (by rw [flatQ_len ys, hml]) (fun j u hu => ?_) (flatQ_one ys) (by unfold maxLen; omega) (by omega) hbase.out (fun v' w' h1 h2 _ h4 => ?_)
  · exact hr.out j u hu
  · refine h v' w' (Lib.hid ?_) (Lib.hid h2) (Lib.hid h4)
    unfold RowQ
    rw [List.length_append, flatQ_append, ← hml]; exact h1
theorem append_recsA {ops : Array Oper} {rest : List Oper} {op : Oper} {a : Act} {w : World} {Q : Exit → Act → World → Prop} {base : Nat} {v : Value} {D : List Rec} (hE : Hid (RowR w base v D)) (s x : Operand) (hgd : op.guard = none) (ho : op.op = .call { callee := .builtin .append, args := #[s, x], argTypes := #[23, 23] })
    (hs : a.eval s = v) {m c : Nat} {y : Addr} (ys : List Rec) (hx : a.eval x = .slice (some y) m c) (hm : Hid (m = ys.length)) (hr : Hid (∀ j u, (flatR ys)[j]? = some u → w.cell? (y.add j) = some u)) (hy : Hid (All16 ys)) (hle : Hid (D.length + ys.length ≤ 100000)) (hbase : Hid (base ≤ w.heap.size))
    (h : ∀ v' w', Hid (RowR w' base v' (D ++ ys)) → Hid (w.grownBy w' v.ownBlock) → Hid (v'.ownBlock = v.ownBlock ∨ v'.ownBlock = some w.heap.size) → wpList Try.prog ops Q rest (a.put op.dst v') w') : wpList Try.prog ops Q (op :: rest) a w := by
  obtain ⟨i0, hi0, hz0, hz1, hz2⟩ := info_parts infoR
  have hml := hm.out
  have hll := hle.out
  refine wpList_append_own_at w hgd s x 23 ho base 42 i0 _ 23 96 Try.underlying23 hi0 hz0 hz1 hz2 rfl (by decide) v D.length (flatR D) hs hE.out.1 y m c (flatR ys) hx (by rw [flatR_len ys hy.out, hml]) (fun j u hu => ?_) (flatR_one ys) (by unfold maxLen; omega) (by omega) hbase.out (fun v' w' h1 h2 _ h4 => ?_)
  · exact hr.out j u hu
  · refine h v' w' (Lib.hid ⟨?_, ?_⟩) (Lib.hid h2) (Lib.hid h4)
    · rw [List.length_append, flatR_append, ← hml]; exact h1
    · intro e he
      rcases List.mem_append.1 he with he | he
      · exact hE.out.2 e he
      · exact hy.out e he
/-- Rows that came in, cell by cell; they are none's, or nothing lies in them. -/
theorem QusAt.row {w : World} {a : Option Addr} {cap : Nat} {D : List Qu} (h : QusAt w a cap D) : (a = none ∧ D = []) ∨ ∃ y, a = some y ∧ ∀ j u, (flatQ D)[j]? = some u → w.cell? (y.add j) = some u := by
  obtain ⟨h1, h2, h3, h4⟩ := h
  rcases h4 with h4 | ⟨g, o, e, hg, hr⟩
  · have := List.eq_nil_of_length_eq_zero h4
    subst this
    cases a with
    | none => exact .inl ⟨rfl, rfl⟩
    | some y => exact .inr ⟨y, rfl, fun j u hu => by simp [flatQ] at hu⟩
  · refine .inr ⟨_, e, fun j u hu => ?_⟩
    have hadd : (⟨g, o, none⟩ : Addr).add j = ⟨g, o + j, none⟩ := by unfold Addr.add; split <;> simp_all
    rw [hadd]
    exact hr j u hu
theorem RecsAt.row {w : World} {a : Option Addr} {cap : Nat} {D : List Rec} (h : RecsAt w a cap D) : (a = none ∧ D = []) ∨ ∃ y, a = some y ∧ ∀ j u, (flatR D)[j]? = some u → w.cell? (y.add j) = some u := by
  obtain ⟨h1, h2, h3, h4⟩ := h
  rcases h4 with h4 | ⟨g, o, e, hg, hr⟩
  · have := List.eq_nil_of_length_eq_zero h4
    subst this
    cases a with
    | none => exact .inl ⟨rfl, rfl⟩
    | some y => exact .inr ⟨y, rfl, fun j u hu => by simp [flatR] at hu⟩
  · refine .inr ⟨_, e, fun j u hu => ?_⟩
    have hadd : (⟨g, o, none⟩ : Addr).add j = ⟨g, o + j, none⟩ := by unfold Addr.add; split <;> simp_all
    rw [hadd]
    exact hr j u hu
theorem QusAt.apart {w : World} {a : Option Addr} {cap : Nat} {D : List Qu} (h : QusAt w a cap D) {G : Nat} (hG : ∀ x, a = some x → x.block ≠ G) (o : Nat) (us : List Value) : QusAt (w.setCells G o us) a cap D := by
  obtain ⟨h1, h2, h3, h4⟩ := h
  refine ⟨h1, h2, h3, ?_⟩
  rcases h4 with h4 | ⟨g, o2, e, hg, hr⟩
  · exact .inl h4
  · exact .inr ⟨g, o2, e, by rw [size_setCells]; exact hg, World.rangeAt_setCells_apart hr G o us (.inl (hG _ e))⟩
theorem RecsAt.apart {w : World} {a : Option Addr} {cap : Nat} {D : List Rec} (h : RecsAt w a cap D) {G : Nat} (hG : ∀ x, a = some x → x.block ≠ G) (o : Nat) (us : List Value) : RecsAt (w.setCells G o us) a cap D := by
  obtain ⟨h1, h2, h3, h4⟩ := h
  refine ⟨h1, h2, h3, ?_⟩
  rcases h4 with h4 | ⟨g, o2, e, hg, hr⟩
  · exact .inl h4
  · exact .inr ⟨g, o2, e, by rw [size_setCells]; exact hg, World.rangeAt_setCells_apart hr G o us (.inl (hG _ e))⟩
theorem run_build0Q (w : World) : (Instr.buildSlice 22 0 #[]).run Try.prog w = .ok (.slice (some ⟨w.heap.size, 0, none⟩) 0 0) (w.alloc (.cells #[] 51)) := by
  have hu : (underlying 22).run Try.prog w = .ok _ w := run_underlying Try.underlying22 w
  have hnr : ∀ cs : Array Value, (newRow 51 cs).run Try.prog w = .ok ⟨w.heap.size, 0, none⟩ (w.alloc (.cells cs 51)) := fun cs => by simp [newRow]
  unfold Instr.buildSlice
  simp [Sem.run_bind, hu, hnr, Instr.fill]
  rw [show Array.map (fun _ => (default : Value)) (Array.range 0) = #[] from Array.eq_empty_of_size_eq_zero (by simp)]
theorem build_step0Q {ops : Array Oper} {rest : List Oper} {op : Oper} {a : Act} {w : World} {Q : Exit → Act → World → Prop} (hg : op.guard = none) (ho : op.op = .buildSlice 22 0 #[])
    (h : ∀ W, Hid (W = w.alloc (.cells #[] 51)) → wpList Try.prog ops Q rest (a.put op.dst (.slice (some ⟨w.heap.size, 0, none⟩) 0 0)) W) : wpList Try.prog ops Q (op :: rest) a w := by
  refine wpList_plain hg fun K hK => ?_
  unfold Oper.wp execOp
  simp only [ho, List.map_toArray, List.map_nil, Sem.run_bind, run_build0Q w, Result.andThen_ok]
  exact hK _ _ (h _ (Lib.hid rfl))
theorem own_emptyQ (w : World) : (w.alloc (.cells #[] 51)).ownsRow w.heap.size 51 3 (.slice (some ⟨w.heap.size, 0, none⟩) 0 0) 0 [] :=
  ⟨rfl, .inr ⟨w.heap.size, 0, #[], rfl, Nat.le_refl _, by show (w.heap.push _)[w.heap.size]? = _; simp, Nat.le_refl _, Nat.zero_le _, rfl, rfl⟩⟩
theorem run_build0R (w : World) : (Instr.buildSlice 23 0 #[]).run Try.prog w = .ok (.slice (some ⟨w.heap.size, 0, none⟩) 0 0) (w.alloc (.cells #[] 42)) := by
  have hu : (underlying 23).run Try.prog w = .ok _ w := run_underlying Try.underlying23 w
  have hnr : ∀ cs : Array Value, (newRow 42 cs).run Try.prog w = .ok ⟨w.heap.size, 0, none⟩ (w.alloc (.cells cs 42)) := fun cs => by simp [newRow]
  unfold Instr.buildSlice
  simp [Sem.run_bind, hu, hnr, Instr.fill]
  rw [show Array.map (fun _ => (default : Value)) (Array.range 0) = #[] from Array.eq_empty_of_size_eq_zero (by simp)]
theorem build_step0R {ops : Array Oper} {rest : List Oper} {op : Oper} {a : Act} {w : World} {Q : Exit → Act → World → Prop} (hg : op.guard = none) (ho : op.op = .buildSlice 23 0 #[])
    (h : ∀ W, Hid (W = w.alloc (.cells #[] 42)) → wpList Try.prog ops Q rest (a.put op.dst (.slice (some ⟨w.heap.size, 0, none⟩) 0 0)) W) : wpList Try.prog ops Q (op :: rest) a w := by
  refine wpList_plain hg fun K hK => ?_
  unfold Oper.wp execOp
  simp only [ho, List.map_toArray, List.map_nil, Sem.run_bind, run_build0R w, Result.andThen_ok]
  exact hK _ _ (h _ (Lib.hid rfl))
theorem own_emptyR (w : World) : (w.alloc (.cells #[] 42)).ownsRow w.heap.size 42 23 (.slice (some ⟨w.heap.size, 0, none⟩) 0 0) 0 [] :=
  ⟨rfl, .inr ⟨w.heap.size, 0, #[], rfl, Nat.le_refl _, by show (w.heap.push _)[w.heap.size]? = _; simp, Nat.le_refl _, Nat.zero_le _, rfl, rfl⟩⟩
theorem setCells_block (b : Nat) : ∀ (vs : List Value) (o : Nat) (w : World) (k : Nat), k ≠ b → (w.setCells b o vs).heap[k]? = w.heap[k]?
  | [], _, _, _, _ => rfl
  | v :: r, o, w, k, h => by rw [World.setCells, setCells_block b r _ _ k h, heap_setCell_other _ _ _ _ h]
/-- A row of one's own is left by a store elsewhere. -/
theorem row_apart {w : World} {b G o : Nat} {t : TypeId} {z n : Nat} {v : Value} {xs us : List Value} (h : w.ownsRow b t z v n xs) (hb : G < b) : (w.setCells G o us).ownsRow b t z v n xs := by
  refine own_kept h (fun g hg => ?_)
  have := (h.lt g hg).1
  exact setCells_block _ _ _ _ _ (by omega)
theorem wp_store_msg {op : Oper} {a : Act} {w : World} {K : Act → World → Prop} {Q : Exit → Act → World → Prop} {G : Nat} {us vs : List Value} (hA : Hid (CellsAt w G us)) (hu : us.length = 6) (x y : Operand) (ho : op.op = .store 25 x y)
    (hx : a.eval x = .pointer (some ⟨G, 0, none⟩)) (hy : a.eval y = .agg vs.toArray) (hl : vs.length = 6) (h1 : vs.all (fun u => u.oneCell') = true) (h : ∀ W, Hid (W = w.setCells G 0 vs) → Hid (CellsAt W G vs) → K (a.put op.dst undef) W) : op.wp Try.prog a w K Q :=
  wp_store_mid 25 x y ho G 0 vs.toArray hx hy (by rw [List.size_toArray, hl, ← hu]; exact hA.out.there) (by rw [msg_size, List.size_toArray, hl]) (all_oneCell_toArray (List.all_eq_true.1 h1)) (h _ (Lib.hid rfl) (Lib.hid (hA.out.stored vs (hl.trans hu.symm))))
theorem MBox.apart {w : World} {G R o : Nat} {v0 v1 v2 v3 v4 v5 : Value} (h : MBox w G v0 v1 v2 v3 v4 v5) (hn : G ≠ R) (us : List Value) : MBox (w.setCells R o us) G v0 v1 v2 v3 v4 v5 := by
  have e : ∀ k, (w.setCells R o us).cell? ⟨G, k, none⟩ = w.cell? ⟨G, k, none⟩ := fun k => World.cell?_of_block (a := ⟨G, k, none⟩) (setCells_block _ _ _ _ _ hn)
  exact ⟨(e 0).trans h.c0, (e 1).trans h.c1, (e 2).trans h.c2, (e 3).trans h.c3, (e 4).trans h.c4, (e 5).trans h.c5⟩
theorem own_oneCell {w : World} {b : Nat} {t : TypeId} {z n : Nat} {v : Value} {xs : List Value} (h : w.ownsRow b t z v n xs) : v.oneCell' = true := by
  rcases h.2 with ⟨rfl, _⟩ | ⟨g, cap, cur, rfl, _⟩ <;> rfl
theorem RecsAt.take {w : World} {a : Option Addr} {cap : Nat} {D : List Rec} (h : RecsAt w a cap D) (k : Nat) : RecsAt w a cap (D.take k) := by
  obtain ⟨h1, h2, h3, h4⟩ := h
  refine ⟨by rw [List.length_take]; omega, h2, fun r hr => h3 r (List.mem_of_mem_take hr), ?_⟩
  rcases h4 with h4 | ⟨g, o, e, hg, hr⟩
  · exact .inl (by rw [List.length_take]; omega)
  · refine .inr ⟨g, o, e, hg, fun j u hu => hr j u ?_⟩
    have e : flatR D = flatR (D.take k) ++ flatR (D.drop k) := by rw [← flatR_append, List.take_append_drop]
    rw [e, List.getElem?_append_left (by have := (List.getElem?_eq_some_iff.1 hu).1; exact this)]
    exact hu
theorem QusAt.take {w : World} {a : Option Addr} {cap : Nat} {D : List Qu} (h : QusAt w a cap D) (k : Nat) : QusAt w a cap (D.take k) := by
  obtain ⟨h1, h2, h3, h4⟩ := h
  refine ⟨by rw [List.length_take]; omega, h2, fun r hr => h3 r (List.mem_of_mem_take hr), ?_⟩
  rcases h4 with h4 | ⟨g, o, e, hg, hr⟩
  · exact .inl (by rw [List.length_take]; omega)
  · refine .inr ⟨g, o, e, hg, fun j u hu => hr j u ?_⟩
    have e : flatQ D = flatQ (D.take k) ++ flatQ (D.drop k) := by rw [← flatQ_append, List.take_append_drop]
    show (flatQ D)[j]? = some u
    rw [e, List.getElem?_append_left (by have := (List.getElem?_eq_some_iff.1 hu).1; exact this)]
    exact hu
/-- A message's value, as six cells of which nothing more is seen. -/
theorem msg_row (m : Msg) (aq a1 a2 a3 : Option Addr) (cq c1 c2 c3 : Nat) : ∃ vs : List Value, msgV m aq a1 a2 a3 cq c1 c2 c3 = .agg vs.toArray ∧ vs.length = 6 ∧ vs.all (fun u => u.oneCell') = true := ⟨_, rfl, rfl, rfl⟩
theorem yields_msg {ops : Array Oper} {op : Oper} {a : Act} {L : List (Nat × Nat × List Value)} {W : World} {G : Nat} {vs : List Value} (hm : Hid ((G, 0, vs) ∈ L ∧ vs.length = 6)) (hw : Region.wanted op (yielded ops a.tmps) = true) (x : Operand) (ho : op.op = .load 25 x)
    (hx : a.eval x = .pointer (some ⟨G, 0, none⟩)) : YieldsIf Try.prog ops (HeldR L W) op (.agg vs.toArray) a :=
  yieldsIf_load_mid hw 25 x ho G 0 hx _ _ (fun _ h => h.get hm.out.1) Try.underlying25 rfl (by rw [msg_size, hm.out.2])
theorem CellsAt.held {w : World} {G : Nat} {vs : List Value} {L : List (Nat × Nat × List Value)} {W : World} (h : CellsAt w G vs) (hL : HeldR L W w) : HeldR ((G, 0, vs) :: L) W w := hL.cons h.range h.lt
end Go.Proofs.Yticdpidngmeebaa
/- Contracts of the landed wire's Ask, Clone and Answer. -/
namespace Go.Proofs.Yticdpidngmeebaa
open Go.RowKit
set_option linter.unusedVariables false
set_option maxRecDepth 20000

/-- A message that asks. -/
def askM (id : Int) (s : ByteArray) (k : Int) : Msg := ⟨id, 256, [⟨s, k, 1⟩], [], [], []⟩
set_option maxRecDepth 100000 in
set_option maxHeartbeats 2000000 in
theorem ask_any (id : Int) (s : ByteArray) (k : Int) (w : World) (hs : s.size ≤ maxLen) (hk : (Lit.int .i64 k).wf = true) :
    Calls Try.prog 23 #[.int .i64 id, .string s, .int .i64 k] w fun e w' => ∃ g, e = .returned (msgV (askM id s k) (some ⟨g, 0, none⟩) none none none 1 0 0 0) ∧ MsgIn w' (askM id s k) (some ⟨g, 0, none⟩) none none none 1 0 0 0 ∧ Below w.heap.size w w' := by
  have HF : Hid (FitQ ⟨s, k, 1⟩) := Lib.hid ⟨hk, (by decide : (Lit.int .i64 1).wf = true), hs⟩
  clear hs hk
  have HZ : Hid (CellsAt (w.alloc (.cells zM.toArray 25)) w.heap.size zM) := Lib.hid (CellsAt.new w _ zM)
  have HB0 : Hid (Below w.heap.size w (w.alloc (.cells zM.toArray 25))) := Lib.hid ((Below.refl _ _).alloc (Nat.le_refl _) _)
  go_enter Try.func23, Try.ntmps23
  go_upto_region 1 with fail
  have HE : Hid (w.alloc (.cells zM.toArray 25) = w.alloc (.cells #[.int .i64 0, .int .i64 0, .slice none 0 0, .slice none 0 0, .slice none 0 0, .slice none 0 0] 25)) := Lib.hid rfl
  obtain ⟨W0, hW0⟩ : ∃ W0, w.alloc (.cells #[.int .i64 0, .int .i64 0, .slice none 0 0, .slice none 0 0, .slice none 0 0, .slice none 0 0] 25) = W0 := ⟨_, rfl⟩
  rw [HE.out, hW0] at HZ HB0
  try rw [hW0]
  clear hW0 HE
  obtain ⟨G, hG⟩ : ∃ G, w.heap.size = G := ⟨_, rfl⟩
  have HG := Lib.hid hG
  rw [hG] at HZ
  try rw [hG]
  clear hG
  go_wp2_with (first | refine build_qu3 rfl _ _ _ rfl rfl rfl rfl ?_ | (refine build_quS rfl _ rfl rfl (fun W HW => ?_); have HZ1 : Hid (CellsAt W G zM) := Lib.hid (by rw [HW.out]; exact HZ.out.below ((Below.refl _ _).alloc (Nat.le_refl _) _))) | (have HZ2 := HZ1; refine store_msg HZ2 rfl _ _ rfl rfl rfl rfl rfl rfl (fun V HV HVC => ?_); clear HZ1))
  have HB1 : Hid (Below w.heap.size w V) := Lib.hid (by rw [HV.out]; exact below_cells (by have := HG.out; omega) _ _ _ (chain HB0.out (by rw [HW.out]; exact (Below.refl _ _).alloc (Nat.le_refl _) _)))
  have HQ : Hid (QusAt V (some ⟨W0.heap.size, 0, none⟩) 1 [⟨s, k, 1⟩]) := Lib.hid (by
    rw [HV.out]
    refine QusAt.apart (by rw [HW.out]; exact QusAt.new1 HF.out _) (fun x hx => ?_) _ _
    cases hx
    have := HZ.out.lt
    exact (Nat.ne_of_lt this).symm)
  exact bodyPost_ret (v := msgV (askM id s k) (some ⟨W0.heap.size, 0, none⟩) none none none 1 0 0 0) (results_msg Try.results23 rfl HVC.out rfl) rfl ⟨_, rfl, ⟨HQ.out, RecsAt.none0 _, RecsAt.none0 _, RecsAt.none0 _⟩, HB1.out⟩
set_option maxRecDepth 100000 in
set_option maxHeartbeats 2000000 in
theorem cloneQ_any (a : Option Addr) (c : Nat) (D : List Qu) (w : World) (hD : QusAt w a c D) (hl : D.length ≤ 100000) :
    Calls Try.prog 50 #[.slice a D.length c] w fun e w' => ∃ v', e = .returned v' ∧ RowQ w' w.heap.size v' D ∧ Below w.heap.size w w' := by
  have q : ∀ (w : World) (a : Option Addr) (n c n' c' : Nat), (binOp .eql 22 (.slice a n c) (.slice none n' c')).run Try.prog w = .ok (.bool a.isNone) w := fun w a n c n' c' => Lib.run_eql_slice_nil w _ _ a n c n' c' Try.underlying22
  rcases hD.row with ⟨rfl, rfl⟩ | ⟨y, rfl, hr⟩
  · clear hD
    go_enter Try.func50, Try.ntmps50
    go_wp2_with fail
    go_ret
    exact ⟨_, rfl, RowQ.nil _ _, Below.refl _ _⟩
  · have HR := Lib.hid hr
    have HL : Hid (([] : List Qu).length + D.length ≤ 100000) := Lib.hid (by simpa using hl)
    have HLT : Hid (∀ j u, (flatQ D)[j]? = some u → (y.add j).block < w.heap.size) := Lib.hid (fun j u hu => World.block_lt_of_cell? w _ (hr j u hu))
    obtain ⟨N, hN⟩ : ∃ N, D.length = N := ⟨_, rfl⟩
    have HN : Hid (N = D.length) := Lib.hid hN.symm
    rw [hN]
    clear hr hl hD hN
    go_enter Try.func50, Try.ntmps50
    go_wp2_with (first
      | (refine build_step0Q rfl rfl (fun W HW => ?_); have HE : Hid (RowQ W w.heap.size (.slice (some ⟨w.heap.size, 0, none⟩) 0 0) []) := Lib.hid (by rw [HW.out]; exact own_emptyQ w); have HB : Hid (Below w.heap.size w W) := Lib.hid (by rw [HW.out]; exact (Below.refl _ _).alloc (Nat.le_refl _) _); have HX : Hid (∀ j u, (flatQ D)[j]? = some u → W.cell? (y.add j) = some u) := Lib.hid (fun j u hu => (HB.out.cell (HLT.out j u hu)).trans (HR.out j u hu)); have HB2 : Hid (w.heap.size ≤ W.heap.size) := Lib.hid HB.out.size)
      | (have HE2 := HE; refine append_qusA HE2 _ _ rfl rfl rfl D rfl HN HX HL HB2 (fun v' w' HO HG HF => ?_); clear HE))
    go_ret
    refine ⟨_, rfl, ?_, HB.out.grown HG.out HB.out.size (fun k hk => by cases hk; exact Nat.le_refl _)⟩
    have := HO.out
    rwa [List.nil_append] at this
set_option maxRecDepth 100000 in
set_option maxHeartbeats 2000000 in
theorem cloneR_any (a : Option Addr) (c : Nat) (D : List Rec) (w : World) (hD : RecsAt w a c D) (hl : D.length ≤ 100000) :
    Calls Try.prog 51 #[.slice a D.length c] w fun e w' => ∃ v', e = .returned v' ∧ RowR w' w.heap.size v' D ∧ Below w.heap.size w w' := by
  have q : ∀ (w : World) (a : Option Addr) (n c n' c' : Nat), (binOp .eql 23 (.slice a n c) (.slice none n' c')).run Try.prog w = .ok (.bool a.isNone) w := fun w a n c n' c' => Lib.run_eql_slice_nil w _ _ a n c n' c' Try.underlying23
  rcases hD.row with ⟨rfl, rfl⟩ | ⟨y, rfl, hr⟩
  · clear hD
    go_enter Try.func51, Try.ntmps51
    go_wp2_with fail
    go_ret
    exact ⟨_, rfl, RowR.nil _ _, Below.refl _ _⟩
  · have HR := Lib.hid hr
    have HL : Hid (([] : List Rec).length + D.length ≤ 100000) := Lib.hid (by simpa using hl)
    have HLT : Hid (∀ j u, (flatR D)[j]? = some u → (y.add j).block < w.heap.size) := Lib.hid (fun j u hu => World.block_lt_of_cell? w _ (hr j u hu))
    have H16 : Hid (All16 D) := Lib.hid (fun r hr => (hD.2.2.1 r hr).1)
    obtain ⟨N, hN⟩ : ∃ N, D.length = N := ⟨_, rfl⟩
    have HN : Hid (N = D.length) := Lib.hid hN.symm
    rw [hN]
    clear hr hl hD hN
    go_enter Try.func51, Try.ntmps51
    go_wp2_with (first
      | (refine build_step0R rfl rfl (fun W HW => ?_); have HE : Hid (RowR W w.heap.size (.slice (some ⟨w.heap.size, 0, none⟩) 0 0) []) := Lib.hid (by rw [HW.out]; exact ⟨own_emptyR w, fun r hr => by cases hr⟩); have HB : Hid (Below w.heap.size w W) := Lib.hid (by rw [HW.out]; exact (Below.refl _ _).alloc (Nat.le_refl _) _); have HX : Hid (∀ j u, (flatR D)[j]? = some u → W.cell? (y.add j) = some u) := Lib.hid (fun j u hu => (HB.out.cell (HLT.out j u hu)).trans (HR.out j u hu)); have HB2 : Hid (w.heap.size ≤ W.heap.size) := Lib.hid HB.out.size)
      | (have HE2 := HE; refine append_recsA HE2 _ _ rfl rfl rfl D rfl HN HX H16 HL HB2 (fun v' w' HO HG HF => ?_); clear HE))
    go_ret
    refine ⟨_, rfl, ?_, HB.out.grown HG.out HB.out.size (fun k hk => by cases hk; exact Nat.le_refl _)⟩
    have := HO.out
    rwa [List.nil_append] at this
/-- A message that answers. -/
def ansM (q : Msg) (D : List Rec) : Msg := ⟨q.id, 33152, q.qs, D, [], []⟩
/-- What Answer tells. -/
def AnsRet (w : World) (q : Msg) (D : List Rec) (e : Ending) (w' : World) : Prop :=
  Below w.heap.size w w' ∧ ∃ aq a1 cq c1, e = .returned (msgV (ansM q D) aq a1 none none cq c1 0 0) ∧ MsgIn w' (ansM q D) aq a1 none none cq c1 0 0
theorem RowQ.msg {w : World} {q : Msg} {D : List Rec} {b1 b2 : Nat} {v1 v2 : Value} (hq : RowQ w b1 v1 q.qs) (hr : RowR w b2 v2 D) (hfq : ∀ x ∈ q.qs, FitQ x) (hfr : ∀ x ∈ D, Fit x) : ∃ aq a1 cq c1, Value.agg #[.int .i64 q.id, .int .i64 33152, v1, v2, .slice none 0 0, .slice none 0 0] = msgV (ansM q D) aq a1 none none cq c1 0 0 ∧ MsgIn w (ansM q D) aq a1 none none cq c1 0 0 := by
  obtain ⟨aq, cq, rfl, h1⟩ := hq.qus hfq
  obtain ⟨a1, c1, rfl, h2⟩ := hr.recs hfr
  exact ⟨aq, a1, cq, c1, rfl, h1, h2, RecsAt.none0 _, RecsAt.none0 _⟩
set_option maxRecDepth 100000 in
set_option maxHeartbeats 2000000 in
theorem answer_any (q : Msg) (aq a1 a2 a3 : Option Addr) (cq c1 c2 c3 : Nat) (b : Option Addr) (d : Nat) (D : List Rec) (w : World) (hM : QusAt w aq cq q.qs) (hD : RecsAt w b d D) (hl : q.qs.length ≤ 100000) (hl2 : D.length ≤ 100000) :
    Calls Try.prog 24 #[msgV q aq a1 a2 a3 cq c1 c2 c3, .slice b D.length d] w (AnsRet w q D) := by
  unfold msgV
  obtain ⟨W, hW⟩ : ∃ W, (w.alloc (.cells #[.int .i64 q.id, .int .i64 q.fl, .slice aq q.qs.length cq, .slice a1 q.an.length c1, .slice a2 q.au.length c2, .slice a3 q.mo.length c3] 25)).alloc (.cells #[.int .i64 0, .int .i64 0, .slice none 0 0, .slice none 0 0, .slice none 0 0, .slice none 0 0] 25) = W := ⟨_, rfl⟩
  have HB : Hid (Below w.heap.size w W) := Lib.hid (by rw [← hW]; exact ((Below.refl _ _).alloc (Nat.le_refl _) _).alloc (by simp) _)
  have HX : Hid (MBox W w.heap.size (.int .i64 q.id) (.int .i64 q.fl) (.slice aq q.qs.length cq) (.slice a1 q.an.length c1) (.slice a2 q.au.length c2) (.slice a3 q.mo.length c3)) := Lib.hid (by rw [← hW]; exact (MBox.new w _ _ _ _ _ _ _).below ((Below.refl _ _).alloc (Nat.le_refl _) _))
  have HZ : Hid (CellsAt W (w.heap.size + 1) zM) := Lib.hid (by
    rw [← hW]
    have := CellsAt.new (w.alloc (.cells #[.int .i64 q.id, .int .i64 q.fl, .slice aq q.qs.length cq, .slice a1 q.an.length c1, .slice a2 q.au.length c2, .slice a3 q.mo.length c3] 25)) 25 zM
    rw [show (w.alloc (.cells #[.int .i64 q.id, .int .i64 q.fl, .slice aq q.qs.length cq, .slice a1 q.an.length c1, .slice a2 q.au.length c2, .slice a3 q.mo.length c3] 25)).heap.size = w.heap.size + 1 by simp] at this
    exact this)
  have HSZ : Hid (W.heap.size = w.heap.size + 2) := Lib.hid (by rw [← hW]; simp)
  have HCQ := fun V (h : Below w.heap.size w V) => Lib.hid (cloneQ_any aq cq q.qs V (hM.below h) hl)
  have HCR := fun V (h : Below w.heap.size w V) => Lib.hid (cloneR_any b d D V (hD.below h) hl2)
  have HFQ := Lib.hid hM.2.2.1
  have HFR := Lib.hid hD.2.2.1
  generalize q.qs.length = n0 at *
  generalize q.an.length = n1 at *
  generalize q.au.length = n2 at *
  generalize q.mo.length = n3 at *
  generalize D.length = n4 at *
  clear hM hD hl hl2
  go_enter Try.func24, Try.ntmps24
  go_upto_region 1 with fail
  try rw [hW]
  clear hW
  obtain ⟨G, hG⟩ : ∃ G, w.heap.size = G := ⟨_, rfl⟩
  have HG := Lib.hid hG
  rw [hG] at HX HZ HSZ
  try rw [hG]
  clear hG
  replace HB := Lib.hid HB.out.drew
  replace HX := Lib.hid (HX.out.below (Below.refl _ _).drew)
  replace HZ := Lib.hid (HZ.out.below (Below.refl _ _).drew)
  have HSZ2 : Hid (W.drew.heap.size = G + 2) := Lib.hid HSZ.out
  obtain ⟨S, hS⟩ : ∃ S : World → Prop, (fun V => V.cell? ⟨G, 0, none⟩ = some (.int .i64 q.id) ∧ V.cell? ⟨G, 2, none⟩ = some (.slice aq n0 cq)) = S := ⟨_, rfl⟩
  have C1 : Hid (∀ w', S w' → w'.cell? ⟨G, 0, none⟩ = some (.int .i64 q.id)) := Lib.hid (fun w' h => by rw [← hS] at h; exact h.1)
  have C2 : Hid (∀ w', S w' → w'.cell? ⟨G, 2, none⟩ = some (.slice aq n0 cq)) := Lib.hid (fun w' h => by rw [← hS] at h; exact h.2)
  have HSI : Hid (∀ V, MBox V G (.int .i64 q.id) (.int .i64 q.fl) (.slice aq n0 cq) (.slice a1 n1 c1) (.slice a2 n2 c2) (.slice a3 n3 c3) → S V) := Lib.hid (fun V h => by rw [← hS]; exact ⟨h.c0, h.c2⟩)
  clear hS
  refine wp_region_noPanic ?_
  refine wp_region_held_drew (S := S) (by kernel_rfl) (HSI.out _ HX.out) (fun hHeld => ?_)
  generalize W.drew = V at *
  clear HSZ
  refine wpAnyH_take (i := 0) (v := ?_) rfl (by kernel_rfl) (by kernel_rfl) (by kernel_rfl) (fun _ _ _ h => h) (Or.inl ⟨by rfl, ?_⟩) (by assumption) ?_
  rotate_left
  · (intro w hSw; go_simp; try (with_reducible rfl))
  try simp only [Act.put, List.getElem_toArray, List.getElem_cons_zero, List.setIfInBounds_toArray, List.set_cons_zero, List.set_cons_succ]
  refine wpAnyH_take (i := 1) (v := ?_) rfl (by kernel_rfl) (by kernel_rfl) (by kernel_rfl) (fun _ _ _ h => h) (Or.inl ⟨by rfl, ?_⟩) (by assumption) ?_
  rotate_left
  · (intro w hSw; have hc0 := C1.out w hSw; go_simp; try (with_reducible rfl))
  try simp only [Act.put, List.getElem_toArray, List.getElem_cons_zero, List.getElem_cons_succ, List.setIfInBounds_toArray, List.set_cons_zero, List.set_cons_succ]
  refine wpAnyH_take (i := 2) (v := ?_) rfl (by kernel_rfl) (by kernel_rfl) (by kernel_rfl) (fun _ _ _ h => h) (Or.inl ⟨by rfl, ?_⟩) (by assumption) ?_
  rotate_left
  · (intro w hSw; go_simp; try (with_reducible rfl))
  try simp only [Act.put, List.getElem_toArray, List.getElem_cons_zero, List.getElem_cons_succ, List.setIfInBounds_toArray, List.set_cons_zero, List.set_cons_succ]
  refine wpAnyH_take (i := 3) (v := ?_) rfl (by kernel_rfl) (by kernel_rfl) (by kernel_rfl) (fun _ _ _ h => h) (Or.inl ⟨by rfl, ?_⟩) (by assumption) ?_
  rotate_left
  · (intro w hSw; have hc0 := C2.out w hSw; go_simp; try (with_reducible rfl))
  try simp only [Act.put, List.getElem_toArray, List.getElem_cons_zero, List.getElem_cons_succ, List.setIfInBounds_toArray, List.set_cons_zero, List.set_cons_succ]
  refine wpAnyH_take (i := 5) (v := ?_) rfl (by kernel_rfl) (by kernel_rfl) (by kernel_rfl) (fun _ _ _ h => h) (Or.inl ⟨by rfl, ?_⟩) (by assumption) ?_
  rotate_left
  · (intro w hSw; go_simp; try (with_reducible rfl))
  try simp only [Act.put, List.getElem_toArray, List.getElem_cons_zero, List.getElem_cons_succ, List.setIfInBounds_toArray, List.set_cons_zero, List.set_cons_succ]
  refine wpAnyH_ready (rs := [4]) (by kernel_rfl) (by simp) ?_
  refine AllReadyH.cons rfl (fun K hK => ?_) AllReadyH.nil
  go_simp
  refine (HCQ _ HB.out).out.mono ?_
  rintro e w1 ⟨v1, rfl, hq1, hb1⟩
  obtain ⟨x1, y1, rfl⟩ := own_slice (show w1.ownsRow _ _ _ v1 _ _ from hq1)
  have HQ1 := Lib.hid hq1
  have HB1 := Lib.hid (chain HB.out hb1)
  have HL1 : Hid (G + 2 ≤ w1.heap.size) := Lib.hid (by have := hb1.size; have := HSZ2.out; omega)
  have HX1 := Lib.hid (HX.out.below hb1)
  have HZ1 := Lib.hid (HZ.out.below hb1)
  clear hq1 hb1 HCQ
  go_wp2_with fail
  refine hK.out _ _ (HSI.out _ HX1.out) (fun hHeldb => ?_)
  clear hK K
  try simp only [Act.put, List.getElem_toArray, List.getElem_cons_zero, List.getElem_cons_succ, List.setIfInBounds_toArray, List.set_cons_zero, List.set_cons_succ]
  refine wpAnyH_ready (rs := [6]) (by kernel_rfl) (by simp) ?_
  refine AllReadyH.cons rfl (fun K hK => ?_) AllReadyH.nil
  go_simp
  refine (HCR _ HB1.out).out.mono ?_
  rintro e w2 ⟨v2, rfl, hq2, hb2⟩
  obtain ⟨x2, y2, rfl⟩ := own_slice (show w2.ownsRow _ _ _ v2 _ _ from hq2.1)
  have HQ2 := Lib.hid hq2
  replace HQ1 := Lib.hid (HQ1.out.below hb2)
  have HB2 := Lib.hid (chain HB1.out hb2)
  have HX2 := Lib.hid (HX1.out.below hb2)
  have HZ2 := Lib.hid (HZ1.out.below hb2)
  clear hq2 hb2 HCR HX1 HZ1 HX HZ
  go_wp2_with fail
  refine hK.out _ _ (HSI.out _ HX2.out) (fun hHeldc => ?_)
  clear hK K
  try simp only [Act.put, List.getElem_toArray, List.getElem_cons_zero, List.getElem_cons_succ, List.setIfInBounds_toArray, List.set_cons_zero, List.set_cons_succ]
  refine wpAnyH_take (i := 7) (v := ?_) rfl (by kernel_rfl) (by kernel_rfl) (by kernel_rfl) (fun _ _ _ h => h) (Or.inl ⟨by rfl, ?_⟩) (by assumption) ?_
  rotate_left
  · (intro w hSw; go_simp; try (with_reducible rfl))
  try simp only [Act.put, List.getElem_toArray, List.getElem_cons_zero, List.getElem_cons_succ, List.setIfInBounds_toArray, List.set_cons_zero, List.set_cons_succ]
  refine wpAnyH_ready (rs := [8]) (by kernel_rfl) (by simp) ?_
  refine ready_one rfl rfl (fun K hK => ?_)
  refine wp_store_msg HZ2 rfl _ _ rfl rfl rfl rfl rfl (fun U HU HUC => ?_)
  refine hK.out _ _ (HSI.out _ (by rw [HU.out]; exact HX2.out.apart (by omega) _)) (fun hHeldd => ?_)
  clear hK K
  have HQ1b : Hid (RowQ U V.heap.size (.slice x1 q.qs.length y1) q.qs) := Lib.hid (by rw [HU.out]; exact row_apart HQ1.out (by have := HSZ2.out; omega))
  have HQ2b : Hid (RowR U w1.heap.size (.slice x2 D.length y2) D) := Lib.hid (by rw [HU.out]; exact ⟨row_apart HQ2.out.1 (by have := HL1.out; omega), HQ2.out.2⟩)
  have HB3 : Hid (Below w.heap.size w U) := Lib.hid (by rw [HU.out]; exact below_cells (by have := HG.out; omega) _ _ _ HB2.out)
  refine wpAnyH_done (by kernel_rfl) ?_ _
  refine NoPanic.normal ?_
  clear hHeld hHeldb hHeldc hHeldd C1 C2
  go_wp2_with fail
  obtain ⟨aq, a1, cq, c1, ev, hm⟩ := RowQ.msg HQ1b.out HQ2b.out HFQ.out HFR.out
  refine bodyPost_ret (v := msgV (ansM q D) aq a1 none none cq c1 0 0) ?_ rfl ⟨HB3.out, _, _, _, _, rfl, hm⟩
  rw [← ev]
  exact results_msg Try.results24 rfl HUC.out rfl
end Go.Proofs.Yticdpidngmeebaa

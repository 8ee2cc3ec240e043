/- Texts that belong together, one behind the other: RefWireSame, RefWireSame2, WirEqual, WirSame, RecAt, RecRow, QuRow, MsgKit, WirAsk, Cuts, LabMath, WirSpec, AddrHeld, Numbers, RefNums, Reads, Strict, RefStrict, RefSix, RefSixParse. -/
import Derived.Test.YticdpidngmeebaaF2
import Derived.Deep.RegionHeld3
import Derived.Maps.AppendAt
import Derived.Laws.OwnMore
import Derived.Lib.Join
import Derived.Lib.Bytealg
import Derived.OpenShut
import Derived.Lib.ItoaLen
import Derived.Deep.RegionWith
/- Contracts of the reference's sameRecords and Same of layer 9. -/
namespace Go.Proofs.Yticdpidngmeebaa
open Go.RowKit
set_option linter.unusedVariables false
set_option maxRecDepth 20000

theorem yields_rec {ops : Array Oper} {S : World → Prop} {op : Oper} {a : Act} {G o : Nat} {r : Rec} (h16 : Hid (r.b.length = 16)) (hS : Hid (∀ w, S w → w.rangeAt G o (recL r))) (hw : Region.wanted op (yielded ops a.tmps) = true) (x : Operand) (ho : op.op = .load 42 x) (hx : a.eval x = .pointer (some ⟨G, o, none⟩)) : YieldsIf Try.prog ops S op (recV r) a :=
  yieldsIf_load_mid hw 42 x ho G o hx (recL r) _ (fun w h => hS.out w h) Try.underlying42 rfl (by rw [rec_size, recL_len r h16.out])
theorem qu_size : (Try.prog.info? 51).map (·.size) = some 3 := by kernel_rfl
theorem yields_qu {ops : Array Oper} {S : World → Prop} {op : Oper} {a : Act} {G o : Nat} {r : Qu} (hS : Hid (∀ w, S w → w.rangeAt G o (quL r))) (hw : Region.wanted op (yielded ops a.tmps) = true) (x : Operand) (ho : op.op = .load 51 x) (hx : a.eval x = .pointer (some ⟨G, o, none⟩)) : YieldsIf Try.prog ops S op (quV r) a :=
  yieldsIf_load_mid hw 51 x ho G o hx (quL r) _ (fun w h => hS.out w h) Try.underlying51 rfl (by rw [qu_size]; rfl)
set_option maxRecDepth 100000 in
set_option maxHeartbeats 1000000 in
theorem sameRecs_any (a b : Option Addr) (c d : Nat) (D E : List Rec) (w : World) (hD : RecsAt w a c D) (hE : RecsAt w b d E) (hl : D.length ≤ 1000000) (hl2 : E.length ≤ 1000000) :
    Calls Try.prog 41 #[.slice a D.length c, .slice b E.length d] w fun e w' => e = .returned (.bool (decide (D = E))) ∧ Below w.heap.size w w' := by
  have HD := Lib.hid hD
  have HE := Lib.hid hE
  obtain ⟨R, hR⟩ : ∃ R, decide (D = E) = R := ⟨_, rfl⟩
  have HRR := Lib.hid hR
  rw [hR]
  obtain ⟨N, hN⟩ : ∃ N, D.length = N := ⟨_, rfl⟩
  obtain ⟨M, hM⟩ : ∃ M, E.length = M := ⟨_, rfl⟩
  have HN := Lib.hid hN
  have HM := Lib.hid hM
  rw [hN] at hl ⊢
  rw [hM] at hl2 ⊢
  clear hD hE hR hN hM
  by_cases hNM : N = M
  · subst hNM
    have hne : ((N : Int) != (N : Int)) = false := by simp
    go_enter Try.func41, Try.ntmps41
    go_wp2_with fail
    go_loopw [5] (fun i wr => ∃ k : Nat, k ≤ N ∧ i = .int .i64 (k : Int) ∧ Hid (∀ j (h : j < D.length) (h2 : j < E.length), j < k → D[j] = E[j]) ∧ Hid (Below w.heap.size w wr)) (fun i _ => N - (intOf i).toNat)
    case atStart => exact ⟨0, Nat.zero_le _, rfl, Lib.hid (fun j _ _ h => absurd h (by omega)), Lib.hid (Below.refl _ _)⟩
    case round =>
      obtain ⟨k, hk, rfl, HO, HB⟩ := hrel
      by_cases hkN : k < N
      · have hd : decide ((k : Int) < (N : Int)) = true := decide_eq_true (by omega)
        have hdn : decide (k < N) = true := decide_eq_true hkN
        have hkD : k < D.length := by rw [HN.out]; exact hkN
        have hkE : k < E.length := by rw [HM.out]; exact hkN
        have HBD := Lib.hid HB.out.drew
        obtain ⟨g, o, ha, hg, hrg⟩ := (HD.out.below HBD.out).at k hkD
        obtain ⟨g2, o2, hb, hg2, hrg2⟩ := (HE.out.below HBD.out).at k hkE
        subst ha
        subst hb
        have H16 := Lib.hid (HD.out.2.2.1 _ (List.getElem_mem hkD)).1
        have H17 := Lib.hid (HE.out.2.2.1 _ (List.getElem_mem hkE)).1
        have q := fun W => run_neq_rec D[k] E[k] W H16.out H17.out
        have HO2 : Hid (D[k] = E[k] → ∀ j (h : j < D.length) (h2 : j < E.length), j < k + 1 → D[j] = E[j]) := Lib.hid (fun e j h h2 hj => by
          by_cases h3 : j < k
          · exact HO.out j h h2 h3
          · obtain rfl : j = k := by omega
            exact e)
        have HF : Hid (D[k] ≠ E[k] → R = false) := Lib.hid (fun e => by
          rw [← HRR.out]
          refine decide_eq_false (fun h => e ?_)
          subst h
          rfl)
        have gd := guard_rec
        generalize D[k] = r at *
        generalize E[k] = s at *
        have hb1 : (0 : Int) ≤ (k : Int) := by omega
        have hb2 : (k : Int) < (N : Int) := by omega
        obtain ⟨S, hS⟩ : ∃ S : World → Prop, (fun W => W.rangeAt g (o + k * 23) (recL r) ∧ W.rangeAt g2 (o2 + k * 23) (recL s)) = S := ⟨_, rfl⟩
        have C1 : Hid (∀ w', S w' → w'.rangeAt g (o + k * 23) (recL r)) := Lib.hid (fun w' h => by rw [← hS] at h; exact h.1)
        have C2 : Hid (∀ w', S w' → w'.rangeAt g2 (o2 + k * 23) (recL s)) := Lib.hid (fun w' h => by rw [← hS] at h; exact h.2)
        have HSS : Hid (S wr.drew) := Lib.hid (by rw [← hS]; exact ⟨hrg, hrg2⟩)
        clear hS hrg hrg2 hg hg2
        by_cases hrs : r = s
        · have hq : (!decide (r = s)) = false := by rw [decide_eq_true hrs]; rfl
          rw [hq] at q
          have HO3 := Lib.hid (HO2.out hrs)
          clear HO2 HF HO hrs hq
          go_upto_region 6 with fail
          refine wp_region_noPanic ?_
          refine wp_region_held_drew (S := S) (by kernel_rfl) HSS.out (fun hHeld => ?_)
          refine wpAnyH_take (i := 0) (v := ?_) rfl (by kernel_rfl) (by kernel_rfl) (by kernel_rfl) (fun _ _ _ h => h) (Or.inl ⟨by rfl, ?_⟩) (by assumption) ?_
          rotate_left
          · (intro w hSw; go_simp; try (with_reducible rfl))
          try simp only [Act.put, List.getElem_toArray, List.getElem_cons_zero, List.setIfInBounds_toArray, List.set_cons_zero, List.set_cons_succ]
          refine wpAnyH_take (i := 1) (v := ?_) rfl (by kernel_rfl) (by kernel_rfl) (by kernel_rfl) (fun _ _ _ h => h) (Or.inl ⟨by rfl, ?_⟩) (by assumption) ?_
          rotate_left
          · (intro w hSw; go_simp; try (with_reducible rfl))
          try simp only [Act.put, List.getElem_toArray, List.getElem_cons_zero, List.getElem_cons_succ, List.setIfInBounds_toArray, List.set_cons_zero, List.set_cons_succ]
          refine wpAnyH_take (i := 2) (v := ?_) rfl (by kernel_rfl) (by kernel_rfl) (by kernel_rfl) (fun _ _ _ h => h) (Or.inl ⟨by rfl, ?_⟩) (by assumption) ?_
          rotate_left
          · (intro w hSw; go_simp; try (with_reducible rfl))
          try simp only [Act.put, List.getElem_toArray, List.getElem_cons_zero, List.getElem_cons_succ, List.setIfInBounds_toArray, List.set_cons_zero, List.set_cons_succ]
          refine wpAnyH_take (i := 3) rfl (by kernel_rfl) (by kernel_rfl) (by kernel_rfl) (fun _ _ _ h => h) (yields_rec H16 C1 (by rfl) _ rfl rfl) (by assumption) ?_
          try simp only [Act.put, List.getElem_toArray, List.getElem_cons_zero, List.getElem_cons_succ, List.setIfInBounds_toArray, List.set_cons_zero, List.set_cons_succ]
          refine wpAnyH_take (i := 4) (v := ?_) rfl (by kernel_rfl) (by kernel_rfl) (by kernel_rfl) (fun _ _ _ h => h) (Or.inl ⟨by rfl, ?_⟩) (by assumption) ?_
          rotate_left
          · (intro w hSw; go_simp; try (with_reducible rfl))
          try simp only [Act.put, List.getElem_toArray, List.getElem_cons_zero, List.getElem_cons_succ, List.setIfInBounds_toArray, List.set_cons_zero, List.set_cons_succ]
          refine wpAnyH_take (i := 5) (v := ?_) rfl (by kernel_rfl) (by kernel_rfl) (by kernel_rfl) (fun _ _ _ h => h) (Or.inl ⟨by rfl, ?_⟩) (by assumption) ?_
          rotate_left
          · (intro w hSw; go_simp; try (with_reducible rfl))
          try simp only [Act.put, List.getElem_toArray, List.getElem_cons_zero, List.getElem_cons_succ, List.setIfInBounds_toArray, List.set_cons_zero, List.set_cons_succ]
          refine wpAnyH_take (i := 6) (v := ?_) rfl (by kernel_rfl) (by kernel_rfl) (by kernel_rfl) (fun _ _ _ h => h) (Or.inl ⟨by rfl, ?_⟩) (by assumption) ?_
          rotate_left
          · (intro w hSw; go_simp; try (with_reducible rfl))
          try simp only [Act.put, List.getElem_toArray, List.getElem_cons_zero, List.getElem_cons_succ, List.setIfInBounds_toArray, List.set_cons_zero, List.set_cons_succ]
          refine wpAnyH_take (i := 7) rfl (by kernel_rfl) (by kernel_rfl) (by kernel_rfl) (fun _ _ _ h => h) (yields_rec H17 C2 (by rfl) _ rfl rfl) (by assumption) ?_
          try simp only [Act.put, List.getElem_toArray, List.getElem_cons_zero, List.getElem_cons_succ, List.setIfInBounds_toArray, List.set_cons_zero, List.set_cons_succ]
          refine wpAnyH_take (i := 8) (v := ?_) rfl (by kernel_rfl) (by kernel_rfl) (by kernel_rfl) (fun _ _ _ h => h) (Or.inl ⟨by rfl, ?_⟩) (by assumption) ?_
          rotate_left
          · (intro w hSw; go_simp; try (with_reducible rfl))
          try simp only [Act.put, List.getElem_toArray, List.getElem_cons_zero, List.getElem_cons_succ, List.setIfInBounds_toArray, List.set_cons_zero, List.set_cons_succ]
          refine wpAnyH_done (by kernel_rfl) ?_ _
          refine NoPanic.normal ?_
          clear q gd C1 C2 HSS hHeld
          go_wp2_with fail
          go_roundw
          case rel => exact ⟨k + 1, by omega, by go_num, HO3, HBD⟩
          case measure => simp [intOf]; omega
        · have hq : (!decide (r = s)) = true := by rw [decide_eq_false hrs]; rfl
          rw [hq] at q
          have ER := HF.out hrs
          subst ER
          clear HO2 HF HO hrs hq
          go_upto_region 6 with fail
          refine wp_region_noPanic ?_
          refine wp_region_held_drew (S := S) (by kernel_rfl) HSS.out (fun hHeld => ?_)
          refine wpAnyH_take (i := 0) (v := ?_) rfl (by kernel_rfl) (by kernel_rfl) (by kernel_rfl) (fun _ _ _ h => h) (Or.inl ⟨by rfl, ?_⟩) (by assumption) ?_
          rotate_left
          · (intro w hSw; go_simp; try (with_reducible rfl))
          try simp only [Act.put, List.getElem_toArray, List.getElem_cons_zero, List.setIfInBounds_toArray, List.set_cons_zero, List.set_cons_succ]
          refine wpAnyH_take (i := 1) (v := ?_) rfl (by kernel_rfl) (by kernel_rfl) (by kernel_rfl) (fun _ _ _ h => h) (Or.inl ⟨by rfl, ?_⟩) (by assumption) ?_
          rotate_left
          · (intro w hSw; go_simp; try (with_reducible rfl))
          try simp only [Act.put, List.getElem_toArray, List.getElem_cons_zero, List.getElem_cons_succ, List.setIfInBounds_toArray, List.set_cons_zero, List.set_cons_succ]
          refine wpAnyH_take (i := 2) (v := ?_) rfl (by kernel_rfl) (by kernel_rfl) (by kernel_rfl) (fun _ _ _ h => h) (Or.inl ⟨by rfl, ?_⟩) (by assumption) ?_
          rotate_left
          · (intro w hSw; go_simp; try (with_reducible rfl))
          try simp only [Act.put, List.getElem_toArray, List.getElem_cons_zero, List.getElem_cons_succ, List.setIfInBounds_toArray, List.set_cons_zero, List.set_cons_succ]
          refine wpAnyH_take (i := 3) rfl (by kernel_rfl) (by kernel_rfl) (by kernel_rfl) (fun _ _ _ h => h) (yields_rec H16 C1 (by rfl) _ rfl rfl) (by assumption) ?_
          try simp only [Act.put, List.getElem_toArray, List.getElem_cons_zero, List.getElem_cons_succ, List.setIfInBounds_toArray, List.set_cons_zero, List.set_cons_succ]
          refine wpAnyH_take (i := 4) (v := ?_) rfl (by kernel_rfl) (by kernel_rfl) (by kernel_rfl) (fun _ _ _ h => h) (Or.inl ⟨by rfl, ?_⟩) (by assumption) ?_
          rotate_left
          · (intro w hSw; go_simp; try (with_reducible rfl))
          try simp only [Act.put, List.getElem_toArray, List.getElem_cons_zero, List.getElem_cons_succ, List.setIfInBounds_toArray, List.set_cons_zero, List.set_cons_succ]
          refine wpAnyH_take (i := 5) (v := ?_) rfl (by kernel_rfl) (by kernel_rfl) (by kernel_rfl) (fun _ _ _ h => h) (Or.inl ⟨by rfl, ?_⟩) (by assumption) ?_
          rotate_left
          · (intro w hSw; go_simp; try (with_reducible rfl))
          try simp only [Act.put, List.getElem_toArray, List.getElem_cons_zero, List.getElem_cons_succ, List.setIfInBounds_toArray, List.set_cons_zero, List.set_cons_succ]
          refine wpAnyH_take (i := 6) (v := ?_) rfl (by kernel_rfl) (by kernel_rfl) (by kernel_rfl) (fun _ _ _ h => h) (Or.inl ⟨by rfl, ?_⟩) (by assumption) ?_
          rotate_left
          · (intro w hSw; go_simp; try (with_reducible rfl))
          try simp only [Act.put, List.getElem_toArray, List.getElem_cons_zero, List.getElem_cons_succ, List.setIfInBounds_toArray, List.set_cons_zero, List.set_cons_succ]
          refine wpAnyH_take (i := 7) rfl (by kernel_rfl) (by kernel_rfl) (by kernel_rfl) (fun _ _ _ h => h) (yields_rec H17 C2 (by rfl) _ rfl rfl) (by assumption) ?_
          try simp only [Act.put, List.getElem_toArray, List.getElem_cons_zero, List.getElem_cons_succ, List.setIfInBounds_toArray, List.set_cons_zero, List.set_cons_succ]
          refine wpAnyH_take (i := 8) (v := ?_) rfl (by kernel_rfl) (by kernel_rfl) (by kernel_rfl) (fun _ _ _ h => h) (Or.inl ⟨by rfl, ?_⟩) (by assumption) ?_
          rotate_left
          · (intro w hSw; go_simp; try (with_reducible rfl))
          try simp only [Act.put, List.getElem_toArray, List.getElem_cons_zero, List.getElem_cons_succ, List.setIfInBounds_toArray, List.set_cons_zero, List.set_cons_succ]
          refine wpAnyH_done (by kernel_rfl) ?_ _
          refine NoPanic.normal ?_
          clear q gd C1 C2 HSS hHeld
          go_wp2_with fail
          go_ret
          exact ⟨rfl, HBD.out⟩
      · obtain rfl : k = N := by omega
        have hd : decide ((k : Int) < (k : Int)) = false := by simp
        have ER : R = true := by
          rw [← HRR.out]
          refine decide_eq_true (List.ext_getElem (by rw [HN.out, HM.out]) (fun j h1 h2 => HO.out j h1 h2 (by rw [← HN.out]; exact h1)))
        subst ER
        clear HO
        go_wp2_with fail
        go_ret
        exact ⟨rfl, HB.out⟩
  · have hne : ((N : Int) != (M : Int)) = true := by rw [bne_iff_ne]; omega
    have ER : R = false := by
      rw [← HRR.out]
      refine decide_eq_false (fun h => hNM ?_)
      rw [← HN.out, ← HM.out, h]
    subst ER
    go_enter Try.func41, Try.ntmps41
    go_wp2_with fail
    go_ret
    exact ⟨rfl, Below.refl _ _⟩
end Go.Proofs.Yticdpidngmeebaa
/- Contract of the reference's Same of layer 9. -/
namespace Go.Proofs.Yticdpidngmeebaa
open Go.RowKit
set_option linter.unusedVariables false
set_option maxRecDepth 20000

theorem QusAt.range {w : World} {a : Option Addr} {cap : Nat} {D : List Qu} (h : QusAt w a cap D) (k : Nat) (hk : k < D.length) : ∃ g o, a = some ⟨g, o, none⟩ ∧ g < w.heap.size ∧ w.rangeAt g (o + k * 3) (quL D[k]) := by
  obtain ⟨h1, h2, h3, h4⟩ := h
  rcases h4 with h4 | ⟨g, o, e, hg, hr⟩
  · omega
  · exact ⟨g, o, e, hg, range_at hr (S := 3) (fun d hd => rfl) k hk⟩
def Lens (m : Msg) : Prop := m.qs.length ≤ 1000000 ∧ m.an.length ≤ 1000000 ∧ m.au.length ≤ 1000000 ∧ m.mo.length ≤ 1000000
set_option maxRecDepth 100000 in
set_option maxHeartbeats 2000000 in
theorem refSame9_any (m n : Msg) (aq a1 a2 a3 : Option Addr) (cq c1 c2 c3 : Nat) (bq b1 b2 b3 : Option Addr) (dq d1 d2 d3 : Nat) (w : World) (hM : MsgIn w m aq a1 a2 a3 cq c1 c2 c3) (hN : MsgIn w n bq b1 b2 b3 dq d1 d2 d3) (hlm : Lens m) (hln : Lens n) :
    Calls Try.prog 17 #[msgV m aq a1 a2 a3 cq c1 c2 c3, msgV n bq b1 b2 b3 dq d1 d2 d3] w fun e w' => e = .returned (.bool (decide (m = n))) ∧ Below w.heap.size w w' := by
  unfold msgV
  obtain ⟨hl1, hl2, hl3, hl4⟩ := hlm
  obtain ⟨hk1, hk2, hk3, hk4⟩ := hln
  have HMI := Lib.hid hM
  have HNI := Lib.hid hN
  have HA1 := fun W (h : Below w.heap.size w W) => Lib.hid (sameRecs_any a1 b1 c1 d1 m.an n.an W (hM.an.below h) (hN.an.below h) hl2 hk2)
  have HA2 := fun W (h : Below w.heap.size w W) => Lib.hid (sameRecs_any a2 b2 c2 d2 m.au n.au W (hM.au.below h) (hN.au.below h) hl3 hk3)
  have HA3 := fun W (h : Below w.heap.size w W) => Lib.hid (sameRecs_any a3 b3 c3 d3 m.mo n.mo W (hM.mo.below h) (hN.mo.below h) hl4 hk4)
  obtain ⟨R, hR⟩ : ∃ R, decide (m = n) = R := ⟨_, rfl⟩
  have HRM := Lib.hid hR
  rw [hR]
  obtain ⟨i1, f1, q1, x1, y1, z1⟩ := m
  obtain ⟨i2, f2, q2, x2, y2, z2⟩ := n
  simp only at HA1 HA2 HA3 hl1 hk1
  have HEQ : Hid (R = decide (i1 = i2 ∧ f1 = f2 ∧ q1 = q2 ∧ x1 = x2 ∧ y1 = y2 ∧ z1 = z2)) := Lib.hid (by
    rw [← HRM.out]
    exact decide_eq_decide.2 (by simp only [Msg.mk.injEq]))
  have HQ1 := Lib.hid hM.qs
  have HQ2 := Lib.hid hN.qs
  simp only at HQ1 HQ2
  clear hM hN hR HMI HNI HRM
  obtain ⟨W, hW⟩ : ∃ W, (w.alloc (.cells #[.int .i64 i1, .int .i64 f1, .slice aq q1.length cq, .slice a1 x1.length c1, .slice a2 y1.length c2, .slice a3 z1.length c3] 25)).alloc (.cells #[.int .i64 i2, .int .i64 f2, .slice bq q2.length dq, .slice b1 x2.length d1, .slice b2 y2.length d2, .slice b3 z2.length d3] 25) = W := ⟨_, rfl⟩
  have HB0 : Hid (Below w.heap.size w W) := Lib.hid (by rw [← hW]; exact ((Below.refl _ _).alloc (Nat.le_refl _) _).alloc (by simp) _)
  have HBX : Hid (MBox W w.heap.size (.int .i64 i1) (.int .i64 f1) (.slice aq q1.length cq) (.slice a1 x1.length c1) (.slice a2 y1.length c2) (.slice a3 z1.length c3)) := Lib.hid (by rw [← hW]; exact (MBox.new w _ _ _ _ _ _ _).below ((Below.refl _ _).alloc (Nat.le_refl _) _))
  have HBY : Hid (MBox W (w.heap.size + 1) (.int .i64 i2) (.int .i64 f2) (.slice bq q2.length dq) (.slice b1 x2.length d1) (.slice b2 y2.length d2) (.slice b3 z2.length d3)) := Lib.hid (by
    rw [← hW]
    have := MBox.new (w.alloc (.cells #[.int .i64 i1, .int .i64 f1, .slice aq q1.length cq, .slice a1 x1.length c1, .slice a2 y1.length c2, .slice a3 z1.length c3] 25)) 25 (.int .i64 i2) (.int .i64 f2) (.slice bq q2.length dq) (.slice b1 x2.length d1) (.slice b2 y2.length d2) (.slice b3 z2.length d3)
    rw [show (w.alloc (.cells #[.int .i64 i1, .int .i64 f1, .slice aq q1.length cq, .slice a1 x1.length c1, .slice a2 y1.length c2, .slice a3 z1.length c3] 25)).heap.size = w.heap.size + 1 by simp] at this
    exact this)
  obtain ⟨N, hN⟩ : ∃ N, q1.length = N := ⟨_, rfl⟩
  have HN := Lib.hid hN
  obtain ⟨M, hM⟩ : ∃ M, q2.length = M := ⟨_, rfl⟩
  have HM := Lib.hid hM
  rw [hN] at hl1 HBX hW ⊢
  rw [hM] at hk1 HBY hW ⊢
  generalize x1.length = n1 at *
  generalize y1.length = n2 at *
  generalize z1.length = n3 at *
  generalize x2.length = n4 at *
  generalize y2.length = n5 at *
  generalize z2.length = n6 at *
  have e10 := HBX.out.c0
  have e11 := HBX.out.c1
  have e12 := HBX.out.c2
  have e20 := HBY.out.c0
  have e21 := HBY.out.c1
  have e22 := HBY.out.c2
  clear hN hM
  by_cases hi : i1 = i2
  · have hib : (i1 != i2) = false := by rw [hi]; simp
    have HI := Lib.hid hi
    clear hi
    by_cases hf : f1 = f2
    · have hfb : (f1 != f2) = false := by rw [hf]; simp
      have HF1 := Lib.hid hf
      clear hf
      by_cases hNM : N = M
      · have hnb : ((N : Int) != (M : Int)) = false := by rw [hNM]; simp
        have HNM := Lib.hid hNM
        clear hNM
        go_enter Try.func17, Try.ntmps17
        go_upto_region 1 with fail
        try rw [hW]
        clear hW
        go_wp2_with fail
        clear e10 e11 e12 e20 e21 e22
        go_loopw [5] (fun i wr => ∃ k : Nat, k ≤ N ∧ i = .int .i64 (k : Int) ∧ Hid (∀ j (h : j < q1.length) (h2 : j < q2.length), j < k → q1[j] = q2[j]) ∧ Hid (MBox wr w.heap.size (.int .i64 i1) (.int .i64 f1) (.slice aq N cq) (.slice a1 n1 c1) (.slice a2 n2 c2) (.slice a3 n3 c3)) ∧ Hid (MBox wr (w.heap.size + 1) (.int .i64 i2) (.int .i64 f2) (.slice bq M dq) (.slice b1 n4 d1) (.slice b2 n5 d2) (.slice b3 n6 d3)) ∧ Hid (Below w.heap.size w wr)) (fun i _ => N - (intOf i).toNat)
        case atStart => exact ⟨0, Nat.zero_le _, rfl, Lib.hid (fun j _ _ h => absurd h (by omega)), HBX, HBY, HB0⟩
        case round =>
          clear HBX HBY HB0
          obtain ⟨k, hk, rfl, HO, HX, HY, HB⟩ := hrel
          have e12 := HX.out.c2
          by_cases hkN : k < N
          · have hd : decide ((k : Int) < (N : Int)) = true := decide_eq_true (by omega)
            have hdn : decide (k < N) = true := decide_eq_true hkN
            have hkD : k < q1.length := by rw [HN.out]; exact hkN
            have hkE : k < q2.length := by rw [HM.out, ← HNM.out]; exact hkN
            have HBD := Lib.hid HB.out.drew
            have HXD := Lib.hid (HX.out.below (Below.refl _ _).drew)
            have HYD := Lib.hid (HY.out.below (Below.refl _ _).drew)
            obtain ⟨g, o, ha, hg, hrg⟩ := (HQ1.out.below HBD.out).range k hkD
            obtain ⟨g2, o2, hb, hg2, hrg2⟩ := (HQ2.out.below HBD.out).range k hkE
            subst ha
            subst hb
            have q := fun W => run_neq_qu q1[k] q2[k] W
            have HO2 : Hid (q1[k] = q2[k] → ∀ j (h : j < q1.length) (h2 : j < q2.length), j < k + 1 → q1[j] = q2[j]) := Lib.hid (fun e j h h2 hj => by
              by_cases h3 : j < k
              · exact HO.out j h h2 h3
              · obtain rfl : j = k := by omega
                exact e)
            have HF : Hid (q1[k] ≠ q2[k] → R = false) := Lib.hid (fun e => by
              rw [HEQ.out]
              refine decide_eq_false (fun h => e ?_)
              have := h.2.2.1
              subst this
              rfl)
            have gd := guard_qu
            generalize q1[k] = r at *
            generalize q2[k] = s at *
            have hb1 : (0 : Int) ≤ (k : Int) := by omega
            have hb2 : (k : Int) < (N : Int) := by omega
            have hb3 : (k : Int) < (M : Int) := by have := HNM.out; omega
            obtain ⟨S, hS⟩ : ∃ S : World → Prop, (fun W => W.rangeAt g (o + k * 3) (quL r) ∧ W.rangeAt g2 (o2 + k * 3) (quL s) ∧ W.cell? ⟨w.heap.size, 2, none⟩ = some (.slice (some ⟨g, o, none⟩) N cq) ∧ W.cell? ⟨w.heap.size + 1, 2, none⟩ = some (.slice (some ⟨g2, o2, none⟩) M dq)) = S := ⟨_, rfl⟩
            have C1 : Hid (∀ w', S w' → w'.rangeAt g (o + k * 3) (quL r)) := Lib.hid (fun w' h => by rw [← hS] at h; exact h.1)
            have C2 : Hid (∀ w', S w' → w'.rangeAt g2 (o2 + k * 3) (quL s)) := Lib.hid (fun w' h => by rw [← hS] at h; exact h.2.1)
            have C3 : Hid (∀ w', S w' → w'.cell? ⟨w.heap.size, 2, none⟩ = some (.slice (some ⟨g, o, none⟩) N cq)) := Lib.hid (fun w' h => by rw [← hS] at h; exact h.2.2.1)
            have C4 : Hid (∀ w', S w' → w'.cell? ⟨w.heap.size + 1, 2, none⟩ = some (.slice (some ⟨g2, o2, none⟩) M dq)) := Lib.hid (fun w' h => by rw [← hS] at h; exact h.2.2.2)
            have HSS : Hid (S wr.drew) := Lib.hid (by rw [← hS]; exact ⟨hrg, hrg2, HXD.out.c2, HYD.out.c2⟩)
            clear hS hrg hrg2 hg hg2
            by_cases hrs : r = s
            · have hq : (!decide (r = s)) = false := by rw [decide_eq_true hrs]; rfl
              rw [hq] at q
              have HO3 := Lib.hid (HO2.out hrs)
              clear HO2 HF HO hrs hq
              go_upto_region 6 with fail
              refine wp_region_noPanic ?_
              refine wp_region_held_drew (S := S) (by kernel_rfl) HSS.out (fun hHeld => ?_)
              refine wpAnyH_take (i := 0) (v := ?_) rfl (by kernel_rfl) (by kernel_rfl) (by kernel_rfl) (fun _ _ _ h => h) (Or.inl ⟨by rfl, ?_⟩) (by assumption) ?_
              rotate_left
              · (intro w hSw; go_simp; try (with_reducible rfl))
              try simp only [Act.put, List.getElem_toArray, List.getElem_cons_zero, List.setIfInBounds_toArray, List.set_cons_zero, List.set_cons_succ]
              refine wpAnyH_take (i := 1) (v := ?_) rfl (by kernel_rfl) (by kernel_rfl) (by kernel_rfl) (fun _ _ _ h => h) (Or.inl ⟨by rfl, ?_⟩) (by assumption) ?_
              rotate_left
              · (intro w hSw; have hc0 := C3.out w hSw; go_simp; try (with_reducible rfl))
              try simp only [Act.put, List.getElem_toArray, List.getElem_cons_zero, List.getElem_cons_succ, List.setIfInBounds_toArray, List.set_cons_zero, List.set_cons_succ]
              refine wpAnyH_take (i := 2) (v := ?_) rfl (by kernel_rfl) (by kernel_rfl) (by kernel_rfl) (fun _ _ _ h => h) (Or.inl ⟨by rfl, ?_⟩) (by assumption) ?_
              rotate_left
              · (intro w hSw; go_simp; try (with_reducible rfl))
              try simp only [Act.put, List.getElem_toArray, List.getElem_cons_zero, List.getElem_cons_succ, List.setIfInBounds_toArray, List.set_cons_zero, List.set_cons_succ]
              refine wpAnyH_take (i := 3) (v := ?_) rfl (by kernel_rfl) (by kernel_rfl) (by kernel_rfl) (fun _ _ _ h => h) (Or.inl ⟨by rfl, ?_⟩) (by assumption) ?_
              rotate_left
              · (intro w hSw; go_simp; try (with_reducible rfl))
              try simp only [Act.put, List.getElem_toArray, List.getElem_cons_zero, List.getElem_cons_succ, List.setIfInBounds_toArray, List.set_cons_zero, List.set_cons_succ]
              refine wpAnyH_take (i := 4) rfl (by kernel_rfl) (by kernel_rfl) (by kernel_rfl) (fun _ _ _ h => h) (yields_qu C1 (by rfl) _ rfl rfl) (by assumption) ?_
              try simp only [Act.put, List.getElem_toArray, List.getElem_cons_zero, List.getElem_cons_succ, List.setIfInBounds_toArray, List.set_cons_zero, List.set_cons_succ]
              refine wpAnyH_take (i := 5) (v := ?_) rfl (by kernel_rfl) (by kernel_rfl) (by kernel_rfl) (fun _ _ _ h => h) (Or.inl ⟨by rfl, ?_⟩) (by assumption) ?_
              rotate_left
              · (intro w hSw; go_simp; try (with_reducible rfl))
              try simp only [Act.put, List.getElem_toArray, List.getElem_cons_zero, List.getElem_cons_succ, List.setIfInBounds_toArray, List.set_cons_zero, List.set_cons_succ]
              refine wpAnyH_take (i := 6) (v := ?_) rfl (by kernel_rfl) (by kernel_rfl) (by kernel_rfl) (fun _ _ _ h => h) (Or.inl ⟨by rfl, ?_⟩) (by assumption) ?_
              rotate_left
              · (intro w hSw; have hc0 := C4.out w hSw; go_simp; try (with_reducible rfl))
              try simp only [Act.put, List.getElem_toArray, List.getElem_cons_zero, List.getElem_cons_succ, List.setIfInBounds_toArray, List.set_cons_zero, List.set_cons_succ]
              refine wpAnyH_take (i := 7) (v := ?_) rfl (by kernel_rfl) (by kernel_rfl) (by kernel_rfl) (fun _ _ _ h => h) (Or.inl ⟨by rfl, ?_⟩) (by assumption) ?_
              rotate_left
              · (intro w hSw; go_simp; try (with_reducible rfl))
              try simp only [Act.put, List.getElem_toArray, List.getElem_cons_zero, List.getElem_cons_succ, List.setIfInBounds_toArray, List.set_cons_zero, List.set_cons_succ]
              refine wpAnyH_take (i := 8) (v := ?_) rfl (by kernel_rfl) (by kernel_rfl) (by kernel_rfl) (fun _ _ _ h => h) (Or.inl ⟨by rfl, ?_⟩) (by assumption) ?_
              rotate_left
              · (intro w hSw; go_simp; try (with_reducible rfl))
              try simp only [Act.put, List.getElem_toArray, List.getElem_cons_zero, List.getElem_cons_succ, List.setIfInBounds_toArray, List.set_cons_zero, List.set_cons_succ]
              refine wpAnyH_take (i := 9) rfl (by kernel_rfl) (by kernel_rfl) (by kernel_rfl) (fun _ _ _ h => h) (yields_qu C2 (by rfl) _ rfl rfl) (by assumption) ?_
              try simp only [Act.put, List.getElem_toArray, List.getElem_cons_zero, List.getElem_cons_succ, List.setIfInBounds_toArray, List.set_cons_zero, List.set_cons_succ]
              refine wpAnyH_take (i := 10) (v := ?_) rfl (by kernel_rfl) (by kernel_rfl) (by kernel_rfl) (fun _ _ _ h => h) (Or.inl ⟨by rfl, ?_⟩) (by assumption) ?_
              rotate_left
              · (intro w hSw; go_simp; try (with_reducible rfl))
              try simp only [Act.put, List.getElem_toArray, List.getElem_cons_zero, List.getElem_cons_succ, List.setIfInBounds_toArray, List.set_cons_zero, List.set_cons_succ]
              refine wpAnyH_done (by kernel_rfl) ?_ _
              refine NoPanic.normal ?_
              clear q gd C1 C2 C3 C4 HSS hHeld e12
              go_wp2_with fail
              go_roundw
              case rel => exact ⟨k + 1, by omega, by go_num, HO3, HXD, HYD, HBD⟩
              case measure => simp [intOf]; omega
            · have hq : (!decide (r = s)) = true := by rw [decide_eq_false hrs]; rfl
              rw [hq] at q
              have ER := HF.out hrs
              subst ER
              clear HO2 HF HO hrs hq
              go_upto_region 6 with fail
              refine wp_region_noPanic ?_
              refine wp_region_held_drew (S := S) (by kernel_rfl) HSS.out (fun hHeld => ?_)
              refine wpAnyH_take (i := 0) (v := ?_) rfl (by kernel_rfl) (by kernel_rfl) (by kernel_rfl) (fun _ _ _ h => h) (Or.inl ⟨by rfl, ?_⟩) (by assumption) ?_
              rotate_left
              · (intro w hSw; go_simp; try (with_reducible rfl))
              try simp only [Act.put, List.getElem_toArray, List.getElem_cons_zero, List.setIfInBounds_toArray, List.set_cons_zero, List.set_cons_succ]
              refine wpAnyH_take (i := 1) (v := ?_) rfl (by kernel_rfl) (by kernel_rfl) (by kernel_rfl) (fun _ _ _ h => h) (Or.inl ⟨by rfl, ?_⟩) (by assumption) ?_
              rotate_left
              · (intro w hSw; have hc0 := C3.out w hSw; go_simp; try (with_reducible rfl))
              try simp only [Act.put, List.getElem_toArray, List.getElem_cons_zero, List.getElem_cons_succ, List.setIfInBounds_toArray, List.set_cons_zero, List.set_cons_succ]
              refine wpAnyH_take (i := 2) (v := ?_) rfl (by kernel_rfl) (by kernel_rfl) (by kernel_rfl) (fun _ _ _ h => h) (Or.inl ⟨by rfl, ?_⟩) (by assumption) ?_
              rotate_left
              · (intro w hSw; go_simp; try (with_reducible rfl))
              try simp only [Act.put, List.getElem_toArray, List.getElem_cons_zero, List.getElem_cons_succ, List.setIfInBounds_toArray, List.set_cons_zero, List.set_cons_succ]
              refine wpAnyH_take (i := 3) (v := ?_) rfl (by kernel_rfl) (by kernel_rfl) (by kernel_rfl) (fun _ _ _ h => h) (Or.inl ⟨by rfl, ?_⟩) (by assumption) ?_
              rotate_left
              · (intro w hSw; go_simp; try (with_reducible rfl))
              try simp only [Act.put, List.getElem_toArray, List.getElem_cons_zero, List.getElem_cons_succ, List.setIfInBounds_toArray, List.set_cons_zero, List.set_cons_succ]
              refine wpAnyH_take (i := 4) rfl (by kernel_rfl) (by kernel_rfl) (by kernel_rfl) (fun _ _ _ h => h) (yields_qu C1 (by rfl) _ rfl rfl) (by assumption) ?_
              try simp only [Act.put, List.getElem_toArray, List.getElem_cons_zero, List.getElem_cons_succ, List.setIfInBounds_toArray, List.set_cons_zero, List.set_cons_succ]
              refine wpAnyH_take (i := 5) (v := ?_) rfl (by kernel_rfl) (by kernel_rfl) (by kernel_rfl) (fun _ _ _ h => h) (Or.inl ⟨by rfl, ?_⟩) (by assumption) ?_
              rotate_left
              · (intro w hSw; go_simp; try (with_reducible rfl))
              try simp only [Act.put, List.getElem_toArray, List.getElem_cons_zero, List.getElem_cons_succ, List.setIfInBounds_toArray, List.set_cons_zero, List.set_cons_succ]
              refine wpAnyH_take (i := 6) (v := ?_) rfl (by kernel_rfl) (by kernel_rfl) (by kernel_rfl) (fun _ _ _ h => h) (Or.inl ⟨by rfl, ?_⟩) (by assumption) ?_
              rotate_left
              · (intro w hSw; have hc0 := C4.out w hSw; go_simp; try (with_reducible rfl))
              try simp only [Act.put, List.getElem_toArray, List.getElem_cons_zero, List.getElem_cons_succ, List.setIfInBounds_toArray, List.set_cons_zero, List.set_cons_succ]
              refine wpAnyH_take (i := 7) (v := ?_) rfl (by kernel_rfl) (by kernel_rfl) (by kernel_rfl) (fun _ _ _ h => h) (Or.inl ⟨by rfl, ?_⟩) (by assumption) ?_
              rotate_left
              · (intro w hSw; go_simp; try (with_reducible rfl))
              try simp only [Act.put, List.getElem_toArray, List.getElem_cons_zero, List.getElem_cons_succ, List.setIfInBounds_toArray, List.set_cons_zero, List.set_cons_succ]
              refine wpAnyH_take (i := 8) (v := ?_) rfl (by kernel_rfl) (by kernel_rfl) (by kernel_rfl) (fun _ _ _ h => h) (Or.inl ⟨by rfl, ?_⟩) (by assumption) ?_
              rotate_left
              · (intro w hSw; go_simp; try (with_reducible rfl))
              try simp only [Act.put, List.getElem_toArray, List.getElem_cons_zero, List.getElem_cons_succ, List.setIfInBounds_toArray, List.set_cons_zero, List.set_cons_succ]
              refine wpAnyH_take (i := 9) rfl (by kernel_rfl) (by kernel_rfl) (by kernel_rfl) (fun _ _ _ h => h) (yields_qu C2 (by rfl) _ rfl rfl) (by assumption) ?_
              try simp only [Act.put, List.getElem_toArray, List.getElem_cons_zero, List.getElem_cons_succ, List.setIfInBounds_toArray, List.set_cons_zero, List.set_cons_succ]
              refine wpAnyH_take (i := 10) (v := ?_) rfl (by kernel_rfl) (by kernel_rfl) (by kernel_rfl) (fun _ _ _ h => h) (Or.inl ⟨by rfl, ?_⟩) (by assumption) ?_
              rotate_left
              · (intro w hSw; go_simp; try (with_reducible rfl))
              try simp only [Act.put, List.getElem_toArray, List.getElem_cons_zero, List.getElem_cons_succ, List.setIfInBounds_toArray, List.set_cons_zero, List.set_cons_succ]
              refine wpAnyH_done (by kernel_rfl) ?_ _
              refine NoPanic.normal ?_
              clear q gd C1 C2 C3 C4 HSS hHeld e12
              go_wp2_with fail
              go_ret
              exact ⟨rfl, HBD.out⟩
          · obtain rfl : k = N := by omega
            have hd : decide ((k : Int) < (k : Int)) = false := by simp
            have HQE : Hid (q1 = q2) := Lib.hid (List.ext_getElem (by rw [HN.out, HM.out]; exact HNM.out) (fun j h1 h2 => HO.out j h1 h2 (by rw [← HN.out]; exact h1)))
            have ER : R = (decide (x1 = x2) && decide (y1 = y2) && decide (z1 = z2)) := by
              rw [HEQ.out, Bool.eq_iff_iff]
              simp only [Bool.and_eq_true, decide_eq_true_iff]
              exact ⟨fun h => ⟨⟨h.2.2.2.1, h.2.2.2.2.1⟩, h.2.2.2.2.2⟩, fun h => ⟨HI.out, HF1.out, HQE.out, h.1.1, h.1.2, h.2⟩⟩
            generalize decide (x1 = x2) = r1 at *
            generalize decide (y1 = y2) = r2 at *
            generalize decide (z1 = z2) = r3 at *
            subst ER
            have e13 := HX.out.c3
            have e23 := HY.out.c3
            clear HO HEQ HQE
            go_wp2_with fail
            refine (HA1 _ HB.out).out.mono ?_
            rintro e w2 ⟨rfl, hbx⟩
            replace HB := Lib.hid (chain HB.out hbx)
            replace HX := Lib.hid (HX.out.below hbx)
            replace HY := Lib.hid (HY.out.below hbx)
            clear hbx HA1 e12 e13 e23
            cases r1 with
            | false =>
              go_wp2_with fail
              go_ret
              exact ⟨rfl, HB.out⟩
            | true =>
              have e14 := HX.out.c4
              have e24 := HY.out.c4
              go_wp2_with fail
              refine (HA2 _ HB.out).out.mono ?_
              rintro e w3 ⟨rfl, hbx⟩
              replace HB := Lib.hid (chain HB.out hbx)
              replace HX := Lib.hid (HX.out.below hbx)
              replace HY := Lib.hid (HY.out.below hbx)
              clear hbx HA2 e14 e24
              cases r2 with
              | false =>
                go_wp2_with fail
                go_ret
                exact ⟨rfl, HB.out⟩
              | true =>
                have e15 := HX.out.c5
                have e25 := HY.out.c5
                go_wp2_with fail
                refine (HA3 _ HB.out).out.mono ?_
                rintro e w4 ⟨rfl, hbx⟩
                replace HB := Lib.hid (chain HB.out hbx)
                clear hbx HA3 e15 e25
                go_wp2_with fail
                go_ret
                exact ⟨rfl, HB.out⟩
      · have hnb : ((N : Int) != (M : Int)) = true := by rw [bne_iff_ne]; omega
        have ER : R = false := by
          rw [HEQ.out]
          refine decide_eq_false (fun h => hNM ?_)
          rw [← HN.out, ← HM.out, h.2.2.1]
        subst ER
        go_enter Try.func17, Try.ntmps17
        go_upto_region 1 with fail
        try rw [hW]
        clear hW
        go_wp2_with fail
        go_ret
        exact ⟨rfl, HB0.out⟩
    · have hfb : (f1 != f2) = true := by rw [bne_iff_ne]; exact hf
      have ER : R = false := by rw [HEQ.out]; exact decide_eq_false (fun h => hf h.2.1)
      subst ER
      go_enter Try.func17, Try.ntmps17
      go_upto_region 1 with fail
      try rw [hW]
      clear hW
      go_wp2_with fail
      go_ret
      exact ⟨rfl, HB0.out⟩
  · have hib : (i1 != i2) = true := by rw [bne_iff_ne]; exact hi
    have ER : R = false := by rw [HEQ.out]; exact decide_eq_false (fun h => hi h.1)
    subst ER
    go_enter Try.func17, Try.ntmps17
    go_upto_region 1 with fail
    try rw [hW]
    clear hW
    go_wp2_with fail
    go_ret
    exact ⟨rfl, HB0.out⟩
end Go.Proofs.Yticdpidngmeebaa
/- Contracts of slices.Equal at records and at questions. -/
namespace Go.Proofs.Yticdpidngmeebaa
open Go.RowKit
set_option linter.unusedVariables false
set_option maxRecDepth 20000

end Go.Proofs.Yticdpidngmeebaa
/- Contract of the landed wire's Same. -/
namespace Go.Proofs.Yticdpidngmeebaa
open Go.RowKit
set_option linter.unusedVariables false
set_option maxRecDepth 20000

end Go.Proofs.Yticdpidngmeebaa
/- A record of one's own in memory: stored whole and in part, given back. -/
namespace Go.Proofs.Yticdpidngmeebaa
open Go.RowKit
set_option linter.unusedVariables false
set_option maxRecDepth 20000

/-- A record lies at G, and may be written. -/
structure RecAt (w : World) (G : Nat) (r : Rec) : Prop where
  len : r.b.length = 16
  lt : G < w.heap.size
  range : w.rangeAt G 0 (recL r)
  there : w.there G 0 23
section
variable {w w' : World} {G : Nat} {r : Rec}
theorem RecAt.below (h : RecAt w G r) (hb : Below w.heap.size w w') : RecAt w' G r :=
  ⟨h.len, Nat.lt_of_lt_of_le h.lt hb.size, fun j u hu => by rw [hb.cell (p := ⟨G, 0 + j, none⟩) h.lt]; exact h.range j u hu, fun j hj => by
    rw [hb.cell (p := ⟨G, 0 + j, none⟩) h.lt, hb.frozen (p := ⟨G, 0 + j, none⟩) h.lt]
    exact h.there j hj⟩
theorem RecAt.parts (h : RecAt w G r) : RecIn w G 0 r := rec_parts h.range h.len
theorem RecAt.cell (h : RecAt w G r) (k : Nat) (v : Value) (hv : (recL r)[k]? = some v) : w.cell? ⟨G, k, none⟩ = some v := by
  have := h.range k v hv
  rwa [Nat.zero_add] at this
theorem RecAt.live (h : RecAt w G r) (k : Nat) (hk : k < 23) : w.frozen? ⟨G, k, none⟩ = false := by
  have := (h.there k hk).2
  rwa [Nat.zero_add] at this
theorem RecAt.stored (h : RecAt w G r) (s : Rec) (hl : s.b.length = 16) : RecAt (w.setCells G 0 (recL s)) G s := by
  have ht : w.there G 0 (recL s).length := by rw [recL_len s hl]; exact h.there
  exact ⟨hl, by rw [size_setCells]; exact h.lt, World.rangeAt_setCells_same w G 0 _ ht, World.there_setCells h.there G 0 _⟩
theorem RecAt.other (h : RecAt w G r) {G' : Nat} (hG : G' ≠ G) (k : Nat) (v : Value) : RecAt (w.setCell ⟨G', k, none⟩ v) G r := by
  have hn : ∀ j, (⟨G', k, none⟩ : Addr) ≠ ⟨G, j, none⟩ := fun j h2 => by injection h2 with h3 _ _; exact hG h3
  refine ⟨h.len, by simpa using h.lt, fun j u hu => ?_, fun j hj => ⟨?_, ?_⟩⟩
  · rw [World.cell?_setCell_other _ _ _ _ (hn _)]; exact h.range j u hu
  · rw [World.cell?_setCell_other _ _ _ _ (hn _)]; exact (h.there j hj).1
  · rw [World.frozen?_setCell]; exact (h.there j hj).2
theorem RecAt.apart (h : RecAt w G r) {G' o : Nat} (hG : G ≠ G') (vs : List Value) : RecAt (w.setCells G' o vs) G r :=
  ⟨h.len, by rw [size_setCells]; exact h.lt, World.rangeAt_setCells_apart h.range G' o vs (.inl hG), World.there_setCells h.there G' o vs⟩
/-- One cell of it written. -/
theorem RecAt.set (h : RecAt w G r) (k : Nat) (v : Value) (s : Rec) (hs : s.b.length = 16) (hk : k < 23) (hL : recL s = (recL r).set k v) : RecAt (w.setCell ⟨G, k, none⟩ v) G s := by
  have hl := recL_len r h.len
  obtain ⟨u0, hu0⟩ : ∃ u, (recL r)[k]? = some u := ⟨_, List.getElem?_eq_getElem (by omega)⟩
  refine ⟨hs, by simpa using h.lt, fun j u hu => ?_, fun j hj => ⟨?_, ?_⟩⟩
  · rw [Nat.zero_add]
    rw [hL] at hu
    by_cases e : j = k
    · subst e
      rw [List.getElem?_set_self (by omega)] at hu
      cases hu
      exact World.cell?_setCell_same _ _ _ (h.cell j u0 hu0)
    · rw [List.getElem?_set_ne (fun e2 => e e2.symm)] at hu
      rw [World.cell?_setCell_other _ _ _ _ (by intro h2; injection h2 with _ h3 _; omega)]
      exact h.cell j u hu
  · rw [Nat.zero_add]
    by_cases e : j = k
    · subst e
      rw [World.cell?_setCell_same _ _ _ (h.cell j u0 hu0)]
      rfl
    · rw [World.cell?_setCell_other _ _ _ _ (by intro h2; injection h2 with _ h3 _; omega)]
      have := (h.there j hj).1
      rwa [Nat.zero_add] at this
  · rw [World.frozen?_setCell]
    exact (h.there j hj).2
end
theorem recL_fam (r : Rec) (x : Int) : recL { r with f := x } = (recL r).set 4 (.int .i64 x) := rfl
theorem recL_tg (r : Rec) (h16 : r.b.length = 16) (x : ByteArray) : recL { r with tg := x } = (recL r).set 21 (.string x) := by
  have hl := addrL_len r.f r.b h16
  unfold recL
  rw [List.set_append_right _ _ (by simp [hl])]
  simp [hl]
theorem recL_da (r : Rec) (h16 : r.b.length = 16) (x : ByteArray) : recL { r with da := x } = (recL r).set 22 (.string x) := by
  have hl := addrL_len r.f r.b h16
  unfold recL
  rw [List.set_append_right _ _ (by simp [hl])]
  simp [hl]
theorem RecAt.of (w : World) (t : TypeId) (cs : Array Value) (r : Rec) (h16 : r.b.length = 16) (h : cs.toList = recL r) : RecAt (w.alloc (.cells cs t)) w.heap.size r := by
  have e : ∀ j, cs[j]? = (recL r)[j]? := fun j => by rw [← h, Array.getElem?_toList]
  refine ⟨h16, by simp, fun j u hu => ?_, fun j hj => ⟨?_, World.frozen?_alloc_new _ _ _ _⟩⟩
  · rw [World.cell?_alloc_new, Nat.zero_add, e]; exact hu
  · rw [World.cell?_alloc_new, Nat.zero_add, e, List.getElem?_eq_getElem (by rw [recL_len r h16]; exact hj)]; rfl
/-- A record of zeros. -/
def zR : Rec := ⟨⟨#[]⟩, 0, 0, 0, 0, List.replicate 16 0, ⟨#[]⟩, ⟨#[]⟩⟩
abbrev zC : Array Value := #[.string ⟨#[]⟩, .int .i64 0, .int .i64 0, .int .i64 0, .int .i64 0, .int .u8 0, .int .u8 0, .int .u8 0, .int .u8 0, .int .u8 0, .int .u8 0, .int .u8 0, .int .u8 0, .int .u8 0, .int .u8 0, .int .u8 0, .int .u8 0, .int .u8 0, .int .u8 0, .int .u8 0, .int .u8 0, .string ⟨#[]⟩, .string ⟨#[]⟩]
theorem rec_zeroed (w : World) : RecAt (w.alloc (.cells zC 42)) w.heap.size zR := RecAt.of w _ _ zR rfl rfl
theorem loadVar_rec {w : World} {G : Nat} {r : Rec} (h : RecAt w G r) : (loadVar 42 ⟨G, 0, none⟩).run Try.prog w = .ok (recV r) w :=
  run_loadVar_mid w G 0 42 (recL r) _ h.range Try.underlying42 rfl (by rw [rec_size, recL_len r h.len])
theorem results_rec {fn : Func} {a : Tmp} {tmps : Array Value} {W : World} {R : Nat} {r : Rec} (h : fn.results = #[.cell a 42]) (ha : tmps.getD a undef = .pointer (some ⟨R, 0, none⟩)) (hA : RecAt W R r) : (results fn tmps).run Try.prog W = .ok (recV r) W := by
  rw [Array.getD_eq_getD_getElem?] at ha
  simp [results, h, ha, asAddr, loadVar_rec hA]
/-- A record, stored whole. -/
theorem store_rec {ops : Array Oper} {rest : List Oper} {op : Oper} {a : Act} {w : World} {Q : Exit → Act → World → Prop} {G : Nat} {r0 r : Rec} (hA : Hid (RecAt w G r0)) (x y : Operand) (hl : Hid (r.b.length = 16)) (hgd : op.guard = none) (ho : op.op = .store 42 x y)
    (hx : a.eval x = .pointer (some ⟨G, 0, none⟩)) (hy : a.eval y = recV r) (h : ∀ W, Hid (W = w.setCells G 0 (recL r)) → Hid (RecAt W G r) → wpList Try.prog ops Q rest (a.put op.dst undef) W) : wpList Try.prog ops Q (op :: rest) a w :=
  wpList_store_mid hgd 42 x y ho G 0 (recL r).toArray hx hy (by rw [List.size_toArray, recL_len r hl.out]; exact hA.out.there) (by rw [rec_size, List.size_toArray, recL_len r hl.out]) (all_oneCell_toArray (recL_one r)) (h _ (Lib.hid rfl) (Lib.hid (hA.out.stored r hl.out)))
theorem load_recAt {ops : Array Oper} {rest : List Oper} {op : Oper} {a : Act} {w : World} {Q : Exit → Act → World → Prop} {G : Nat} {r : Rec} (hA : Hid (RecAt w G r)) (x : Operand) (hw : Region.wanted op (yielded ops a.tmps) = true) (ho : op.op = .load 42 x)
    (hx : a.eval x = .pointer (some ⟨G, 0, none⟩)) (h : wpList Try.prog ops Q rest (a.put op.dst (recV r)) w) : wpList Try.prog ops Q (op :: rest) a w :=
  load_rec (Lib.hid hA.out.len) (Lib.hid hA.out.range) x hw ho hx h
theorem built_rec4 (nm : ByteArray) (ty cl ttl : Int) : Try.prog.built 42 [(0, .string nm), (1, .int .i64 ty), (2, .int .i64 cl), (3, .int .i64 ttl)] = some (recL { zR with name := nm, ty := ty, cl := cl, ttl := ttl }).toArray := rfl
theorem build_rec4 {ops : Array Oper} {rest : List Oper} {op : Oper} {a : Act} {w : World} {Q : Exit → Act → World → Prop} {nm : ByteArray} {ty cl ttl : Int} (hg : op.guard = none) (x0 x1 x2 x3 : Operand) (ho : op.op = .build 42 #[(0, x0), (1, x1), (2, x2), (3, x3)])
    (h0 : a.eval x0 = .string nm) (h1 : a.eval x1 = .int .i64 ty) (h2 : a.eval x2 = .int .i64 cl) (h3 : a.eval x3 = .int .i64 ttl) (h : wpList Try.prog ops Q rest (a.put op.dst (recV { zR with name := nm, ty := ty, cl := cl, ttl := ttl })) w) : wpList Try.prog ops Q (op :: rest) a w := by
  have e : Try.prog.built 42 ((#[(0, x0), (1, x1), (2, x2), (3, x3)] : Array (Nat × Operand)).map fun (i, x) => (i, a.eval x)).toList = some (recL { zR with name := nm, ty := ty, cl := cl, ttl := ttl }).toArray := by
    simp only [List.map_toArray, List.map_cons, List.map_nil]
    rw [h0, h1, h2, h3]; exact built_rec4 nm ty cl ttl
  refine wpList_build hg 42 _ ho (by rw [e]; rfl) ?_
  rw [e]
  exact h
end Go.Proofs.Yticdpidngmeebaa
/- Records appended to a row of one's own. -/
namespace Go.Proofs.Yticdpidngmeebaa
open Go.RowKit
set_option linter.unusedVariables false
set_option maxRecDepth 20000

def All16 (D : List Rec) : Prop := ∀ r ∈ D, r.b.length = 16
theorem flatR_len : ∀ (D : List Rec), All16 D → (flatR D).length = D.length * 23
  | [], _ => rfl
  | e :: es, h => by
    have h1 := recL_len e (h e (by simp))
    have h2 := flatR_len es (fun x hx => h x (by simp [hx]))
    show (recL e ++ flatR es).length = _
    rw [List.length_append, h1, h2, List.length_cons]
    omega
theorem flatR_append (xs ys : List Rec) : flatR (xs ++ ys) = flatR xs ++ flatR ys := by simp [flatR]
theorem flatR_one (D : List Rec) : ∀ u ∈ flatR D, u.oneCell' = true := by
  intro u hu
  obtain ⟨e, he, h2⟩ := List.mem_flatMap.1 hu
  exact recL_one e u h2
theorem infoR : (Try.prog.info? 42).map (fun i => (i.zero, i.size, i.bytes)) = some (some (.agg zC), 23, 96) := by kernel_rfl
/-- A row of records of one's own. -/
def RowR (w : World) (base : Nat) (v : Value) (D : List Rec) : Prop := w.ownsRow base 42 23 v D.length (flatR D) ∧ All16 D
theorem RowR.nil (w : World) (base : Nat) : RowR w base (.slice none 0 0) [] := ⟨World.ownsRow_nil _ _ _ _, fun r hr => by cases hr⟩
theorem RowR.below {w w' : World} {base : Nat} {v : Value} {D : List Rec} (h : RowR w base v D) (hb : Below w.heap.size w w') : RowR w' base v D := ⟨own_below8 h.1 hb, h.2⟩
/-- Records that lie somewhere are appended. -/
theorem append_recs {ops : Array Oper} {rest : List Oper} {op : Oper} {a : Act} {w : World} {Q : Exit → Act → World → Prop} {base : Nat} {v : Value} {D : List Rec} (hE : Hid (RowR w base v D)) (s x : Operand) (hgd : op.guard = none) (ho : op.op = .call { callee := .builtin .append, args := #[s, x], argTypes := #[23, 23] })
    (hs : a.eval s = v) {G o m c : Nat} (ys : List Rec) (hx : a.eval x = .slice (some ⟨G, o, none⟩) m c) (hm : Hid (m = ys.length)) (hr : Hid (w.rangeAt G o (flatR ys))) (hy : Hid (All16 ys)) (hle : Hid (D.length + ys.length ≤ 100000)) (hbase : Hid (base ≤ w.heap.size))
    (h : ∀ v' w', Hid (RowR w' base v' (D ++ ys)) → Hid (w.grownBy w' v.ownBlock) → Hid (v'.ownBlock = v.ownBlock ∨ v'.ownBlock = some w.heap.size) → wpList Try.prog ops Q rest (a.put op.dst v') w') : wpList Try.prog ops Q (op :: rest) a w := by
  obtain ⟨i0, hi0, hz0, hz1, hz2⟩ := info_parts infoR
  have hml := hm.out
  have hll := hle.out
  refine wpList_append_own_at w hgd s x 23 ho base 42 i0 _ 23 96 Try.underlying23 hi0 hz0 hz1 hz2 rfl (by decide) v D.length (flatR D) hs hE.out.1 ⟨G, o, none⟩ m c (flatR ys) hx (by rw [flatR_len ys hy.out, hml]) (fun j u hu => ?_) (flatR_one ys) (by unfold maxLen; omega) (by omega) hbase.out (fun v' w' h1 h2 _ h4 => ?_)
  · have := hr.out j u hu
    have hadd : (⟨G, o, none⟩ : Addr).add j = ⟨G, o + j, none⟩ := by unfold Addr.add; split <;> simp_all
    rw [hadd]
    exact this
  · refine h v' w' (Lib.hid ⟨?_, ?_⟩) (Lib.hid h2) (Lib.hid h4)
    · rw [List.length_append, flatR_append, ← hml]; exact h1
    · intro e he
      rcases List.mem_append.1 he with he | he
      · exact hE.out.2 e he
      · exact hy.out e he
theorem fillR (r : Rec) (h16 : r.b.length = 16) : Instr.fill (fun i => some (i * 23, 23)) ((Array.range (1 * 23)).map fun j => zC[j % zC.size]!) [(0, recV r)] = some (recL r).toArray := by
  obtain ⟨nm, ty, cl, ttl, f, b, tg, da⟩ := r
  obtain ⟨y0, y1, y2, y3, y4, y5, y6, y7, y8, y9, y10, y11, y12, y13, y14, y15, rfl⟩ := list16 b h16
  kernel_rfl
theorem run_buildR (r : Rec) (w : World) (h16 : r.b.length = 16) : (Instr.buildSlice 23 1 #[(0, recV r)]).run Try.prog w = .ok (.slice (some ⟨w.heap.size, 0, none⟩) 1 1) (w.alloc (.cells (recL r).toArray 42)) := by
  obtain ⟨i0, hi0, hz0, hz1, hz2⟩ := info_parts infoR
  have hf := fillR r h16
  obtain ⟨Z, hZ⟩ : ∃ Z : Array Value, zC = Z := ⟨_, rfl⟩
  rw [hZ] at hf hz0
  have hsz : (sizeOf 42).run Try.prog w = .ok 23 w := by simp [sizeOf, typeInfo, hi0, hz1]
  have hzv : (zeroValue 42).run Try.prog w = .ok (.agg Z) w := by simp [zeroValue, typeInfo, hi0, hz0]
  have hnr : ∀ cs : Array Value, (newRow 42 cs).run Try.prog w = .ok ⟨w.heap.size, 0, none⟩ (w.alloc (.cells cs 42)) := fun cs => by simp [newRow]
  have hu : (underlying 23).run Try.prog w = .ok _ w := run_underlying Try.underlying23 w
  have hfc : Instr.fill (fun i => some (i * 23, 23)) ((Array.range (1 * 23)).map fun j => (Value.agg Z).cells[j % (Value.agg Z).cells.size]!) (#[(0, recV r)] : Array (Nat × Value)).toList = some (recL r).toArray := hf
  unfold Instr.buildSlice
  simp only [Sem.run_bind, hu, Result.andThen_ok, hsz, if_neg (show ¬ (1 * 23 > 2 ^ 24) by decide), Sem.run_pure, if_neg (show ¬ (1 * 23 = 0) by decide), hzv, hfc, hnr]
theorem build_recS {ops : Array Oper} {rest : List Oper} {op : Oper} {a : Act} {w : World} {Q : Exit → Act → World → Prop} {r : Rec} (hl : Hid (r.b.length = 16)) (hg : op.guard = none) (x : Operand) (ho : op.op = .buildSlice 23 1 #[(0, x)])
    (hx : a.eval x = recV r) (h : ∀ W, Hid (W = w.alloc (.cells (recL r).toArray 42)) → wpList Try.prog ops Q rest (a.put op.dst (.slice (some ⟨w.heap.size, 0, none⟩) 1 1)) W) : wpList Try.prog ops Q (op :: rest) a w := by
  refine wpList_plain hg fun K hK => ?_
  unfold Oper.wp execOp
  simp only [ho, List.map_toArray, List.map_cons, List.map_nil, hx, Sem.run_bind, run_buildR r w hl.out, Result.andThen_ok]
  exact hK _ _ (h _ (Lib.hid rfl))
theorem built_new {w : World} {cs : List Value} (t : TypeId) : (w.alloc (.cells cs.toArray t)).rangeAt w.heap.size 0 cs := by
  intro j u hu
  rw [World.cell?_alloc_new, Nat.zero_add]
  simpa using hu
end Go.Proofs.Yticdpidngmeebaa
/- Questions appended to a row of one's own. -/
namespace Go.Proofs.Yticdpidngmeebaa
open Go.RowKit
set_option linter.unusedVariables false
set_option maxRecDepth 20000

def flatQ (D : List Qu) : List Value := D.flatMap quL
theorem flatQ_len : ∀ (D : List Qu), (flatQ D).length = D.length * 3
  | [] => rfl
  | e :: es => by
    have h2 := flatQ_len es
    show (quL e ++ flatQ es).length = _
    rw [List.length_append, h2, List.length_cons]
    show 3 + es.length * 3 = _
    omega
theorem flatQ_append (xs ys : List Qu) : flatQ (xs ++ ys) = flatQ xs ++ flatQ ys := by simp [flatQ]
theorem flatQ_one (D : List Qu) : ∀ u ∈ flatQ D, u.oneCell' = true := by
  intro u hu
  obtain ⟨e, he, h2⟩ := List.mem_flatMap.1 hu
  unfold quL at h2
  simp at h2
  rcases h2 with rfl | rfl | rfl <;> rfl
abbrev zQ : Array Value := #[.string ⟨#[]⟩, .int .i64 0, .int .i64 0]
theorem infoQ : (Try.prog.info? 51).map (fun i => (i.zero, i.size, i.bytes)) = some (some (.agg zQ), 3, 32) := by kernel_rfl
/-- A row of questions of one's own. -/
def RowQ (w : World) (base : Nat) (v : Value) (D : List Qu) : Prop := w.ownsRow base 51 3 v D.length (flatQ D)
theorem RowQ.nil (w : World) (base : Nat) : RowQ w base (.slice none 0 0) [] := World.ownsRow_nil _ _ _ _
theorem RowQ.below {w w' : World} {base : Nat} {v : Value} {D : List Qu} (h : RowQ w base v D) (hb : Below w.heap.size w w') : RowQ w' base v D := own_below8 h hb
/-- Questions that lie somewhere are appended. -/
theorem append_qus {ops : Array Oper} {rest : List Oper} {op : Oper} {a : Act} {w : World} {Q : Exit → Act → World → Prop} {base : Nat} {v : Value} {D : List Qu} (hE : Hid (RowQ w base v D)) (s x : Operand) (hgd : op.guard = none) (ho : op.op = .call { callee := .builtin .append, args := #[s, x], argTypes := #[22, 22] })
    (hs : a.eval s = v) {G o m c : Nat} (ys : List Qu) (hx : a.eval x = .slice (some ⟨G, o, none⟩) m c) (hm : Hid (m = ys.length)) (hr : Hid (w.rangeAt G o (flatQ ys))) (hle : Hid (D.length + ys.length ≤ 100000)) (hbase : Hid (base ≤ w.heap.size))
    (h : ∀ v' w', Hid (RowQ w' base v' (D ++ ys)) → Hid (w.grownBy w' v.ownBlock) → Hid (v'.ownBlock = v.ownBlock ∨ v'.ownBlock = some w.heap.size) → wpList Try.prog ops Q rest (a.put op.dst v') w') : wpList Try.prog ops Q (op :: rest) a w := by
  obtain ⟨i0, hi0, hz0, hz1, hz2⟩ := info_parts infoQ
  have hml := hm.out
  have hll := hle.out
  refine wpList_append_own_at w hgd s x 22 ho base 51 i0 _ 3 32 Try.underlying22 hi0 hz0 hz1 hz2 rfl (by decide) v D.length (flatQ D) hs hE.out ⟨G, o, none⟩ m c (flatQ ys) hx (by rw [flatQ_len ys, hml]) (fun j u hu => ?_) (flatQ_one ys) (by unfold maxLen; omega) (by omega) hbase.out (fun v' w' h1 h2 _ h4 => ?_)
  · have := hr.out j u hu
    have hadd : (⟨G, o, none⟩ : Addr).add j = ⟨G, o + j, none⟩ := by unfold Addr.add; split <;> simp_all
    rw [hadd]
    exact this
  · refine h v' w' (Lib.hid ?_) (Lib.hid h2) (Lib.hid h4)
    unfold RowQ
    rw [List.length_append, flatQ_append, ← hml]; exact h1
theorem fillQ (q : Qu) : Instr.fill (fun i => some (i * 3, 3)) ((Array.range (1 * 3)).map fun j => zQ[j % zQ.size]!) [(0, quV q)] = some (quL q).toArray := by
  obtain ⟨nm, ty, cl⟩ := q
  kernel_rfl
theorem run_buildQ (q : Qu) (w : World) : (Instr.buildSlice 22 1 #[(0, quV q)]).run Try.prog w = .ok (.slice (some ⟨w.heap.size, 0, none⟩) 1 1) (w.alloc (.cells (quL q).toArray 51)) := by
  obtain ⟨i0, hi0, hz0, hz1, hz2⟩ := info_parts infoQ
  have hf := fillQ q
  obtain ⟨Z, hZ⟩ : ∃ Z : Array Value, zQ = Z := ⟨_, rfl⟩
  rw [hZ] at hf hz0
  have hsz : (sizeOf 51).run Try.prog w = .ok 3 w := by simp [sizeOf, typeInfo, hi0, hz1]
  have hzv : (zeroValue 51).run Try.prog w = .ok (.agg Z) w := by simp [zeroValue, typeInfo, hi0, hz0]
  have hnr : ∀ cs : Array Value, (newRow 51 cs).run Try.prog w = .ok ⟨w.heap.size, 0, none⟩ (w.alloc (.cells cs 51)) := fun cs => by simp [newRow]
  have hu : (underlying 22).run Try.prog w = .ok _ w := run_underlying Try.underlying22 w
  have hfc : Instr.fill (fun i => some (i * 3, 3)) ((Array.range (1 * 3)).map fun j => (Value.agg Z).cells[j % (Value.agg Z).cells.size]!) (#[(0, quV q)] : Array (Nat × Value)).toList = some (quL q).toArray := hf
  unfold Instr.buildSlice
  simp only [Sem.run_bind, hu, Result.andThen_ok, hsz, if_neg (show ¬ (1 * 3 > 2 ^ 24) by decide), Sem.run_pure, if_neg (show ¬ (1 * 3 = 0) by decide), hzv, hfc, hnr]
theorem build_quS {ops : Array Oper} {rest : List Oper} {op : Oper} {a : Act} {w : World} {Q : Exit → Act → World → Prop} {q : Qu} (hg : op.guard = none) (x : Operand) (ho : op.op = .buildSlice 22 1 #[(0, x)])
    (hx : a.eval x = quV q) (h : ∀ W, Hid (W = w.alloc (.cells (quL q).toArray 51)) → wpList Try.prog ops Q rest (a.put op.dst (.slice (some ⟨w.heap.size, 0, none⟩) 1 1)) W) : wpList Try.prog ops Q (op :: rest) a w := by
  refine wpList_plain hg fun K hK => ?_
  unfold Oper.wp execOp
  simp only [ho, List.map_toArray, List.map_cons, List.map_nil, hx, Sem.run_bind, run_buildQ q w, Result.andThen_ok]
  exact hK _ _ (h _ (Lib.hid rfl))
theorem build_qu3 {ops : Array Oper} {rest : List Oper} {op : Oper} {a : Act} {w : World} {Q : Exit → Act → World → Prop} {nm : ByteArray} {ty cl : Int} (hg : op.guard = none) (x0 x1 x2 : Operand) (ho : op.op = .build 51 #[(0, x0), (1, x1), (2, x2)])
    (h0 : a.eval x0 = .string nm) (h1 : a.eval x1 = .int .i64 ty) (h2 : a.eval x2 = .int .i64 cl) (h : wpList Try.prog ops Q rest (a.put op.dst (quV ⟨nm, ty, cl⟩)) w) : wpList Try.prog ops Q (op :: rest) a w := by
  have e0 : Try.prog.built 51 [(0, .string nm), (1, .int .i64 ty), (2, .int .i64 cl)] = some (quL ⟨nm, ty, cl⟩).toArray := rfl
  have e : Try.prog.built 51 ((#[(0, x0), (1, x1), (2, x2)] : Array (Nat × Operand)).map fun (i, x) => (i, a.eval x)).toList = some (quL ⟨nm, ty, cl⟩).toArray := by
    simp only [List.map_toArray, List.map_cons, List.map_nil]
    rw [h0, h1, h2]; exact e0
  refine wpList_build hg 51 _ ho (by rw [e]; rfl) ?_
  rw [e]
  exact h
end Go.Proofs.Yticdpidngmeebaa
/- A struct of a few cells of one's own in memory: stored whole, loaded whole, given back: messages. -/
namespace Go.Proofs.Yticdpidngmeebaa
open Go.RowKit
set_option linter.unusedVariables false
set_option maxRecDepth 20000

/-- Cells that lie at the head of block G, and may be written. -/
structure CellsAt (w : World) (G : Nat) (vs : List Value) : Prop where
  lt : G < w.heap.size
  range : w.rangeAt G 0 vs
  there : w.there G 0 vs.length
section
variable {w w' : World} {G : Nat} {vs : List Value}
theorem CellsAt.below (h : CellsAt w G vs) (hb : Below w.heap.size w w') : CellsAt w' G vs :=
  ⟨Nat.lt_of_lt_of_le h.lt hb.size, fun j u hu => by rw [hb.cell (p := ⟨G, 0 + j, none⟩) h.lt]; exact h.range j u hu, fun j hj => by
    rw [hb.cell (p := ⟨G, 0 + j, none⟩) h.lt, hb.frozen (p := ⟨G, 0 + j, none⟩) h.lt]
    exact h.there j hj⟩
theorem CellsAt.cell (h : CellsAt w G vs) (k : Nat) (v : Value) (hv : vs[k]? = some v) : w.cell? ⟨G, k, none⟩ = some v := by
  have := h.range k v hv
  rwa [Nat.zero_add] at this
theorem CellsAt.live (h : CellsAt w G vs) (k : Nat) (hk : k < vs.length) : w.frozen? ⟨G, k, none⟩ = false := by
  have := (h.there k hk).2
  rwa [Nat.zero_add] at this
theorem CellsAt.stored (h : CellsAt w G vs) (us : List Value) (hl : us.length = vs.length) : CellsAt (w.setCells G 0 us) G us := by
  have ht : w.there G 0 us.length := by rw [hl]; exact h.there
  exact ⟨by rw [size_setCells]; exact h.lt, World.rangeAt_setCells_same w G 0 _ ht, World.there_setCells (by rw [hl]; exact h.there) G 0 _⟩
theorem CellsAt.new (w : World) (t : TypeId) (vs : List Value) : CellsAt (w.alloc (.cells vs.toArray t)) w.heap.size vs := by
  have e : ∀ j, vs.toArray[j]? = vs[j]? := fun j => by rw [List.getElem?_toArray]
  refine ⟨by simp, fun j u hu => ?_, fun j hj => ⟨?_, World.frozen?_alloc_new _ _ _ _⟩⟩
  · rw [World.cell?_alloc_new, Nat.zero_add, e]; exact hu
  · rw [World.cell?_alloc_new, Nat.zero_add, e, List.getElem?_eq_getElem hj]; rfl
theorem CellsAt.set (h : CellsAt w G vs) (k : Nat) (v : Value) (hk : k < vs.length) : CellsAt (w.setCell ⟨G, k, none⟩ v) G (vs.set k v) := by
  obtain ⟨u0, hu0⟩ : ∃ u, vs[k]? = some u := ⟨_, List.getElem?_eq_getElem hk⟩
  refine ⟨by simpa using h.lt, fun j u hu => ?_, fun j hj => ⟨?_, ?_⟩⟩
  · rw [Nat.zero_add]
    by_cases e : j = k
    · subst e
      rw [List.getElem?_set_self hk] at hu
      cases hu
      exact World.cell?_setCell_same _ _ _ (h.cell j u0 hu0)
    · rw [List.getElem?_set_ne (fun e2 => e e2.symm)] at hu
      rw [World.cell?_setCell_other _ _ _ _ (by intro h2; injection h2 with _ h3 _; omega)]
      exact h.cell j u hu
  · rw [Nat.zero_add]
    rw [List.length_set] at hj
    by_cases e : j = k
    · subst e
      rw [World.cell?_setCell_same _ _ _ (h.cell j u0 hu0)]
      rfl
    · rw [World.cell?_setCell_other _ _ _ _ (by intro h2; injection h2 with _ h3 _; omega)]
      have := (h.there j hj).1
      rwa [Nat.zero_add] at this
  · rw [World.frozen?_setCell]
    rw [List.length_set] at hj
    exact (h.there j hj).2
theorem CellsAt.other (h : CellsAt w G vs) {G' : Nat} (hG : G' ≠ G) (k : Nat) (v : Value) : CellsAt (w.setCell ⟨G', k, none⟩ v) G vs := by
  have hn : ∀ j, (⟨G', k, none⟩ : Addr) ≠ ⟨G, j, none⟩ := fun j h2 => by injection h2 with h3 _ _; exact hG h3
  refine ⟨by simpa using h.lt, fun j u hu => ?_, fun j hj => ⟨?_, ?_⟩⟩
  · rw [World.cell?_setCell_other _ _ _ _ (hn _)]; exact h.range j u hu
  · rw [World.cell?_setCell_other _ _ _ _ (hn _)]; exact (h.there j hj).1
  · rw [World.frozen?_setCell]; exact (h.there j hj).2
theorem CellsAt.apart (h : CellsAt w G vs) {G' o : Nat} (hG : G ≠ G') (us : List Value) : CellsAt (w.setCells G' o us) G vs :=
  ⟨by rw [size_setCells]; exact h.lt, World.rangeAt_setCells_apart h.range G' o us (.inl hG), World.there_setCells h.there G' o us⟩
end
theorem msg_size : (Try.prog.info? 25).map (·.size) = some 6 := by kernel_rfl
/-- A message of zeros. -/
abbrev zM : List Value := [.int .i64 0, .int .i64 0, .slice none 0 0, .slice none 0 0, .slice none 0 0, .slice none 0 0]
theorem loadVar_msg {w : World} {G : Nat} {vs : List Value} (h : CellsAt w G vs) (hl : vs.length = 6) : (loadVar 25 ⟨G, 0, none⟩).run Try.prog w = .ok (.agg vs.toArray) w :=
  run_loadVar_mid w G 0 25 vs _ h.range Try.underlying25 rfl (by rw [msg_size, hl])
theorem results_msg {fn : Func} {a : Tmp} {tmps : Array Value} {W : World} {R : Nat} {vs : List Value} (h : fn.results = #[.cell a 25]) (ha : tmps.getD a undef = .pointer (some ⟨R, 0, none⟩)) (hA : CellsAt W R vs) (hl : vs.length = 6) : (results fn tmps).run Try.prog W = .ok (.agg vs.toArray) W := by
  rw [Array.getD_eq_getD_getElem?] at ha
  simp [results, h, ha, asAddr, loadVar_msg hA hl]
theorem results_msg2 {fn : Func} {a t : Tmp} {tmps : Array Value} {W : World} {R : Nat} {vs : List Value} (h : fn.results = #[.cell a 25, .tmp t]) (ha : tmps.getD a undef = .pointer (some ⟨R, 0, none⟩)) (hA : CellsAt W R vs) (hl : vs.length = 6) : (results fn tmps).run Try.prog W = .ok (.tuple #[.agg vs.toArray, tmps.getD t undef]) W := by
  rw [Array.getD_eq_getD_getElem?] at ha
  simp [results, h, ha, asAddr, loadVar_msg hA hl]
/-- A message, stored whole. -/
theorem store_msg {ops : Array Oper} {rest : List Oper} {op : Oper} {a : Act} {w : World} {Q : Exit → Act → World → Prop} {G : Nat} {us vs : List Value} (hA : Hid (CellsAt w G us)) (hu : us.length = 6) (x y : Operand) (hgd : op.guard = none) (ho : op.op = .store 25 x y)
    (hx : a.eval x = .pointer (some ⟨G, 0, none⟩)) (hy : a.eval y = .agg vs.toArray) (hl : vs.length = 6) (h1 : vs.all (fun u => u.oneCell') = true) (h : ∀ W, Hid (W = w.setCells G 0 vs) → Hid (CellsAt W G vs) → wpList Try.prog ops Q rest (a.put op.dst undef) W) : wpList Try.prog ops Q (op :: rest) a w :=
  wpList_store_mid hgd 25 x y ho G 0 vs.toArray hx hy (by rw [List.size_toArray, hl, ← hu]; exact hA.out.there) (by rw [msg_size, List.size_toArray, hl]) (all_oneCell_toArray (List.all_eq_true.1 h1)) (h _ (Lib.hid rfl) (Lib.hid (hA.out.stored vs (hl.trans hu.symm))))
theorem load_msg {ops : Array Oper} {rest : List Oper} {op : Oper} {a : Act} {w : World} {Q : Exit → Act → World → Prop} {G : Nat} {vs : List Value} (hA : Hid (CellsAt w G vs)) (hl : vs.length = 6) (x : Operand) (hw : Region.wanted op (yielded ops a.tmps) = true) (ho : op.op = .load 25 x)
    (hx : a.eval x = .pointer (some ⟨G, 0, none⟩)) (h : wpList Try.prog ops Q rest (a.put op.dst (.agg vs.toArray)) w) : wpList Try.prog ops Q (op :: rest) a w :=
  wpList_load_row hw 25 x ho G 0 hx vs _ hA.out.range Try.underlying25 rfl (by rw [msg_size, hl]) h
/-- A row of one's own, where it lies. -/
theorem own_range {w : World} {base : Nat} {t : TypeId} {z : Nat} {v : Value} {n : Nat} {xs : List Value} (h : w.ownsRow base t z v n xs) : ∃ ad c, v = .slice ad n c ∧ n ≤ c ∧ c ≤ maxLen ∧ (n = 0 ∨ ∃ g, ad = some ⟨g, 0, none⟩ ∧ g < w.heap.size ∧ w.rangeAt g 0 xs) := by
  rcases h.2 with ⟨rfl, e⟩ | ⟨g, cap, cur, rfl, hg, hc, h1, h2, _⟩
  · exact ⟨none, 0, by rw [e], by omega, Nat.zero_le _, .inl e⟩
  · refine ⟨_, _, rfl, h1, h2, .inr ⟨g, rfl, (Array.getElem?_eq_some_iff.1 hc).1, fun j u hu => ?_⟩⟩
    have := h.cells (g := g) rfl j u hu
    have hadd : (⟨g, 0, none⟩ : Addr).add j = ⟨g, 0 + j, none⟩ := by unfold Addr.add; split <;> simp_all
    rw [hadd] at this
    exact this
theorem RowR.recs {w : World} {base : Nat} {v : Value} {D : List Rec} (h : RowR w base v D) (hf : ∀ r ∈ D, Fit r) : ∃ ad c, v = .slice ad D.length c ∧ RecsAt w ad c D := by
  obtain ⟨ad, c, e, h1, h2, h3⟩ := own_range h.1
  refine ⟨ad, c, e, h1, h2, hf, ?_⟩
  rcases h3 with h3 | ⟨g, e, hg, hr⟩
  · exact .inl h3
  · exact .inr ⟨g, 0, e, hg, hr⟩
theorem RowQ.qus {w : World} {base : Nat} {v : Value} {D : List Qu} (h : RowQ w base v D) (hf : ∀ r ∈ D, FitQ r) : ∃ ad c, v = .slice ad D.length c ∧ QusAt w ad c D := by
  obtain ⟨ad, c, e, h1, h2, h3⟩ := own_range h
  refine ⟨ad, c, e, h1, h2, hf, ?_⟩
  rcases h3 with h3 | ⟨g, e, hg, hr⟩
  · exact .inl h3
  · exact .inr ⟨g, 0, e, hg, hr⟩
theorem RecsAt.none0 (w : World) : RecsAt w none 0 [] := ⟨Nat.le_refl _, Nat.zero_le _, (fun r (hr : r ∈ []) => absurd hr (by simp)), Or.inl rfl⟩
theorem QusAt.new1 {w : World} {q : Qu} (hf : FitQ q) (t : TypeId) : QusAt (w.alloc (.cells (quL q).toArray t)) (some ⟨w.heap.size, 0, none⟩) 1 [q] :=
  ⟨Nat.le_refl _, by decide, (fun x hx => by rw [List.mem_singleton.1 hx]; exact hf), Or.inr ⟨_, 0, rfl, by simp, by
    have := built_new (w := w) (cs := quL q) t
    simpa using this⟩⟩
theorem QusAt.apart {w : World} {a : Option Addr} {cap : Nat} {D : List Qu} (h : QusAt w a cap D) {G : Nat} (hG : ∀ x, a = some x → x.block ≠ G) (o : Nat) (us : List Value) : QusAt (w.setCells G o us) a cap D := by
  obtain ⟨h1, h2, h3, h4⟩ := h
  refine ⟨h1, h2, h3, ?_⟩
  rcases h4 with h4 | ⟨g, o2, e, hg, hr⟩
  · exact .inl h4
  · exact .inr ⟨g, o2, e, by rw [size_setCells]; exact hg, World.rangeAt_setCells_apart hr G o us (.inl (hG _ e))⟩
theorem RecsAt.apart {w : World} {a : Option Addr} {cap : Nat} {D : List Rec} (h : RecsAt w a cap D) {G : Nat} (hG : ∀ x, a = some x → x.block ≠ G) (o : Nat) (us : List Value) : RecsAt (w.setCells G o us) a cap D := by
  obtain ⟨h1, h2, h3, h4⟩ := h
  refine ⟨h1, h2, h3, ?_⟩
  rcases h4 with h4 | ⟨g, o2, e, hg, hr⟩
  · exact .inl h4
  · exact .inr ⟨g, o2, e, by rw [size_setCells]; exact hg, World.rangeAt_setCells_apart hr G o us (.inl (hG _ e))⟩
theorem setCells_block (b : Nat) : ∀ (vs : List Value) (o : Nat) (w : World) (k : Nat), k ≠ b → (w.setCells b o vs).heap[k]? = w.heap[k]?
  | [], _, _, _, _ => rfl
  | v :: r, o, w, k, h => by rw [World.setCells, setCells_block b r _ _ k h, heap_setCell_other _ _ _ _ h]
/-- A row of one's own is left by a store elsewhere. -/
theorem row_apart {w : World} {b G o : Nat} {t : TypeId} {z n : Nat} {v : Value} {xs us : List Value} (h : w.ownsRow b t z v n xs) (hb : G < b) : (w.setCells G o us).ownsRow b t z v n xs := by
  refine own_kept h (fun g hg => ?_)
  have := (h.lt g hg).1
  exact setCells_block _ _ _ _ _ (by omega)
theorem wp_store_msg {op : Oper} {a : Act} {w : World} {K : Act → World → Prop} {Q : Exit → Act → World → Prop} {G : Nat} {us vs : List Value} (hA : Hid (CellsAt w G us)) (hu : us.length = 6) (x y : Operand) (ho : op.op = .store 25 x y)
    (hx : a.eval x = .pointer (some ⟨G, 0, none⟩)) (hy : a.eval y = .agg vs.toArray) (hl : vs.length = 6) (h1 : vs.all (fun u => u.oneCell') = true) (h : ∀ W, Hid (W = w.setCells G 0 vs) → Hid (CellsAt W G vs) → K (a.put op.dst undef) W) : op.wp Try.prog a w K Q :=
  wp_store_mid 25 x y ho G 0 vs.toArray hx hy (by rw [List.size_toArray, hl, ← hu]; exact hA.out.there) (by rw [msg_size, List.size_toArray, hl]) (all_oneCell_toArray (List.all_eq_true.1 h1)) (h _ (Lib.hid rfl) (Lib.hid (hA.out.stored vs (hl.trans hu.symm))))
theorem MBox.apart {w : World} {G R o : Nat} {v0 v1 v2 v3 v4 v5 : Value} (h : MBox w G v0 v1 v2 v3 v4 v5) (hn : G ≠ R) (us : List Value) : MBox (w.setCells R o us) G v0 v1 v2 v3 v4 v5 := by
  have e : ∀ k, (w.setCells R o us).cell? ⟨G, k, none⟩ = w.cell? ⟨G, k, none⟩ := fun k => World.cell?_of_block (a := ⟨G, k, none⟩) (setCells_block _ _ _ _ _ hn)
  exact ⟨(e 0).trans h.c0, (e 1).trans h.c1, (e 2).trans h.c2, (e 3).trans h.c3, (e 4).trans h.c4, (e 5).trans h.c5⟩
theorem own_oneCell {w : World} {b : Nat} {t : TypeId} {z n : Nat} {v : Value} {xs : List Value} (h : w.ownsRow b t z v n xs) : v.oneCell' = true := by
  rcases h.2 with ⟨rfl, _⟩ | ⟨g, cap, cur, rfl, _⟩ <;> rfl
/-- A message's value, as six cells of which nothing more is seen. -/
theorem msg_row (m : Msg) (aq a1 a2 a3 : Option Addr) (cq c1 c2 c3 : Nat) : ∃ vs : List Value, msgV m aq a1 a2 a3 cq c1 c2 c3 = .agg vs.toArray ∧ vs.length = 6 ∧ vs.all (fun u => u.oneCell') = true := ⟨_, rfl, rfl, rfl⟩
theorem CellsAt.held {w : World} {G : Nat} {vs : List Value} {L : List (Nat × Nat × List Value)} {W : World} (h : CellsAt w G vs) (hL : HeldR L W w) : HeldR ((G, 0, vs) :: L) W w := hL.cons h.range h.lt
end Go.Proofs.Yticdpidngmeebaa
/- Contracts of the landed wire's Ask, Clone and Answer. -/
namespace Go.Proofs.Yticdpidngmeebaa
open Go.RowKit
set_option linter.unusedVariables false
set_option maxRecDepth 20000

/-- A message that asks. -/
def askM (id : Int) (s : ByteArray) (k : Int) : Msg := ⟨id, 256, [⟨s, k, 1⟩], [], [], []⟩
set_option maxRecDepth 100000 in
set_option maxHeartbeats 2000000 in
theorem ask_any (id : Int) (s : ByteArray) (k : Int) (w : World) (hs : s.size ≤ maxLen) (hk : (Lit.int .i64 k).wf = true) :
    Calls Try.prog 23 #[.int .i64 id, .string s, .int .i64 k] w fun e w' => ∃ g, e = .returned (msgV (askM id s k) (some ⟨g, 0, none⟩) none none none 1 0 0 0) ∧ MsgIn w' (askM id s k) (some ⟨g, 0, none⟩) none none none 1 0 0 0 ∧ Below w.heap.size w w' := by
  have HF : Hid (FitQ ⟨s, k, 1⟩) := Lib.hid ⟨hk, (by decide : (Lit.int .i64 1).wf = true), hs⟩
  clear hs hk
  have HZ : Hid (CellsAt (w.alloc (.cells zM.toArray 25)) w.heap.size zM) := Lib.hid (CellsAt.new w _ zM)
  have HB0 : Hid (Below w.heap.size w (w.alloc (.cells zM.toArray 25))) := Lib.hid ((Below.refl _ _).alloc (Nat.le_refl _) _)
  go_enter Try.func23, Try.ntmps23
  go_upto_region 1 with fail
  have HE : Hid (w.alloc (.cells zM.toArray 25) = w.alloc (.cells #[.int .i64 0, .int .i64 0, .slice none 0 0, .slice none 0 0, .slice none 0 0, .slice none 0 0] 25)) := Lib.hid rfl
  obtain ⟨W0, hW0⟩ : ∃ W0, w.alloc (.cells #[.int .i64 0, .int .i64 0, .slice none 0 0, .slice none 0 0, .slice none 0 0, .slice none 0 0] 25) = W0 := ⟨_, rfl⟩
  rw [HE.out, hW0] at HZ HB0
  try rw [hW0]
  clear hW0 HE
  obtain ⟨G, hG⟩ : ∃ G, w.heap.size = G := ⟨_, rfl⟩
  have HG := Lib.hid hG
  rw [hG] at HZ
  try rw [hG]
  clear hG
  go_wp2_with (first | refine build_qu3 rfl _ _ _ rfl rfl rfl rfl ?_ | (refine build_quS rfl _ rfl rfl (fun W HW => ?_); have HZ1 : Hid (CellsAt W G zM) := Lib.hid (by rw [HW.out]; exact HZ.out.below ((Below.refl _ _).alloc (Nat.le_refl _) _))) | (have HZ2 := HZ1; refine store_msg HZ2 rfl _ _ rfl rfl rfl rfl rfl rfl (fun V HV HVC => ?_); clear HZ1))
  have HB1 : Hid (Below w.heap.size w V) := Lib.hid (by rw [HV.out]; exact below_cells (by have := HG.out; omega) _ _ _ (chain HB0.out (by rw [HW.out]; exact (Below.refl _ _).alloc (Nat.le_refl _) _)))
  have HQ : Hid (QusAt V (some ⟨W0.heap.size, 0, none⟩) 1 [⟨s, k, 1⟩]) := Lib.hid (by
    rw [HV.out]
    refine QusAt.apart (by rw [HW.out]; exact QusAt.new1 HF.out _) (fun x hx => ?_) _ _
    cases hx
    have := HZ.out.lt
    exact (Nat.ne_of_lt this).symm)
  exact bodyPost_ret (v := msgV (askM id s k) (some ⟨W0.heap.size, 0, none⟩) none none none 1 0 0 0) (results_msg Try.results23 rfl HVC.out rfl) rfl ⟨_, rfl, ⟨HQ.out, RecsAt.none0 _, RecsAt.none0 _, RecsAt.none0 _⟩, HB1.out⟩
/-- A message that answers. -/
def ansM (q : Msg) (D : List Rec) : Msg := ⟨q.id, 33152, q.qs, D, [], []⟩
/-- What Answer tells. -/
def AnsRet (w : World) (q : Msg) (D : List Rec) (e : Ending) (w' : World) : Prop :=
  Below w.heap.size w w' ∧ ∃ aq a1 cq c1, e = .returned (msgV (ansM q D) aq a1 none none cq c1 0 0) ∧ MsgIn w' (ansM q D) aq a1 none none cq c1 0 0
end Go.Proofs.Yticdpidngmeebaa
/- The pieces of a text, read off its bytes: what a text is cut into, whatever it was put together of. -/
namespace Go.Proofs.Yticdpidngmeebaa
open Go.RowKit
set_option linter.unusedVariables false
set_option maxRecDepth 20000

/-- Bytes, as a text. -/
def ofL (l : List UInt8) : ByteArray := ⟨l.toArray⟩
theorem ofL_data (l : List UInt8) : (ofL l).data.toList = l := by simp [ofL]
theorem eq_ofL {s : ByteArray} {l : List UInt8} (h : s.data.toList = l) : s = ofL l := bytes_ext (by rw [h, ofL_data])

def cutL (sep : Nat) : List UInt8 → List (List UInt8)
  | [] => [[]]
  | c :: l => if c.toNat = sep then [] :: cutL sep l else
    match cutL sep l with
    | [] => [[c]]
    | x :: r => (c :: x) :: r
theorem cutL_none (sep : Nat) : ∀ l : List UInt8, (∀ c ∈ l, c.toNat ≠ sep) → cutL sep l = [l]
  | [], _ => rfl
  | c :: l, h => by
    rw [cutL, if_neg (h c (by simp)), cutL_none sep l (fun x hx => h x (by simp [hx]))]
theorem cutL_first (sep : Nat) (c : UInt8) (hc : c.toNat = sep) (r : List UInt8) : ∀ l : List UInt8, (∀ c ∈ l, c.toNat ≠ sep) → cutL sep (l ++ c :: r) = l :: cutL sep r
  | [], _ => by rw [List.nil_append, cutL, if_pos hc]
  | x :: l, h => by
    rw [List.cons_append, cutL, if_neg (h x (by simp)), cutL_first sep c hc r l (fun x hx => h x (by simp [hx]))]

theorem sp_cut (s : ByteArray) (sep : Nat) : ∀ k, k ≤ s.size →
    cutL sep s.data.toList = (sp s sep k).1.map (fun p => p.data.toList) ++ cutL sep (s.data.toList.drop (sp s sep k).2) ∧ ∀ j (hj : j < s.size), (sp s sep k).2 ≤ j → j < k → (s[j]).toNat ≠ sep
  | 0, _ => ⟨by simp [sp], fun j _ _ h => by omega⟩
  | k + 1, hk => by
    obtain ⟨h1, h2⟩ := sp_cut s sep k (by omega)
    have hle := sp_le s sep k
    have hkl : k < s.data.toList.length := by simp; omega
    by_cases hit : (s[k]).toNat = sep
    · rw [sp_hit s sep k (by omega) hit]
      refine ⟨?_, fun j _ h3 h4 => by simp at h3; omega⟩
      rw [h1]
      have e : s.data.toList.drop (sp s sep k).2 = (s.extract (sp s sep k).2 k).data.toList ++ s[k] :: s.data.toList.drop (k + 1) := by
        rw [data_extract]
        have e1 : s.data.toList.drop k = s[k] :: s.data.toList.drop (k + 1) := by
          rw [List.drop_eq_getElem_cons hkl]; rfl
        rw [← e1]
        have e2 : s.data.toList.drop k = (s.data.toList.drop (sp s sep k).2).drop (k - (sp s sep k).2) := by
          rw [List.drop_drop]; congr 1; omega
        rw [e2, List.take_append_drop]
      rw [e, cutL_first sep _ hit _ _ ?_]
      · simp
      · intro c hc
        rw [data_extract] at hc
        obtain ⟨i, hi, rfl⟩ := List.getElem_of_mem hc
        have hi2 : i < k - (sp s sep k).2 := by simp at hi; omega
        have := h2 ((sp s sep k).2 + i) (by omega) (by omega) (by omega)
        rw [getElem_data] at this
        simpa using this
    · rw [sp_miss s sep k (by omega) hit]
      refine ⟨h1, fun j hj h3 h4 => ?_⟩
      by_cases hjk : j = k
      · subst hjk; exact hit
      · exact h2 j hj h3 (by omega)
theorem pieces_cut (s : ByteArray) (sep : Nat) : pieces s sep = (cutL sep s.data.toList).map ofL := by
  obtain ⟨h1, h2⟩ := sp_cut s sep s.size (Nat.le_refl _)
  have hle := sp_le s sep s.size
  have e : (s.extract (sp s sep s.size).2 s.size).data.toList = s.data.toList.drop (sp s sep s.size).2 := by
    rw [data_extract]
    apply List.take_of_length_le
    simp
  have h3 : cutL sep (s.data.toList.drop (sp s sep s.size).2) = [s.data.toList.drop (sp s sep s.size).2] := by
    apply cutL_none
    intro c hc
    obtain ⟨i, hi, rfl⟩ := List.getElem_of_mem hc
    have hi2 : (sp s sep s.size).2 + i < s.size := by simp at hi; omega
    have := h2 ((sp s sep s.size).2 + i) hi2 (by omega) hi2
    rw [getElem_data] at this
    simpa using this
  rw [h1, h3, List.map_append, List.map_map]
  unfold pieces
  have e2 : (ofL ∘ fun p : ByteArray => p.data.toList) = id := by
    funext p
    simp [ofL]
  rw [e2, List.map_id]
  congr 1
  simp only [List.map_cons, List.map_nil]
  rw [← e, ← eq_ofL rfl]
end Go.Proofs.Yticdpidngmeebaa
/- Names: their labels, the first one, what is left behind it. Plain facts. -/
namespace Go.Proofs.Yticdpidngmeebaa
open Go.RowKit
set_option linter.unusedVariables false
set_option maxRecDepth 20000

/-- Up to the first dot. -/
def headL : List UInt8 → List UInt8
  | [] => []
  | c :: l => if c.toNat = 46 then [] else c :: headL l
/-- Behind the first dot. -/
def tailL : List UInt8 → List UInt8
  | [] => []
  | c :: l => if c.toNat = 46 then l else tailL l
def firstB (s : ByteArray) : ByteArray := ofL (headL s.data.toList)
def parB (s : ByteArray) : ByteArray := ofL (tailL s.data.toList)
theorem u8_dot {c : UInt8} (h : c.toNat = 46) : c = 46 := UInt8.toNat_inj.1 h
theorem head_tail : ∀ l : List UInt8, ((∀ c ∈ l, c.toNat ≠ 46) ∧ headL l = l ∧ tailL l = []) ∨ (l = headL l ++ 46 :: tailL l ∧ ∀ c ∈ headL l, c.toNat ≠ 46)
  | [] => .inl ⟨by simp, rfl, rfl⟩
  | c :: l => by
    by_cases h : c.toNat = 46
    · right
      have hc := u8_dot h
      subst hc
      unfold headL tailL
      rw [if_pos h, if_pos h]
      exact ⟨rfl, by simp⟩
    · unfold headL tailL
      rw [if_neg h, if_neg h]
      rcases head_tail l with ⟨h1, h2, h3⟩ | ⟨h1, h2⟩
      · left
        refine ⟨fun x hx => ?_, by rw [h2], h3⟩
        rcases List.mem_cons.1 hx with rfl | hx
        · exact h
        · exact h1 x hx
      · right
        refine ⟨by rw [List.cons_append, ← h1], fun x hx => ?_⟩
        rcases List.mem_cons.1 hx with rfl | hx
        · exact h
        · exact h2 x hx
theorem data_size (s : ByteArray) : s.data.toList.length = s.size := Array.length_toList
theorem pieces_head (s : ByteArray) : (pieces s 46 = [s] ∧ firstB s = s ∧ parB s = ⟨#[]⟩) ∨ (pieces s 46 = firstB s :: pieces (parB s) 46 ∧ s.data.toList = (firstB s).data.toList ++ 46 :: (parB s).data.toList) := by
  rw [pieces_cut]
  rcases head_tail s.data.toList with ⟨h1, h2, h3⟩ | ⟨h1, h2⟩
  · left
    refine ⟨?_, ?_, ?_⟩
    · rw [cutL_none 46 _ h1]
      exact congrArg (· :: []) (eq_ofL rfl).symm
    · unfold firstB; rw [h2]; exact (eq_ofL rfl).symm
    · unfold parB; rw [h3]; rfl
  · right
    have e1 : (firstB s).data.toList = headL s.data.toList := ofL_data _
    have e2 : (parB s).data.toList = tailL s.data.toList := ofL_data _
    refine ⟨?_, by rw [e1, e2]; exact h1⟩
    rw [pieces_cut, e2]
    have := cutL_first 46 46 rfl (tailL s.data.toList) (headL s.data.toList) h2
    rw [← h1] at this
    rw [this]
    rfl
theorem par_lt (s : ByteArray) (h : 0 < s.size) : (parB s).size < s.size := by
  rcases pieces_head s with ⟨_, _, h3⟩ | ⟨_, h2⟩
  · rw [h3]; exact h
  · have := congrArg List.length h2
    rw [List.length_append, List.length_cons, data_size, data_size, data_size] at this
    omega
theorem par_le (s : ByteArray) : (parB s).size ≤ s.size := by
  rcases Nat.eq_zero_or_pos s.size with h | h
  · have : s.data.toList = [] := List.eq_nil_of_length_eq_zero (by rw [data_size]; exact h)
    unfold parB
    rw [this]
    exact Nat.zero_le _
  · exact Nat.le_of_lt (par_lt s h)
theorem empty_of {s : ByteArray} (h : s.size = 0) : s = ⟨#[]⟩ := bytes_ext (List.eq_nil_of_length_eq_zero (by rw [data_size]; exact h))
theorem par_empty {s : ByteArray} (h : s.size = 0) : parB s = ⟨#[]⟩ := by rw [empty_of h]; rfl
theorem labels_empty {s : ByteArray} (h : s.size = 0) : labelsB s = [] := by unfold labelsB; rw [if_pos h]
theorem labels_pieces {s : ByteArray} (h : 0 < s.size) : labelsB s = pieces s 46 := by unfold labelsB; rw [if_neg (by omega)]
theorem pieces_empty : pieces ⟨#[]⟩ 46 = [⟨#[]⟩] := by kernel_rfl
theorem labels_nil_iff (s : ByteArray) : labelsB s = [] ↔ s.size = 0 := by
  constructor
  · intro h
    apply Classical.byContradiction
    intro hn
    rw [labels_pieces (by omega)] at h
    have := pieces_pos s 46
    rw [h] at this
    exact absurd this (by simp)
  · exact labels_empty
theorem joinB_one (p : ByteArray) : joinB [p] ⟨#[46]⟩ = p := bytes_ext (by simp [joinB, joinTo])
theorem rest_zero (s : ByteArray) : restB s 0 = s := by
  unfold restB
  rcases Nat.eq_zero_or_pos s.size with h | h
  · rw [labels_empty h, if_pos (by simp), empty_of h]
  · rw [labels_pieces h, if_neg (by have := pieces_pos s 46; omega), List.drop_zero]
    exact pieces_join s 46 (by decide)
theorem rest_succ (s : ByteArray) (k : Nat) : restB s (k + 1) = restB (parB s) k := by
  rcases Nat.eq_zero_or_pos s.size with h | h
  · rw [par_empty h]
    unfold restB
    rw [labels_empty h, labels_empty (show (⟨#[]⟩ : ByteArray).size = 0 from rfl), if_pos (by simp), if_pos (by simp)]
  · rcases pieces_head s with ⟨h1, _, h3⟩ | ⟨h1, _⟩
    · rw [h3]
      unfold restB
      rw [labels_pieces h, h1, labels_empty (show (⟨#[]⟩ : ByteArray).size = 0 from rfl), if_pos (by simp), if_pos (by simp)]
    · unfold restB
      rw [labels_pieces h, h1]
      rcases Nat.eq_zero_or_pos (parB s).size with hp | hp
      · rw [labels_empty hp, empty_of hp, pieces_empty]
        rw [if_pos (show ([] : List ByteArray).length ≤ k by simp)]
        rcases k with _ | k
        · rw [if_neg (by simp)]
          exact joinB_one _
        · rw [if_pos (by simp)]
      · rw [labels_pieces hp]
        by_cases hk : (pieces (parB s) 46).length ≤ k
        · rw [if_pos hk, if_pos (by simp; omega)]
        · rw [if_neg hk, if_neg (by simp; omega), List.drop_succ_cons]
theorem rest_par : ∀ (k : Nat) (s : ByteArray), restB s (k + 1) = parB (restB s k)
  | 0, s => by rw [rest_succ, rest_zero, rest_zero]
  | k + 1, s => by rw [rest_succ, rest_par k (parB s), ← rest_succ]
theorem rest_le (s : ByteArray) : ∀ k, (restB s k).size ≤ s.size
  | 0 => by rw [rest_zero]; exact Nat.le_refl _
  | k + 1 => by rw [rest_par]; exact Nat.le_trans (par_le _) (rest_le s k)
/-- No label is empty. -/
def Full (s : ByteArray) : Prop := ∀ p ∈ labelsB s, 0 < p.size
theorem labels_cons {s : ByteArray} (hf : Full s) (h : 0 < s.size) : labelsB s = firstB s :: labelsB (parB s) := by
  rcases pieces_head s with ⟨h1, h2, h3⟩ | ⟨h1, _⟩
  · rw [h3, h2, labels_pieces h, h1, labels_empty (show (⟨#[]⟩ : ByteArray).size = 0 from rfl)]
  · rcases Nat.eq_zero_or_pos (parB s).size with hp | hp
    · exfalso
      unfold Full at hf
      rw [labels_pieces h, h1, empty_of hp, pieces_empty] at hf
      exact absurd (hf ⟨#[]⟩ (by simp)) (by decide)
    · rw [labels_pieces h, h1, labels_pieces hp]
theorem Full.par {s : ByteArray} (hf : Full s) : Full (parB s) := by
  rcases Nat.eq_zero_or_pos s.size with h | h
  · rw [par_empty h]
    unfold Full
    rw [labels_empty (show (⟨#[]⟩ : ByteArray).size = 0 from rfl)]
    intro p hp
    cases hp
  · intro p hp
    exact hf p (by rw [labels_cons hf h]; exact List.mem_cons_of_mem _ hp)
theorem Full.rest {s : ByteArray} (hf : Full s) : ∀ k, Full (restB s k)
  | 0 => by rw [rest_zero]; exact hf
  | k + 1 => by rw [rest_par]; exact (hf.rest k).par
theorem labels_rest : ∀ (k : Nat) {s : ByteArray}, Full s → labelsB (restB s k) = (labelsB s).drop k
  | 0, s, _ => by rw [rest_zero, List.drop_zero]
  | k + 1, s, hf => by
    rw [rest_succ, labels_rest k hf.par]
    rcases Nat.eq_zero_or_pos s.size with h | h
    · rw [par_empty h, labels_empty h, labels_empty (show (⟨#[]⟩ : ByteArray).size = 0 from rfl), List.drop_nil, List.drop_nil]
    · rw [labels_cons hf h, List.drop_succ_cons]
theorem rest_pos {s : ByteArray} (hf : Full s) (k : Nat) : 0 < (restB s k).size ↔ k < (labelsB s).length := by
  have h1 := labels_rest k hf
  have h2 := labels_nil_iff (restB s k)
  rw [h1, List.drop_eq_nil_iff] at h2
  omega
theorem label_first {s : ByteArray} (hf : Full s) (k : Nat) (h : k < (labelsB s).length) : (labelsB s).getD k ⟨#[]⟩ = firstB (restB s k) := by
  have h1 := labels_rest k hf
  rw [labels_cons (hf.rest k) ((rest_pos hf k).2 h), List.drop_eq_getElem_cons h] at h1
  rw [List.getD_eq_getElem?_getD, List.getElem?_eq_getElem h]
  exact (List.cons.inj h1).1.symm
/-- How many bytes a name has. -/
theorem joinTo_size2 (l : List ByteArray) : ∀ k, (joinTo l ⟨#[46]⟩ k).size + (if k = 0 then 1 else 2) = sizeTo l k
  | 0 => rfl
  | k + 1 => by
    have h := joinTo_size2 l k
    have e : (joinTo l ⟨#[46]⟩ (k + 1)).size = (if 0 < k then (joinTo l ⟨#[46]⟩ k).size + 1 else (joinTo l ⟨#[46]⟩ k).size) + (l.getD k ⟨#[]⟩).size := by
      rw [joinTo, ByteArray.size_append]
      split
      · rw [ByteArray.size_append]; rfl
      · rfl
    have e2 : sizeTo l (k + 1) = sizeTo l k + 1 + (l.getD k ⟨#[]⟩).size := rfl
    rw [e, e2, if_neg (Nat.succ_ne_zero k)]
    split at h <;> split <;> omega
theorem size_labels (s : ByteArray) : sizeL (labelsB s) = if s.size = 0 then 1 else s.size + 2 := by
  by_cases h : s.size = 0
  · rw [if_pos h, labels_empty h]; rfl
  · rw [if_neg h, labels_pieces (by omega)]
    have h1 := joinTo_size2 (pieces s 46) (pieces s 46).length
    have h2 := pieces_join s 46 (by decide)
    have h3 := pieces_pos s 46
    unfold joinB at h2
    rw [if_neg (by omega)] at h1
    have h4 : (joinTo (pieces s 46) ⟨#[46]⟩ (pieces s 46).length).size = s.size := by
      have := congrArg ByteArray.size h2
      exact this
    unfold sizeL
    omega
theorem may_is (s : ByteArray) : mayN s = decide (s.size ≤ 253 ∧ ∀ k, k < (labelsB s).length → 1 ≤ ((labelsB s).getD k ⟨#[]⟩).size ∧ ((labelsB s).getD k ⟨#[]⟩).size ≤ 63) := by
  unfold mayN
  apply decide_eq_decide.2
  unfold MayL
  rw [size_labels]
  constructor
  · rintro ⟨h1, h2⟩
    refine ⟨?_, h1⟩
    split at h2 <;> omega
  · rintro ⟨h1, h2⟩
    refine ⟨h2, ?_⟩
    split <;> omega
theorem may_full {s : ByteArray} (h : mayN s = true) : Full s := by
  intro p hp
  obtain ⟨k, hk, rfl⟩ := List.getElem_of_mem hp
  have := ((of_decide_eq_true h : MayL _).1 k hk).1
  rw [List.getD_eq_getElem?_getD, List.getElem?_eq_getElem hk] at this
  exact this
theorem may_small {s : ByteArray} (h : mayN s = true) : s.size ≤ 253 := by
  rw [may_is] at h
  exact (of_decide_eq_true h).1
theorem may_label {s : ByteArray} (h : mayN s = true) : ∀ p ∈ labelsB s, 1 ≤ p.size ∧ p.size ≤ 63 := by
  intro p hp
  obtain ⟨k, hk, rfl⟩ := List.getElem_of_mem hp
  have := ((of_decide_eq_true h : MayL _).1 k hk)
  rw [List.getD_eq_getElem?_getD, List.getElem?_eq_getElem hk] at this
  exact this
theorem may_of {s : ByteArray} (h1 : s.size ≤ 253) (h2 : ∀ p ∈ labelsB s, 1 ≤ p.size ∧ p.size ≤ 63) : mayN s = true := by
  rw [may_is]
  refine decide_eq_true ⟨h1, fun k hk => ?_⟩
  rw [List.getD_eq_getElem?_getD, List.getElem?_eq_getElem hk]
  exact h2 _ (List.getElem_mem hk)
/-- The pieces have no dot. -/
theorem cutL_free : ∀ (l : List UInt8), ∀ p ∈ cutL 46 l, ∀ c ∈ p, c.toNat ≠ 46
  | [] => by simp [cutL]
  | x :: l => by
    have ih := cutL_free l
    unfold cutL
    split
    · intro p hp
      rcases List.mem_cons.1 hp with rfl | hp
      · simp
      · exact ih p hp
    · rename_i hx
      split
      · intro p hp c hc
        rw [List.mem_singleton.1 hp] at hc
        rw [List.mem_singleton.1 hc]
        exact hx
      · rename_i y r he
        rw [he] at ih
        intro p hp
        rcases List.mem_cons.1 hp with rfl | hp
        · intro c hc
          rcases List.mem_cons.1 hc with rfl | hc
          · exact hx
          · exact ih y (by simp) c hc
        · exact ih p (List.mem_cons_of_mem _ hp)
def NoDot (p : ByteArray) : Prop := ∀ c ∈ p.data.toList, c.toNat ≠ 46
theorem labels_free (s : ByteArray) : ∀ p ∈ labelsB s, NoDot p := by
  intro p hp
  unfold labelsB at hp
  split at hp
  · cases hp
  · rw [pieces_cut] at hp
    obtain ⟨q, hq, rfl⟩ := List.mem_map.1 hp
    unfold NoDot
    rw [ofL_data]
    exact cutL_free _ q hq
/-- Joined labels. -/
theorem joinTo_data (l : List ByteArray) : ∀ k, k ≤ l.length → (joinTo l ⟨#[46]⟩ k).data.toList = Lib.join ((l.take k).map (·.data.toList)) [46]
  | 0, _ => by rw [List.take_zero]; rfl
  | k + 1, h => by
    have ih := joinTo_data l k (by omega)
    have hk : k < l.length := h
    rw [List.take_succ_eq_append_getElem hk, List.map_append, joinTo, data_append]
    have e : l.getD k ⟨#[]⟩ = l[k] := by rw [List.getD_eq_getElem?_getD, List.getElem?_eq_getElem hk]; rfl
    rw [e]
    by_cases h0 : 0 < k
    · rw [if_pos h0, data_append, ih]
      obtain ⟨x, r, hx⟩ : ∃ x r, (l.take k).map (·.data.toList) = x :: r := by
        cases hh : (l.take k).map (·.data.toList) with
        | nil =>
          have := congrArg List.length hh
          rw [List.length_map, List.length_take, List.length_nil] at this
          omega
        | cons a t => exact ⟨a, t, rfl⟩
      rw [hx, List.cons_append, Lib.join_cons, Lib.join_cons]
      simp [Lib.joinTail]
    · obtain rfl : k = 0 := by omega
      rw [if_neg h0, ih]
      simp [Lib.join_one, Lib.join_nil]
theorem joinB_data (l : List ByteArray) : (joinB l ⟨#[46]⟩).data.toList = Lib.join (l.map (·.data.toList)) [46] := by
  have := joinTo_data l l.length (Nat.le_refl _)
  rw [List.take_of_length_le (Nat.le_refl _)] at this
  exact this
theorem cut_join : ∀ (r : List (List UInt8)) (x : List UInt8), (∀ c ∈ x, c.toNat ≠ 46) → (∀ p ∈ r, ∀ c ∈ p, c.toNat ≠ 46) → cutL 46 (x ++ Lib.joinTail [46] r) = x :: r
  | [], x, hx, _ => by simp only [Lib.joinTail, List.map_nil, List.flatten_nil, List.append_nil]; exact cutL_none 46 x hx
  | y :: r, x, hx, hr => by
    have e : Lib.joinTail [46] (y :: r) = 46 :: (y ++ Lib.joinTail [46] r) := by simp [Lib.joinTail]
    rw [e, cutL_first 46 46 rfl _ x hx, cut_join r y (hr y (by simp)) (fun p hp => hr p (List.mem_cons_of_mem _ hp))]
theorem labels_join (l : List ByteArray) (h1 : ∀ p ∈ l, 0 < p.size) (h2 : ∀ p ∈ l, NoDot p) : labelsB (joinB l ⟨#[46]⟩) = l := by
  cases l with
  | nil => exact labels_empty rfl
  | cons x r =>
    have hd := joinB_data (x :: r)
    rw [List.map_cons, Lib.join_cons] at hd
    have hs : 0 < (joinB (x :: r) ⟨#[46]⟩).size := by
      rw [← data_size, hd, List.length_append, data_size]
      have := h1 x (by simp)
      omega
    rw [labels_pieces hs, pieces_cut, hd, cut_join _ _ (h2 x (by simp)) (fun p hp => by
      obtain ⟨q, hq, rfl⟩ := List.mem_map.1 hp
      exact h2 q (List.mem_cons_of_mem _ hq)), List.map_cons, List.map_map]
    have e2 : (ofL ∘ fun p : ByteArray => p.data.toList) = id := by funext p; simp [ofL]
    rw [e2, List.map_id]
    exact congrArg (· :: r) (eq_ofL rfl).symm
/-- A dot in a text. -/
theorem hasTo_free {s : ByteArray} : ∀ k, k ≤ s.size → (hasTo s 46 k = false ↔ ∀ j, j < k → (s.data.toList.getD j 0).toNat ≠ 46)
  | 0, _ => ⟨fun _ j hj => absurd hj (by omega), fun _ => rfl⟩
  | k + 1, h => by
    have ih := hasTo_free (s := s) k (by omega)
    rw [hasTo, Bool.or_eq_false_iff, ih, decide_eq_false_iff_not]
    constructor
    · rintro ⟨h1, h2⟩ j hj
      by_cases hjk : j < k
      · exact h1 j hjk
      · obtain rfl : j = k := by omega
        exact h2
    · intro h1
      exact ⟨fun j hj => h1 j (by omega), h1 k (by omega)⟩
theorem has_free (s : ByteArray) : has8 s 46 = false ↔ NoDot s := by
  unfold has8
  rw [hasTo_free s.size (Nat.le_refl _)]
  constructor
  · intro h c hc
    obtain ⟨j, hj, rfl⟩ := List.getElem_of_mem hc
    have := h j (by rw [← data_size]; exact hj)
    rw [List.getD_eq_getElem?_getD, List.getElem?_eq_getElem hj] at this
    exact this
  · intro h j hj
    have hj2 : j < s.data.toList.length := by rw [data_size]; exact hj
    rw [List.getD_eq_getElem?_getD, List.getElem?_eq_getElem hj2]
    exact h _ (List.getElem_mem hj2)
theorem index_dot : ∀ l : List UInt8, (Lib.indexByte l 46 = -1 ∧ (∀ c ∈ l, c.toNat ≠ 46) ∧ headL l = l ∧ tailL l = []) ∨ (∃ i : Nat, Lib.indexByte l 46 = i ∧ i < l.length ∧ headL l = l.take i ∧ tailL l = l.drop (i + 1) ∧ ∃ c ∈ l, c.toNat = 46)
  | [] => .inl ⟨rfl, by simp, rfl, rfl⟩
  | x :: l => by
    unfold Lib.indexByte headL tailL
    by_cases hx : x.toNat = 46
    · have := u8_dot hx
      subst this
      right
      refine ⟨0, by simp, by simp, by simp, by simp, 46, by simp, rfl⟩
    · have hne : (x == 46) = false := by rw [beq_eq_false_iff_ne]; intro h; exact hx (by rw [h]; rfl)
      rw [hne, if_neg hx, if_neg hx]
      rcases index_dot l with ⟨h1, h2, h3, h4⟩ | ⟨i, h1, h2, h3, h4, c, h5, h6⟩
      · left
        rw [h1]
        refine ⟨rfl, fun c hc => ?_, by rw [h3], h4⟩
        rcases List.mem_cons.1 hc with rfl | hc
        · exact hx
        · exact h2 c hc
      · right
        rw [h1]
        refine ⟨i + 1, ?_, by simp; omega, by rw [h3]; rfl, by rw [h4]; rfl, c, List.mem_cons_of_mem _ h5, h6⟩
        have : ((i : Int) == -1) = false := by rw [beq_eq_false_iff_ne]; omega
        rw [this]
        simp
theorem contains_dot (s : ByteArray) : decide (0 ≤ Lib.indexByte s.data.toList 46) = has8 s 46 := by
  rcases index_dot s.data.toList with ⟨h1, h2, _, _⟩ | ⟨i, h1, _, _, _, c, h5, h6⟩
  · rw [h1, (has_free s).2 h2]; rfl
  · rw [h1]
    have : has8 s 46 ≠ false := fun h => (has_free s).1 h c h5 h6
    rw [Bool.of_not_eq_false this]
    exact decide_eq_true (by omega)
end Go.Proofs.Yticdpidngmeebaa
/- What a message's bytes are, as plain functions; how bytes with sizes put in later become them. -/
namespace Go.Proofs.Yticdpidngmeebaa
open Go.RowKit
set_option linter.unusedVariables false
set_option maxRecDepth 20000

/-- What a name adds behind so many bytes. -/
theorem nm8_facts (s : ByteArray) (L : List ByteArray) (hL : ∀ p ∈ L, p.size ≤ 63) : ∀ (f i n : Nat) (ns : List ByteArray) (ats : List Nat), ∃ tl ns' ats', (∀ l : List UInt8, l.length = n → nm8 s L f i l ns ats = (l ++ tl, ns', ats')) ∧ tl.length ≤ (L.length - i) * 64 + 2 ∧ ns'.length ≤ ns.length + (L.length - i) ∧ (ats.length = ns.length → ats'.length = ns'.length) ∧ ((∀ a ∈ ats, a < 16384) → ∀ a ∈ ats', a < 16384) ∧ (∀ p ∈ ns', p ∈ ns ∨ p.size ≤ s.size) ∧ ns'.length ≤ ns.length + tl.length
  | 0, i, n, ns, ats => ⟨[], ns, ats, fun l _ => by simp [nm8], by simp, by omega, id, id, fun p hp => .inl hp, by simp⟩
  | f + 1, i, n, ns, ats => by
    by_cases hi : L.length ≤ i
    · exact ⟨[0], ns, ats, fun l _ => by rw [nm8, if_pos hi], by simp, by omega, id, id, fun p hp => .inl hp, by simp⟩
    · cases hf : find8 ns ats (restB s i) with
      | some k => exact ⟨[UInt8.ofNat (192 + k / 256), UInt8.ofNat (k % 256)], ns, ats, fun l _ => by rw [nm8, if_neg hi, hf], by simp, by omega, id, id, fun p hp => .inl hp, by simp⟩
      | none =>
        have hlab : (labL (L.getD i ⟨#[]⟩)).length ≤ 64 := by
          have : L.getD i ⟨#[]⟩ ∈ L := by
            rw [List.getD_eq_getElem?_getD, List.getElem?_eq_getElem (by omega)]
            exact List.getElem_mem _
          have := hL _ this
          generalize L.getD i ⟨#[]⟩ = q at *
          have := data_size q
          unfold labL
          simp only [List.length_cons]
          omega
        obtain ⟨tl, ns', ats', h1, h2, h3, h4, h5, h6, h7⟩ := nm8_facts s L hL f (i + 1) (n + (labL (L.getD i ⟨#[]⟩)).length) (if n < 16384 then ns ++ [restB s i] else ns) (if n < 16384 then ats ++ [n] else ats)
        refine ⟨labL (L.getD i ⟨#[]⟩) ++ tl, ns', ats', fun l hl => ?_, ?_, ?_, fun e => h4 ?_, fun e => h5 ?_, fun p hp => ?_, ?_⟩
        · rw [nm8, if_neg hi, hf]
          simp only [hl]
          rw [h1 _ (by rw [List.length_append, hl]), List.append_assoc]
        · rw [List.length_append]; omega
        · by_cases hn : n < 16384
          · rw [if_pos hn] at h3; simp at h3; omega
          · rw [if_neg hn] at h3; omega
        · by_cases hn : n < 16384
          · rw [if_pos hn, if_pos hn]; simp [e]
          · rw [if_neg hn, if_neg hn]; exact e
        · by_cases hn : n < 16384
          · rw [if_pos hn]
            intro a ha
            rcases List.mem_append.1 ha with ha | ha
            · exact e a ha
            · rw [List.mem_singleton.1 ha]; exact hn
          · rw [if_neg hn]; exact e
        · rcases h6 p hp with h | h
          · by_cases hn : n < 16384
            · rw [if_pos hn] at h
              rcases List.mem_append.1 h with h | h
              · exact .inl h
              · rw [List.mem_singleton.1 h]; exact .inr (rest_le s i)
            · rw [if_neg hn] at h; exact .inl h
          · exact .inr h
        · have hlb : 1 ≤ (labL (L.getD i ⟨#[]⟩)).length := by unfold labL; simp
          rw [List.length_append]
          by_cases hn : n < 16384
          · rw [if_pos hn] at h7; simp only [List.length_append, List.length_cons, List.length_nil] at h7; omega
          · rw [if_neg hn] at h7; omega
/-- What was written: bytes, names, places. -/
abbrev Wst := List UInt8 × List ByteArray × List Nat
def nmT (s : ByteArray) (n : Nat) (ns : List ByteArray) (ats : List Nat) : Wst :=
  ((nm8 s (labelsB s) ((labelsB s).length + 1) 0 (List.replicate n 0) ns ats).1.drop n, (nm8 s (labelsB s) ((labelsB s).length + 1) 0 (List.replicate n 0) ns ats).2)
structure NmT (s : ByteArray) (n : Nat) (ns : List ByteArray) (ats : List Nat) : Prop where
  eq : ∀ l : List UInt8, l.length = n → nm8 s (labelsB s) ((labelsB s).length + 1) 0 l ns ats = (l ++ (nmT s n ns ats).1, (nmT s n ns ats).2.1, (nmT s n ns ats).2.2)
  len : (nmT s n ns ats).1.length ≤ 16300
  lns : (nmT s n ns ats).2.1.length ≤ ns.length + 254
  two : ats.length = ns.length → (nmT s n ns ats).2.2.length = (nmT s n ns ats).2.1.length
  low : (∀ a ∈ ats, a < 16384) → ∀ a ∈ (nmT s n ns ats).2.2, a < 16384
  lnt : (nmT s n ns ats).2.1.length ≤ ns.length + (nmT s n ns ats).1.length
  sm : (∀ p ∈ ns, p.size ≤ 253) → ∀ p ∈ (nmT s n ns ats).2.1, p.size ≤ 253
theorem nmT_is {s : ByteArray} (hm : mayN s = true) (n : Nat) (ns : List ByteArray) (ats : List Nat) : NmT s n ns ats := by
  have hs := may_small hm
  have hl := labels_len s
  obtain ⟨tl, ns', ats', h1, h2, h3, h4, h5, h6, h7⟩ := nm8_facts s (labelsB s) (fun p hp => (may_label hm p hp).2) ((labelsB s).length + 1) 0 n ns ats
  have hT : nmT s n ns ats = (tl, ns', ats') := by
    unfold nmT
    rw [h1 (List.replicate n 0) (by simp)]
    simp
  refine ⟨fun l e => by rw [hT, h1 l e], ?_, ?_, ?_, ?_, ?_, ?_⟩ <;> rw [hT]
  · show tl.length ≤ 16300
    omega
  · show ns'.length ≤ _
    omega
  · exact h4
  · exact h5
  · exact h7
  · intro e p hp
    rcases h6 p hp with h | h
    · exact e p h
    · omega
/-- An address's bytes. -/
def byB (b : List Nat) : List UInt8 := b.map UInt8.ofNat
def daT (r : Rec) (n : Nat) (ns : List ByteArray) (ats : List Nat) : Wst :=
  if r.ty = 1 then (byB (r.b.take 4), ns, ats) else if r.ty = 28 then (byB r.b, ns, ats) else if r.ty = 5 then nmT r.tg n ns ats else (r.da.data.toList, ns, ats)
def numsR (r : Rec) : List UInt8 := twoL r.ty.toNat ++ twoL r.cl.toNat ++ twoL (r.ttl.toNat / 65536) ++ twoL (r.ttl.toNat % 65536)
theorem numsR_len (r : Rec) : (numsR r).length = 8 := rfl
def qW (t : Wst) (q : Qu) : Wst :=
  (t.1 ++ (nmT q.name t.1.length t.2.1 t.2.2).1 ++ (twoL q.ty.toNat ++ twoL q.cl.toNat), (nmT q.name t.1.length t.2.1 t.2.2).2)
/-- Where a record's data begins. -/
def atR (t : Wst) (r : Rec) : Nat := t.1.length + (nmT r.name t.1.length t.2.1 t.2.2).1.length + 10
def daR (t : Wst) (r : Rec) : Wst := daT r (atR t r) (nmT r.name t.1.length t.2.1 t.2.2).2.1 (nmT r.name t.1.length t.2.1 t.2.2).2.2
def rW (t : Wst) (r : Rec) : Wst :=
  (t.1 ++ (nmT r.name t.1.length t.2.1 t.2.2).1 ++ numsR r ++ twoL (daR t r).1.length ++ (daR t r).1, (daR t r).2)
def hdB (m : Msg) : List UInt8 := twoL m.id.toNat ++ twoL m.fl.toNat ++ twoL m.qs.length ++ twoL m.an.length ++ twoL m.au.length ++ twoL m.mo.length
def wM (m : Msg) : Wst := m.mo.foldl rW (m.au.foldl rW (m.an.foldl rW (m.qs.foldl qW (hdB m, [], []))))
def wB (m : Msg) : List UInt8 := (wM m).1
theorem qW_len (t : Wst) (q : Qu) : t.1.length ≤ (qW t q).1.length := by simp only [qW, List.length_append]; omega
theorem rW_len (t : Wst) (r : Rec) : t.1.length ≤ (rW t r).1.length := by simp only [rW, List.length_append]; omega
/-- As long as there is room. -/
def gd {α : Type} (f : Wst → α → Wst) (t : Wst) (x : α) : Wst := if 1232 < t.1.length then t else f t x
def Rg (t t' : Wst) : Prop := t = t' ∨ (1232 < t.1.length ∧ 1232 < t'.1.length)
theorem rg_step {α : Type} {f : Wst → α → Wst} (hf : ∀ t x, t.1.length ≤ (f t x).1.length) {t t' : Wst} (h : Rg t t') (x : α) : Rg (gd f t x) (f t' x) := by
  unfold gd
  rcases h with rfl | ⟨h1, h2⟩
  · by_cases hl : 1232 < t.1.length
    · rw [if_pos hl]; exact .inr ⟨hl, Nat.lt_of_lt_of_le hl (hf t x)⟩
    · rw [if_neg hl]; exact .inl rfl
  · rw [if_pos h1]; exact .inr ⟨h1, Nat.lt_of_lt_of_le h2 (hf t' x)⟩
theorem rg_fold {α : Type} {f : Wst → α → Wst} (hf : ∀ t x, t.1.length ≤ (f t x).1.length) : ∀ (D : List α) {t t' : Wst}, Rg t t' → Rg (D.foldl (gd f) t) (D.foldl f t')
  | [], _, _, h => h
  | x :: D, _, _, h => rg_fold hf D (rg_step hf h x)
def gM (m : Msg) : Wst := m.mo.foldl (gd rW) (m.au.foldl (gd rW) (m.an.foldl (gd rW) (m.qs.foldl (gd qW) (hdB m, [], []))))
theorem gM_is (m : Msg) : Rg (gM m) (wM m) := rg_fold rW_len _ (rg_fold rW_len _ (rg_fold rW_len _ (rg_fold qW_len _ (.inl rfl))))
theorem gM_full (m : Msg) : 1232 < (gM m).1.length ↔ 1232 < (wB m).length := by
  rcases gM_is m with e | ⟨h1, h2⟩
  · rw [e]; exact Iff.rfl
  · exact ⟨fun _ => h2, fun _ => h1⟩
theorem gM_fits (m : Msg) (h : (wB m).length ≤ 1232) : gM m = wM m := by
  rcases gM_is m with e | ⟨h1, h2⟩
  · exact e
  · exact absurd h2 (by unfold wB at h; omega)
/-- Two bytes put in later. -/
def patch (l : List UInt8) (at0 n : Nat) : List UInt8 := (l.set at0 (UInt8.ofNat (n / 256))).set (at0 + 1) (UInt8.ofNat (n % 256))
def patchAll (l : List UInt8) (zs : List (Nat × Nat)) : List UInt8 := zs.foldl (fun l z => patch l z.1 z.2) l
theorem patch_len (l : List UInt8) (a n : Nat) : (patch l a n).length = l.length := by simp [patch]
theorem patchAll_len : ∀ (zs : List (Nat × Nat)) (l : List UInt8), (patchAll l zs).length = l.length
  | [], _ => rfl
  | z :: zs, l => by
    show (patchAll (patch l z.1 z.2) zs).length = _
    rw [patchAll_len zs, patch_len]
theorem patch_more (l x : List UInt8) (a n : Nat) (h : a + 2 ≤ l.length) : patch (l ++ x) a n = patch l a n ++ x := by
  unfold patch
  rw [List.set_append_left _ _ (by omega), List.set_append_left _ _ (by simp; omega)]
theorem patchAll_more (x : List UInt8) : ∀ (zs : List (Nat × Nat)) (l : List UInt8), (∀ z ∈ zs, z.1 + 2 ≤ l.length) → patchAll (l ++ x) zs = patchAll l zs ++ x
  | [], _, _ => rfl
  | z :: zs, l, h => by
    show patchAll (patch (l ++ x) z.1 z.2) zs = patchAll (patch l z.1 z.2) zs ++ x
    rw [patch_more l x z.1 z.2 (h z (List.mem_cons_self ..)), patchAll_more x zs _ (fun y hy => by rw [patch_len]; exact h y (List.mem_cons_of_mem _ hy))]
theorem patch_mid (l x : List UInt8) (n : Nat) : patch (l ++ [0, 0] ++ x) l.length n = l ++ twoL n ++ x := by
  unfold patch twoL
  rw [List.append_assoc, List.set_append_right _ _ (Nat.le_refl _), List.set_append_right _ _ (Nat.le_succ _)]
  simp
/-- Bytes whose sizes are put in later, beside those that they become. -/
structure PR (u : Wst) (zs : List (Nat × Nat)) (t : Wst) : Prop where
  len : u.1.length = t.1.length
  two : u.2 = t.2
  eq : patchAll u.1 zs = t.1
  at0 : ∀ z ∈ zs, z.1 + 2 ≤ u.1.length
  low : ∀ z ∈ zs, z.2 ≤ 65535
/-- A record's bytes with noughts where its size will stand. -/
def rU (u : Wst) (r : Rec) : Wst := (u.1 ++ (nmT r.name u.1.length u.2.1 u.2.2).1 ++ numsR r ++ [0, 0] ++ (daR u r).1, (daR u r).2)
theorem PR.r {u t : Wst} {zs : List (Nat × Nat)} (h : PR u zs t) (r : Rec) (hd : (daR u r).1.length ≤ 65535) : PR (rU u r) (zs ++ [(atR u r - 2, (daR u r).1.length)]) (rW t r) := by
  have e1 : daR u r = daR t r := by unfold daR atR; rw [h.len, h.two]
  have e2 : nmT r.name u.1.length u.2.1 u.2.2 = nmT r.name t.1.length t.2.1 t.2.2 := by rw [h.len, h.two]
  have e3 : atR u r = u.1.length + (nmT r.name u.1.length u.2.1 u.2.2).1.length + 10 := rfl
  rw [e3]
  unfold rU rW
  rw [e1] at hd ⊢
  rw [e2]
  generalize (nmT r.name t.1.length t.2.1 t.2.2).1 = x at *
  generalize daR t r = d at *
  refine ⟨by simp only [List.length_append, h.len]; rfl, rfl, ?_, fun z hz => ?_, fun z hz => ?_⟩
  · unfold patchAll
    rw [List.foldl_append]
    show patch (patchAll (u.1 ++ x ++ numsR r ++ [0, 0] ++ d.1) zs) _ _ = _
    rw [List.append_assoc, List.append_assoc, List.append_assoc, patchAll_more _ zs u.1 h.at0, h.eq]
    have := patch_mid (t.1 ++ x ++ numsR r) d.1 d.1.length
    rw [show (t.1 ++ x ++ numsR r).length = u.1.length + x.length + 10 - 2 by simp only [List.length_append, h.len, numsR_len]; omega] at this
    simpa [List.append_assoc] using this
  · simp only [List.length_append, numsR_len]
    rcases List.mem_append.1 hz with hz | hz
    · have := h.at0 z hz
      omega
    · rw [List.mem_singleton.1 hz]
      show u.1.length + x.length + 10 - 2 + 2 ≤ _
      simp only [List.length_cons, List.length_nil]
      omega
  · rcases List.mem_append.1 hz with hz | hz
    · exact h.low z hz
    · rw [List.mem_singleton.1 hz]; exact hd
/-- What was written is of a size that a writer bears. -/
structure Wok (K : Nat) (t : Wst) : Prop where
  len : t.1.length ≤ K
  lns : t.2.1.length ≤ t.1.length
  two : t.2.2.length = t.2.1.length
  low : ∀ a ∈ t.2.2, a < 16384
  sm : ∀ p ∈ t.2.1, p.size ≤ 253
theorem Wok.wider {K K' : Nat} {t : Wst} (h : Wok K t) (hk : K ≤ K') : Wok K' t := ⟨Nat.le_trans h.len hk, h.lns, h.two, h.low, h.sm⟩
theorem Wok.nm {K : Nat} {t : Wst} (h : Wok K t) {s : ByteArray} (hm : mayN s = true) : Wok (K + 16300) (t.1 ++ (nmT s t.1.length t.2.1 t.2.2).1, (nmT s t.1.length t.2.1 t.2.2).2) := by
  have N := nmT_is hm t.1.length t.2.1 t.2.2
  have h1 := h.len
  have h2 := h.lns
  have h3 := N.len
  have h4 := N.lnt
  exact ⟨by rw [List.length_append]; omega, by rw [List.length_append]; exact Nat.le_trans h4 (by omega), N.two h.two, N.low h.low, N.sm h.sm⟩
theorem Wok.put {K : Nat} {t : Wst} (h : Wok K t) (x : List UInt8) : Wok (K + x.length) (t.1 ++ x, t.2) := by
  have h1 := h.len
  have h2 := h.lns
  exact ⟨by rw [List.length_append]; omega, by rw [List.length_append]; exact Nat.le_trans h2 (by omega), h.two, h.low, h.sm⟩
theorem mayQ9_name {q : Qu} (h : mayQ9 q = true) : mayN q.name = true ∧ wordN q.ty = true ∧ wordN q.cl = true := by
  unfold mayQ9 at h
  simp only [Bool.and_eq_true] at h
  exact ⟨h.1.1, h.1.2, h.2⟩
theorem Wok.q {K : Nat} {t : Wst} (h : Wok K t) {q : Qu} (hm : mayQ9 q = true) : Wok (K + 16304) (qW t q) := (h.nm (mayQ9_name hm).1).put (twoL q.ty.toNat ++ twoL q.cl.toNat)
structure MayRec (r : Rec) : Prop where
  name : mayN r.name = true
  ty : 0 ≤ r.ty ∧ r.ty ≤ 65535
  cl : 0 ≤ r.cl ∧ r.cl ≤ 65535
  ttl : 0 ≤ r.ttl ∧ r.ttl ≤ 2147483647
  tg : r.ty = 5 → mayN r.tg = true
  da : r.da.size ≤ 65535
  body : bodyR r = true
theorem mayRec {r : Rec} (h : mayR r = true) : MayRec r := by
  unfold mayR headR at h
  simp only [Bool.and_eq_true, decide_eq_true_eq, wordN] at h
  obtain ⟨⟨⟨⟨⟨⟨h1, h2⟩, h3⟩, h4⟩, h5⟩, h6⟩, h7⟩ := h
  refine ⟨h1, h2, h3, ⟨h4, h5⟩, fun e => ?_, h6, h7⟩
  unfold bodyR at h7
  rw [if_neg (by omega), if_neg (by omega), if_pos e] at h7
  simp only [Bool.and_eq_true] at h7
  exact h7.1.1
theorem byB_len (b : List Nat) : (byB b).length = b.length := by simp [byB]
theorem Wok.da {K : Nat} {t : Wst} (h : Wok K t) {r : Rec} (hm : mayR r = true) (h16 : r.b.length = 16) : Wok (K + 65535) (t.1 ++ (daT r t.1.length t.2.1 t.2.2).1, (daT r t.1.length t.2.1 t.2.2).2) ∧ (daT r t.1.length t.2.1 t.2.2).1.length ≤ 65535 := by
  have M := mayRec hm
  unfold daT
  by_cases h1 : r.ty = 1
  · rw [if_pos h1]
    refine ⟨(h.put (byB (r.b.take 4))).wider ?_, ?_⟩
    · rw [byB_len, List.length_take]; omega
    · show (byB (r.b.take 4)).length ≤ _
      rw [byB_len, List.length_take]; omega
  · rw [if_neg h1]
    by_cases h2 : r.ty = 28
    · rw [if_pos h2]
      refine ⟨(h.put (byB r.b)).wider ?_, ?_⟩
      · rw [byB_len]; omega
      · show (byB r.b).length ≤ _
        rw [byB_len]; omega
    · rw [if_neg h2]
      by_cases h3 : r.ty = 5
      · rw [if_pos h3]
        exact ⟨(h.nm (M.tg h3)).wider (by omega), Nat.le_trans (nmT_is (M.tg h3) _ _ _).len (by omega)⟩
      · rw [if_neg h3]
        have := M.da
        refine ⟨(h.put r.da.data.toList).wider (by rw [data_size]; omega), ?_⟩
        show r.da.data.toList.length ≤ _
        rw [data_size]
        omega
/-- A record's head: its name, its numbers, two bytes for its size. -/
def hR (t : Wst) (r : Rec) (x : List UInt8) : Wst := (t.1 ++ (nmT r.name t.1.length t.2.1 t.2.2).1 ++ numsR r ++ x, (nmT r.name t.1.length t.2.1 t.2.2).2)
theorem hR_len (t : Wst) (r : Rec) (x : List UInt8) (hx : x.length = 2) : (hR t r x).1.length = atR t r := by
  simp only [hR, atR, List.length_append, numsR_len, hx]
theorem daR_hR (t : Wst) (r : Rec) (x : List UInt8) (hx : x.length = 2) : daR t r = daT r (hR t r x).1.length (hR t r x).2.1 (hR t r x).2.2 := by rw [hR_len t r x hx]; rfl
theorem Wok.head {K : Nat} {t : Wst} (h : Wok K t) {r : Rec} (hm : mayR r = true) (x : List UInt8) (hx : x.length = 2) : Wok (K + 16310) (hR t r x) := by
  have := ((h.nm (mayRec hm).name).put (numsR r)).put x
  rw [numsR_len, hx] at this
  exact this
theorem Wok.r {K : Nat} {t : Wst} (h : Wok K t) {r : Rec} (hm : mayR r = true) (h16 : r.b.length = 16) : Wok (K + 81845) (rW t r) ∧ Wok (K + 81845) (rU t r) ∧ (daR t r).1.length ≤ 65535 := by
  have h1 := (h.head hm (twoL (daR t r).1.length) rfl).da hm h16
  have h2 := (h.head hm [0, 0] rfl).da hm h16
  rw [← daR_hR t r _ rfl] at h1 h2
  exact ⟨h1.1, h2.1, h1.2⟩
theorem Wok.gq {t : Wst} (h : Wok 90000 t) {q : Qu} (hm : mayQ9 q = true) : Wok 90000 (gd qW t q) := by
  unfold gd
  by_cases hl : 1232 < t.1.length
  · rw [if_pos hl]; exact h
  · rw [if_neg hl]
    exact (Wok.q (K := 1232) ⟨by omega, h.lns, h.two, h.low, h.sm⟩ hm).wider (by omega)
end Go.Proofs.Yticdpidngmeebaa
/- Addresses that a walk holds; loads of them, guarded or not, and of their bytes alone; sixteen bytes stored whole. -/
namespace Go.Proofs.Yticdpidngmeebaa
open Go.RowKit
set_option linter.unusedVariables false
set_option maxRecDepth 20000

theorem HeldR.addr {L : List (Nat × Nat × List Value)} {W w : World} {G : Nat} {f : Int} {bs : List Nat} (h : HeldR L W w) (hA : AddrAt w G f bs) : HeldR ((G, 0, addrL f bs) :: L) W w := h.cons hA.range hA.lt
/-- An address of the list. -/
def InA (L : List (Nat × Nat × List Value)) (G : Nat) (f : Int) (bs : List Nat) : Prop := (G, 0, addrL f bs) ∈ L ∧ bs.length = 16
theorem yields_addr {ops : Array Oper} {op : Oper} {a : Act} {L : List (Nat × Nat × List Value)} {W : World} {G : Nat} {f : Int} {bs : List Nat} (hm : Hid (InA L G f bs)) (hw : Region.wanted op (yielded ops a.tmps) = true) (x : Operand) (ho : op.op = .load 40 x)
    (hx : a.eval x = .pointer (some ⟨G, 0, none⟩)) : YieldsIf Try.prog ops (HeldR L W) op (addrV f bs) a :=
  yieldsIf_load_mid hw 40 x ho G 0 hx (addrL f bs) _ (fun _ h => h.get hm.out.1) Try.underlying40 rfl (by rw [addr_size, addrL_len f bs hm.out.2])
/-- An address, loaded whole, guarded or not. -/
theorem load_addr_g {ops : Array Oper} {rest : List Oper} {op : Oper} {a : Act} {w : World} {Q : Exit → Act → World → Prop} {G : Nat} {f : Int} {bs : List Nat} (hA : Hid (AddrAt w G f bs)) (x : Operand) (hw : Region.wanted op (yielded ops a.tmps) = true) (ho : op.op = .load 40 x)
    (hx : a.eval x = .pointer (some ⟨G, 0, none⟩)) (h : wpList Try.prog ops Q rest (a.put op.dst (addrV f bs)) w) : wpList Try.prog ops Q (op :: rest) a w :=
  wpList_load_row hw 40 x ho G 0 hx (addrL f bs) _ hA.out.range Try.underlying40 rfl (by rw [addr_size, addrL_len f bs hA.out.len]) h
/-- Sixteen bytes that lie somewhere. -/
structure B16 (w : World) (G o : Nat) (bs : List Nat) : Prop where
  len : bs.length = 16
  lt : G < w.heap.size
  range : w.rangeAt G o (bs.map fun n => Value.int .u8 ((n : Nat) : Int))
  there : w.there G o 16
/-- The cells of sixteen zeros. -/
abbrev z16 : Array Value := #[.int .u8 0, .int .u8 0, .int .u8 0, .int .u8 0, .int .u8 0, .int .u8 0, .int .u8 0, .int .u8 0, .int .u8 0, .int .u8 0, .int .u8 0, .int .u8 0, .int .u8 0, .int .u8 0, .int .u8 0, .int .u8 0]
/-- Sixteen bytes of the list. -/
def InB (L : List (Nat × Nat × List Value)) (G o : Nat) (bs : List Nat) : Prop := (G, o, bs.map fun n => Value.int .u8 ((n : Nat) : Int)) ∈ L ∧ bs.length = 16
end Go.Proofs.Yticdpidngmeebaa
/- Contracts of text.digit and text.Number: the number of a text's digits. -/
namespace Go.Proofs.Yticdpidngmeebaa
open Go.RowKit
set_option linter.unusedVariables false
set_option maxRecDepth 20000

/-- A digit's number; 16: it is none. -/
def digC (c : Nat) : Nat := if 48 ≤ c ∧ c ≤ 57 then c - 48 else if 97 ≤ c ∧ c ≤ 102 then c - 87 else if 65 ≤ c ∧ c ≤ 70 then c - 55 else 16
/-- The byte at a place, or 0. -/
def byteOf (s : ByteArray) (k : Nat) : Nat := (s.data.toList.getD k 0).toNat
def most : Nat := 1099511627776
/-- The number of the first k digits, if there is one. -/
def numTo (s : ByteArray) (b : Nat) : Nat → Option Nat
  | 0 => some 0
  | k + 1 => match numTo s b k with
    | none => none
    | some n => if b ≤ digC (byteOf s k) then none else if most < n * b + digC (byteOf s k) then none else some (n * b + digC (byteOf s k))
def numB (s : ByteArray) (b : Nat) : Option Nat := if s.size = 0 then none else numTo s b s.size
/-- What Number answers. -/
def numRet (o : Option Nat) : Value := .tuple #[.int .i64 ((o.getD 0 : Nat) : Int), .bool o.isSome]

end Go.Proofs.Yticdpidngmeebaa
/- Contracts of the reference's digit, Number and Decimal: a number's decimal digits, and how they are read back. -/
namespace Go.Proofs.Yticdpidngmeebaa
open Go.RowKit
set_option linter.unusedVariables false
set_option maxRecDepth 20000

/-- A digit's number as the reference tells it; -1: it is none. -/
def digI (c : Nat) : Int := if digC c < 16 then (digC c : Int) else -1

end Go.Proofs.Yticdpidngmeebaa
/- Contracts of four's readers of digits (a closure over the base), and of the reference's: a part's number, 2^32 at most. -/
namespace Go.Proofs.Yticdpidngmeebaa
open Go.RowKit
set_option linter.unusedVariables false
set_option maxRecDepth 20000

/-- The number of the first k digits, 2^32 at most, if all are digits. -/
def readTo (s : ByteArray) (b : Nat) : Nat → Option Nat
  | 0 => some 0
  | k + 1 => match readTo s b k with
    | none => none
    | some n => if b ≤ digC (byteOf s k) then none else some (min (n * b + digC (byteOf s k)) 4294967296)
def readF (s : ByteArray) (b : Nat) : Option Nat := readTo s b s.size
/-- As the reference tells it; -1: there is none. -/
def optI : Option Nat → Int
  | none => -1
  | some n => n
end Go.Proofs.Yticdpidngmeebaa
/- Contracts of four.Of and four.Strict: the address of four bytes, and of a strict text. -/
namespace Go.Proofs.Yticdpidngmeebaa
open Go.RowKit
set_option linter.unusedVariables false
set_option maxRecDepth 20000

def arr4 (a b c d : Nat) : Value := .agg #[.int .u8 (a : Int), .int .u8 (b : Int), .int .u8 (c : Int), .int .u8 (d : Int)]
theorem or_low (X c : Nat) (hX : X < 16777216) (hc : c < 256) : bits .or .u32 ((X : Int) * 256) (c : Int) = ((X * 256 + c : Nat) : Int) := by
  rw [bits_join .u32 32 (by decide) (fun n h0 h1 => by rw [IntKind.wrap_u32]; omega) 8 ((X : Int) * 256) c (by omega) (by omega) (by omega) (by omega) (by omega) (by omega)]
  omega
/-- The first k of four bytes, as a number. -/
def ofTo (a b c d : Nat) : Nat → Nat
  | 0 => 0
  | 1 => a
  | 2 => a * 256 + b
  | 3 => (a * 256 + b) * 256 + c
  | _ => ((a * 256 + b) * 256 + c) * 256 + d
set_option maxRecDepth 100000 in
set_option maxHeartbeats 1000000 in
theorem of_any (a b c d : Nat) (w : World) (ha : a < 256) (hb : b < 256) (hc : c < 256) (hd : d < 256) :
    Calls Try.prog 99 #[arr4 a b c d] w fun e w' => e = .returned (.int .u32 (((a * 256 + b) * 256 + c) * 256 + d : Nat)) ∧ Below w.heap.size w w' := by
  unfold arr4
  have i0 : ∀ w : World, (Instr.index 143 (.agg #[.int .u8 (a : Int), .int .u8 (b : Int), .int .u8 (c : Int), .int .u8 (d : Int)]) (.int .i64 0)).run Try.prog w = .ok (.int .u8 (a : Int)) w := fun _ => by kernel_rfl
  have i1 : ∀ w : World, (Instr.index 143 (.agg #[.int .u8 (a : Int), .int .u8 (b : Int), .int .u8 (c : Int), .int .u8 (d : Int)]) (.int .i64 1)).run Try.prog w = .ok (.int .u8 (b : Int)) w := fun _ => by kernel_rfl
  have i2 : ∀ w : World, (Instr.index 143 (.agg #[.int .u8 (a : Int), .int .u8 (b : Int), .int .u8 (c : Int), .int .u8 (d : Int)]) (.int .i64 2)).run Try.prog w = .ok (.int .u8 (c : Int)) w := fun _ => by kernel_rfl
  have i3 : ∀ w : World, (Instr.index 143 (.agg #[.int .u8 (a : Int), .int .u8 (b : Int), .int .u8 (c : Int), .int .u8 (d : Int)]) (.int .i64 3)).run Try.prog w = .ok (.int .u8 (d : Int)) w := fun _ => by kernel_rfl
  go_enter Try.func99, Try.ntmps99
  go_wp2
  go_loop [3, 7] (fun t i => ∃ k X : Nat, k ≤ 4 ∧ i = .int .i64 k ∧ t = .int .u32 (X : Int) ∧ X < 256 ^ k ∧ Hid (X = ofTo a b c d k)) (fun _ i => 4 - (intOf i).toNat)
  case atStart => exact ⟨0, 0, Nat.zero_le _, rfl, rfl, by decide, Lib.hid rfl⟩
  case round =>
    obtain ⟨k, X, hk, rfl, rfl, hX, HX⟩ := hrel
    have hk5 : k = 0 ∨ k = 1 ∨ k = 2 ∨ k = 3 ∨ k = 4 := by omega
    rcases hk5 with rfl | rfl | rfl | rfl | rfl
    · have hXb : X < 16777216 := Nat.lt_of_lt_of_le hX (by decide)
      go_wp2
      exact ⟨⟨1, X * 256 + a, by omega, rfl, by rw [or_low X a hXb ha], by simp at hX ⊢; omega, Lib.hid (by rw [HX.out]; simp [ofTo])⟩, by decide⟩
    · have hXb : X < 16777216 := Nat.lt_of_lt_of_le hX (by decide)
      go_wp2
      exact ⟨⟨2, X * 256 + b, by omega, rfl, by rw [or_low X b hXb hb], by simp at hX ⊢; omega, Lib.hid (by rw [HX.out]; simp [ofTo])⟩, by decide⟩
    · have hXb : X < 16777216 := Nat.lt_of_lt_of_le hX (by decide)
      go_wp2
      exact ⟨⟨3, X * 256 + c, by omega, rfl, by rw [or_low X c hXb hc], by simp at hX ⊢; omega, Lib.hid (by rw [HX.out]; simp [ofTo])⟩, by decide⟩
    · have hXb : X < 16777216 := Nat.lt_of_lt_of_le hX (by decide)
      go_wp2
      exact ⟨⟨4, X * 256 + d, by omega, rfl, by rw [or_low X d hXb hd], by simp at hX ⊢; omega, Lib.hid (by rw [HX.out]; simp [ofTo])⟩, by decide⟩
    · go_wp2
      go_ret
      exact ⟨by have := HX.out; rw [this]; rfl, (Below.refl _ _).alloc (Nat.le_refl _) _⟩

/-- A part of a strict text. -/
def octet (p : ByteArray) : Option Nat :=
  match numB p 10 with
  | none => none
  | some n => if 255 < n then none else if 1 < p.size ∧ byteOf p 0 = 48 then none else some n
/-- The number of the first k parts. -/
def octTo (l : List ByteArray) : Nat → Option Nat
  | 0 => some 0
  | k + 1 => match octTo l k with
    | none => none
    | some m => match octet (l.getD k ⟨#[]⟩) with
      | none => none
      | some n => some (m * 256 + n)
/-- A strict text's address. -/
def strictB (s : ByteArray) : Option Nat := if (pieces s 46).length = 4 then octTo (pieces s 46) 4 else none
def strictRet (o : Option Nat) : Value := .tuple #[.int .u32 ((o.getD 0 : Nat) : Int), .bool o.isSome]
end Go.Proofs.Yticdpidngmeebaa
/- The contract of the reference's Strict. -/
namespace Go.Proofs.Yticdpidngmeebaa
open Go.RowKit
set_option linter.unusedVariables false
set_option maxRecDepth 20000

end Go.Proofs.Yticdpidngmeebaa
/- Contracts of the reference's readers of layer 3: hex, gap, Groups. -/
namespace Go.Proofs.Yticdpidngmeebaa
open Go.RowKit
set_option linter.unusedVariables false
set_option maxRecDepth 20000

/-- A group's number. -/
def hexG (p : ByteArray) : Option Nat := if 4 < p.size then none else numB p 16
/-- Where two colons stand first, among the first k places. -/
def gapTo (s : ByteArray) : Nat → Option Nat
  | 0 => none
  | k + 1 => match gapTo s k with
    | some i => some i
    | none => if byteOf s k = 58 ∧ byteOf s (k + 1) = 58 then some k else none
def gapB (s : ByteArray) : Option Nat := gapTo s (s.size - 1)
/-- A row of one's own, over a lower base. -/
theorem own_lower {w : World} {B B' : Nat} {t : TypeId} {z : Nat} {v : Value} {n : Nat} {xs : List Value} (h : w.ownsRow B t z v n xs) (hB : B' ≤ B) : w.ownsRow B' t z v n xs := by
  obtain ⟨h1, h2⟩ := h
  refine ⟨h1, ?_⟩
  rcases h2 with h2 | ⟨g, cap, cur, e, hb, rest⟩
  · exact .inl h2
  · exact .inr ⟨g, cap, cur, e, by omega, rest⟩
/-- Numbers, as cells. -/
def ints (l : List Nat) : List Value := l.map fun n => Value.int .i64 ((n : Nat) : Int)
/-- The groups of the first k pieces. -/
def grTo (l : List ByteArray) (dot : Bool) : Nat → Option (List Nat)
  | 0 => some []
  | k + 1 => match grTo l dot k with
    | none => none
    | some out => match hexG (l.getD k ⟨#[]⟩) with
      | some v => some (out ++ [v])
      | none => match strictB (l.getD k ⟨#[]⟩) with
        | none => none
        | some v => if dot = true ∧ ¬ k + 1 < l.length then some (out ++ [v / 65536, v % 65536]) else none
def groupsB (s : ByteArray) (dot : Bool) : Option (List Nat) := if s.size = 0 then some [] else grTo (pieces s 58) dot (pieces s 58).length
/-- What Groups hands back: a row of its own. -/
def GrRet (w : World) (o : Option (List Nat)) (e : Ending) (w' : World) : Prop :=
  ∃ v, e = .returned (.tuple #[v, .bool o.isSome]) ∧ w'.ownsRow w.heap.size 3 1 v (o.getD []).length (ints (o.getD [])) ∧ Below w.heap.size w w'
end Go.Proofs.Yticdpidngmeebaa
/- The contract of the reference's Parse of layer 3. -/
namespace Go.Proofs.Yticdpidngmeebaa
open Go.RowKit
set_option linter.unusedVariables false
set_option maxRecDepth 20000

/-- An array of eight groups lies at B. -/
structure Arr8 (w : World) (B : Nat) (gs : List Nat) : Prop where
  len : gs.length = 8
  lt : B < w.heap.size
  cells : ∀ j, j < 8 → w.cell? ⟨B, j, none⟩ = some (.int .u16 ((gs.getD j 0 : Nat) : Int))
  live : ∀ j, j < 8 → w.frozen? ⟨B, j, none⟩ = false
theorem Arr8.below {w w' : World} {B : Nat} {gs : List Nat} (h : Arr8 w B gs) (hb : Below w.heap.size w w') : Arr8 w' B gs :=
  ⟨h.len, Nat.lt_of_lt_of_le h.lt hb.size, fun j hj => by rw [hb.cell (p := ⟨B, j, none⟩) h.lt]; exact h.cells j hj, fun j hj => by rw [hb.frozen (p := ⟨B, j, none⟩) h.lt]; exact h.live j hj⟩
theorem Arr8.other {w : World} {B B' k : Nat} {gs : List Nat} (h : Arr8 w B gs) (hB : B' ≠ B) (u : Value) : Arr8 (w.setCell ⟨B', k, none⟩ u) B gs := by
  refine ⟨h.len, by simpa using h.lt, ?_, ?_⟩
  · intro j hj
    rw [World.cell?_setCell_other _ _ _ _ (by intro h2; injection h2 with h3 _ _; exact hB h3)]
    exact h.cells j hj
  · intro j hj
    rw [World.frozen?_setCell]
    exact h.live j hj
/-- Eight groups, stored one by one. -/
def store8 (W : World) (R : Nat) (y0 y1 y2 y3 y4 y5 y6 y7 : Nat) : World := ((((((((W.setCell ⟨R, 0, none⟩ (.int .u16 ((y0 : Nat) : Int))).setCell ⟨R, 1, none⟩ (.int .u16 ((y1 : Nat) : Int))).setCell ⟨R, 2, none⟩ (.int .u16 ((y2 : Nat) : Int))).setCell ⟨R, 3, none⟩ (.int .u16 ((y3 : Nat) : Int))).setCell ⟨R, 4, none⟩ (.int .u16 ((y4 : Nat) : Int))).setCell ⟨R, 5, none⟩ (.int .u16 ((y5 : Nat) : Int))).setCell ⟨R, 6, none⟩ (.int .u16 ((y6 : Nat) : Int))).setCell ⟨R, 7, none⟩ (.int .u16 ((y7 : Nat) : Int)))
/-- A row of numbers, as a walk reads it; it may be nil. -/
structure IntRow (w : World) (B : Nat) (b : Option Addr) (n c : Nat) (l : List Nat) : Prop where
  len : l.length = n
  cap : n ≤ c
  capm : c ≤ maxLen
  lies : n = 0 ∨ ∃ h, b = some ⟨h, 0, none⟩ ∧ B ≤ h ∧ h < w.heap.size ∧ ∀ j, j < n → w.cell? ⟨h, j, none⟩ = some (.int .i64 ((l.getD j 0 : Nat) : Int))
/-- The groups ahead of two colons, zeros, the groups behind. -/
def mergeB (oa ob : Option (List Nat)) : Option (List Nat) :=
  match oa, ob with
  | some a, some b => if 7 < a.length + b.length then none else some (a ++ List.replicate (8 - a.length - b.length) 0 ++ b)
  | _, _ => none
def parseB (s : ByteArray) : Option (List Nat) :=
  match gapB s with
  | none => match groupsB s true with
    | none => none
    | some l => if l.length = 8 then some l else none
  | some k => mergeB (groupsB (s.extract 0 k) false) (groupsB (s.extract (k + 2) s.size) true)
def arr8 (l : List Nat) : Value := .agg (l.map fun n => Value.int .u16 ((n : Nat) : Int)).toArray
def parseRet (o : Option (List Nat)) : Value := .tuple #[arr8 (o.getD [0, 0, 0, 0, 0, 0, 0, 0]), .bool o.isSome]

end Go.Proofs.Yticdpidngmeebaa

/- Of lookups that begin, whatever their number up to 30 and the draw, 16 are open at most: the one that would be more fails at once, and behind the end of the open ones there is room again. -/
import Derived.Test.YtedmkdjijhflnaaB6
import Derived.Test.YtedmkdjijhflnaaRows
import Derived.ProofKit
import Derived.Deep.Cut
import Derived.Deep.RegionHeld3
import Derived.OpenShut
import Derived.ShutString
import Derived.ChangeOld
import Derived.Below
namespace Go.Proofs.Ytedmkdjijhflnaa.solveFull
open Go.ChangeShapes Go.WideShapes Go.ChangeAt Go.RowKit
open Go.ChangeMaps (open_string shut_string)
set_option linter.unusedVariables false
set_option maxRecDepth 20000
set_option linter.unusedSimpArgs false

theorem own : ownKnob Try.prog.godebug = none := by kernel_rfl

def cfgF : Cfg := ⟨1, 1, 5, 4⟩
theorem full_ask : askOk nmA 1 = true := by kernel_rfl
/-- All that are open have waited long enough, and been sent once. -/
def AllF (A : List PL) : Prop := ∀ p ∈ A, p.2.un = 5 ∧ p.2.se = 0
theorem full_tick : ∀ (A : List PL) (j : Int), AllF A → tickA cfgF 5 0 j A = [] ∧ (tickE cfgF 5 0 j A).length = A.length
  | [], j, _ => ⟨rfl, rfl⟩
  | (g, l) :: r, j, h => by
    have h1 := h (g, l) (by simp)
    have ih := full_tick r (j + 1) (fun p hp => h p (by simp [hp]))
    have ho : overL cfgF l = true := by unfold overL; rw [h1.2]; rfl
    have hu : l.un ≤ 5 := by rw [h1.1]; decide
    rw [tickA_cons, tickE_cons, if_pos hu, if_pos hu, if_pos ho, List.length_cons, ih.1, ih.2]
    exact ⟨rfl, rfl⟩
set_option maxRecDepth 100000 in
set_option maxHeartbeats 8000000 in
theorem walk (z t : Int) (w0 : (Lit.int .i64 z).wf = true) (w1 : (Lit.int .i64 t).wf = true) (w : World) :
    Calls Try.prog 5 #[.int .i64 z, .int .i64 t] w fun e w' => e = .returned (.bool true) ∧ Below w.heap.size w w' := by
  have HR1 := fun W => Lib.hid (around_any z 31 W w0 (by decide) (by decide))
  have hN := aroundN_lt z 31 (by decide)
  have HLV := fun W => Lib.hid (lives12_any W)
  have HNW := Lib.hid (newQ_any 1 1 5 4 w)
  have hcf : cfgP 1 1 5 4 = cfgF := rfl
  rw [hcf] at HNW
  have HST := fun G cp b (n : Nat) v A W (h : SolQ W w.heap.size G cp b cfgF (n : Int) v A) (hn : n ≤ 100) (hA : A.length ≤ 16) => Lib.hid (startQ_any w.heap.size G cp b nmA 1 t 0 cfgF (n : Int) v A W h full_ask (by decide) (by decide) w1 (by decide) (by decide) (by omega) (by omega) hA)
  have HSL := fun G cp b (n : Nat) v W (h : SolQ W w.heap.size G cp b cfgF (n : Int) v []) (hn : n ≤ 100) => Lib.hid (startQ_any w.heap.size G cp b nmA 1 t 5 cfgF (n : Int) v [] W h full_ask (by decide) (by decide) w1 (by decide) (by decide) (by omega) (by omega) (by decide))
  have HTK := fun G cp b (n : Nat) v A W (h : SolQ W w.heap.size G cp b cfgF (n : Int) v A) (hF : AllF A) (hA : A.length ≤ 16) => Lib.hid (tickQ_any w.heap.size G cp b 0 5 cfgF (n : Int) v A W h (fun p hp => by rw [(hF p hp).2]; decide) (by decide) (by decide) (by decide) (by omega))
  have HOP := fun G cp b (n : Int) v A W (h : SolQ W w.heap.size G cp b cfgF n v A) (hA : A.length ≤ 100) => Lib.hid (openQ_any w.heap.size G cp b cfgF n v A W h hA)
  have HNK : Hid (∀ n : Int, (newLk cfgF n nmA 1 t 0).un = 5 ∧ (newLk cfgF n nmA 1 t 0).se = 0 ∧ (newLk cfgF n nmA 1 t 0).n = n) := Lib.hid (fun n => ⟨rfl, rfl, rfl⟩)
  have HBD : Try.prog.built 53 [(0, .int .i64 1), (1, .int .i64 1), (2, .int .i64 5), (3, .int .i64 4)] = some #[.int .i64 1, .int .i64 1, .int .i64 5, .int .i64 4] := built_cf 1 1 5 4
  generalize aroundN z 31 = N at *
  clear w0 w1 hcf
  go_enter Try.func5, Try.ntmps5
  go_wp2_with fail
  refine (HR1 _).out.mono ?_
  rintro e wq ⟨rfl, hwq⟩
  obtain rfl : w = wq := hwq
  clear HR1
  go_wp2_with (refine build_of rfl rfl HBD (by simp only [List.map_toArray, List.map_cons, List.map_nil]; rfl) ?_)
  refine HNW.out.mono ?_
  rintro e w1 ⟨G, cp, b, rfl, hq, hb⟩
  have HQ0 := Lib.hid hq
  have HB0 := Lib.hid hb
  clear HNW hq hb HBD
  go_wp2_with fail
  go_loopw [6, 7, 8] (fun i _ _ wr => ∃ (k : Nat) (v : Value) (A : List PL), k ≤ N ∧ i = .int .i64 (k : Int) ∧ A.length = min k 16 ∧ Hid (AllF A) ∧ Hid (SolQ wr w.heap.size G cp b cfgF (k : Int) v A) ∧ Hid (Below w.heap.size w wr)) (fun i _ _ _ => N - (intOf i).toNat)
  case atStart => exact ⟨0, _, [], Nat.zero_le _, rfl, rfl, Lib.hid (fun p hp => by cases hp), HQ0, HB0⟩
  case round =>
    clear HQ0 HB0
    obtain ⟨k, v, A, hk, rfl, hAl, HF, HQ, HB⟩ := hrel
    by_cases hkN : k < N
    · have hd : decide ((k : Int) < (N : Int)) = true := decide_eq_true (by omega)
      have hdn : decide (k < N) = true := decide_eq_true hkN
      have HS := HST G cp b k v A wr HQ.out (by omega) (by omega)
      unfold nmA at HS
      go_wp2_with fail
      refine HS.out.mono ?_
      rintro e w2 ⟨ev, v2, A2, rfl, hq, hb, _, hd2⟩
      have HZ3 := Lib.hid (zeroEv w2 56)
      have hb3 := (Below.refl w2.heap.size w2).alloc (Nat.le_refl _) (.cells #[.int .i64 0, .int .i64 0, .int .i64 0, .string ⟨#[]⟩, .int .i64 0, .int .i64 0, .slice none 0 0, .int .i64 0] 56)
      obtain ⟨W3, hW3⟩ : ∃ W3, w2.alloc (.cells #[.int .i64 0, .int .i64 0, .int .i64 0, .string ⟨#[]⟩, .int .i64 0, .int .i64 0, .slice none 0 0, .int .i64 0] 56) = W3 := ⟨_, rfl⟩
      rw [hW3] at HZ3 hb3
      have HB3 := Lib.hid hb3
      have HB2 := Lib.hid (HB.out.trans hb)
      have HQ2 := Lib.hid hq
      have HD2 := Lib.hid hd2
      clear hb3 HQ HB hq hb hd2 HS
      unfold evV
      go_upto_region 9 with (refine store_of HZ3 rfl ev_size _ _ rfl rfl rfl (vs := evL ev) rfl rfl rfl (fun U HU HUC => ?_))
      try simp only [Act.put]
      have hU : Below w2.heap.size w2 U := by rw [HU.out]; exact below_cells (Nat.le_refl _) _ _ _ HB3.out
      have HQ3 := Lib.hid (HQ2.out.below hU)
      have HB4 := Lib.hid (HB2.out.trans (hU.mono HQ2.out.lt))
      obtain ⟨E, hE⟩ : ∃ E, w2.heap.size = E := ⟨_, rfl⟩
      rw [hE] at HUC
      rw [hE]
      clear HU HB3 HZ3 hW3 hE hU HQ2 HB2
      have hkk : ((k : Int) != (k : Int)) = false := by simp
      rcases HD2.out with ⟨h16, rfl, rfl⟩ | ⟨h16, rfl, g, rfl⟩
      · have e0 : U.cell? ⟨E, 0, none⟩ = some (.int .i64 2) := HUC.out.cell 0 _ rfl
        have e1 : U.cell? ⟨E, 1, none⟩ = some (.int .i64 (k : Int)) := HUC.out.cell 1 _ rfl
        have e7 : U.cell? ⟨E, 7, none⟩ = some (.int .i64 6) := HUC.out.cell 7 _ rfl
        have hk16 : 16 ≤ k := by omega
        have hd16 : decide ((k : Int) < 16) = false := decide_eq_false (by omega)
        have hg16 : decide ((16 : Int) ≤ (k : Int)) = true := decide_eq_true (by omega)
        have hdn16 : decide (k < 16) = false := decide_eq_false (by omega)
        have hgn16 : decide (16 ≤ k) = true := decide_eq_true (by omega)
        clear HUC HD2
        go_wp2_with fail
        go_roundw
        case rel => exact ⟨k + 1, v2, A2, by omega, by go_num, by omega, HF, Lib.hid (by have := HQ3.out; rw [show ((k : Int) + 1) = ((k + 1 : Nat) : Int) by omega] at this; exact this), HB4⟩
        case measure => simp [intOf]; omega
      · have e0 : U.cell? ⟨E, 0, none⟩ = some (.int .i64 0) := HUC.out.cell 0 _ rfl
        have e1 : U.cell? ⟨E, 1, none⟩ = some (.int .i64 (k : Int)) := HUC.out.cell 1 _ rfl
        have hk16 : k < 16 := by omega
        have hd16 : decide ((k : Int) < 16) = true := decide_eq_true (by omega)
        have hg16 : decide ((16 : Int) ≤ (k : Int)) = false := decide_eq_false (by omega)
        have hdn16 : decide (k < 16) = true := decide_eq_true hk16
        have hgn16 : decide (16 ≤ k) = false := decide_eq_false (by omega)
        clear HUC HD2
        go_wp2_with fail
        go_roundw
        case rel => exact ⟨k + 1, v2, A ++ [(g, newLk cfgF (k : Int) nmA 1 t 0)], by omega, by go_num, by rw [List.length_append, List.length_singleton]; omega, Lib.hid (fun p hp => by
          rcases List.mem_append.1 hp with hp | hp
          · exact HF.out p hp
          · rw [List.mem_singleton.1 hp]; exact ⟨(HNK.out _).1, (HNK.out _).2.1⟩), Lib.hid (by have := HQ3.out; rw [show ((k : Int) + 1) = ((k + 1 : Nat) : Int) by omega] at this; exact this), HB4⟩
        case measure => simp [intOf]; omega
    · obtain rfl : k = N := by omega
      have hd : decide ((k : Int) < (k : Int)) = false := by simp
      have hdn : decide (k < k) = false := by simp
      have HO := HOP G cp b (k : Int) v A wr HQ.out (by omega)
      obtain ⟨M, hM⟩ : ∃ M, A.length = M := ⟨_, rfl⟩
      rw [hM] at HO hAl
      have hmin : min (k : Int) 16 = (M : Int) := by omega
      have hmn : min k 16 = M := hAl.symm
      have HM := Lib.hid hM
      clear hM hAl
      go_wp2_with fail
      refine HO.out.mono ?_
      rintro e w2 ⟨vo, a, m, rfl, hvo, hb⟩
      subst hvo
      have hq2 := HQ.out.below hb
      have HT := HTK G cp b k v A w2 hq2 HF.out (by rw [HM.out]; omega)
      have HB2 := Lib.hid (HB.out.trans (hb.mono HQ.out.lt))
      have HTF := Lib.hid (full_tick A 0 HF.out)
      simp only [HTF.out.1] at HT
      clear hb hq2 HQ HB HO HOP HST HTK
      have hnn : ((M : Int) != (M : Int)) = false := by simp
      go_wp2_with fail
      refine HT.out.mono ?_
      rintro e w3 ⟨v3, ve, rfl, hr, hq, hb, _, _⟩
      obtain ⟨a3, m3, hve⟩ : ∃ a m, ve = .slice a M m := by
        have hlen : (tickE cfgF 5 0 0 A).length = M := by rw [HTF.out.2, HM.out]
        rcases hr.form with ⟨e1, e2⟩ | ⟨g, cap, e1, _⟩
        · rw [e2] at hlen
          exact ⟨none, 0, by rw [e1, ← hlen]; rfl⟩
        · exact ⟨_, cap, by rw [e1, hlen]⟩
      subst hve
      have HS := HSL G cp b k v3 w3 hq (by omega)
      have HB3 := Lib.hid (HB2.out.trans hb)
      clear hr hq hb HT HTF HM HB2 HF
      unfold nmA at HS
      simp only [List.length_nil] at HS
      go_wp2_with fail
      refine HS.out.mono ?_
      rintro e w4 ⟨ev, v4, A4, rfl, hq, hb, _, hd4⟩
      obtain ⟨rfl, g, rfl⟩ : ev = evS (newLk cfgF (k : Int) nmA 1 t 5) ∧ ∃ g, A4 = [(g, newLk cfgF (k : Int) nmA 1 t 5)] := by
        rcases hd4 with ⟨h, _⟩ | ⟨_, h, g, h2⟩
        · cases h
        · exact ⟨h, g, h2⟩
      have HZ3 := Lib.hid (zeroEv w4 56)
      have hb3 := (Below.refl w4.heap.size w4).alloc (Nat.le_refl _) (.cells #[.int .i64 0, .int .i64 0, .int .i64 0, .string ⟨#[]⟩, .int .i64 0, .int .i64 0, .slice none 0 0, .int .i64 0] 56)
      obtain ⟨W5, hW5⟩ : ∃ W5, w4.alloc (.cells #[.int .i64 0, .int .i64 0, .int .i64 0, .string ⟨#[]⟩, .int .i64 0, .int .i64 0, .slice none 0 0, .int .i64 0] 56) = W5 := ⟨_, rfl⟩
      rw [hW5] at HZ3 hb3
      have HB5 := Lib.hid hb3
      have HB4 := Lib.hid (HB3.out.trans hb)
      have HQ4 := Lib.hid hq
      clear hb3 hq hb hd4 HS HB3 HSL
      unfold evV
      go_upto_region 14 with (refine store_of HZ3 rfl ev_size _ _ rfl rfl rfl (vs := evL (evS (newLk cfgF (k : Int) nmA 1 t 5))) rfl rfl rfl (fun U HU HUC => ?_))
      try simp only [Act.put]
      have hU : Below w4.heap.size w4 U := by rw [HU.out]; exact below_cells (Nat.le_refl _) _ _ _ HB5.out
      have HO := Lib.hid (openQ_any w.heap.size G cp b cfgF ((k : Int) + 1) v4 [(g, newLk cfgF (k : Int) nmA 1 t 5)] U (HQ4.out.below hU) (by simp))
      have HB6 := Lib.hid (HB4.out.trans (hU.mono HQ4.out.lt))
      have e0 : U.cell? ⟨w4.heap.size, 0, none⟩ = some (.int .i64 0) := HUC.out.cell 0 _ rfl
      clear HU HUC HB5 HZ3 hW5 hU HQ4 HB4
      go_wp2_with fail
      refine HO.out.mono ?_
      rintro e w6 ⟨vo6, a6, m6, rfl, hvo6, hb⟩
      subst hvo6
      have HB7 := Lib.hid (HB6.out.trans (hb.mono HB6.out.size))
      clear hb HO HB6 e0
      simp only [List.length_cons, List.length_nil]
      go_wp2_with fail
      refine (HLV w6).out.mono ?_
      rintro e w7 ⟨rfl, hb⟩
      have HB8 := Lib.hid (HB7.out.trans (hb.mono HB7.out.size))
      clear hb HB7 HLV
      go_wp2_with fail
      go_ret
      exact ⟨rfl, HB8.out⟩

set_option maxRecDepth 100000 in
theorem lifted (os : Os) (started : os.Started) (H : Type) (enc : TypeId × Value → H) :
    ReturnsInHanded {} Try.checked os 5 .any (Rows.solveFullSpec.pre6 enc Try.prog Try.f5 Rows.solveFullRow.domain false) (Rows.solveFullSpec.post enc Try.prog Try.f5 false true false false) := by
  refine returnsInHanded_of_change (C := Try.checked) own started (by kernel_rfl) Try.func5
    (ChangeSpec.witness6 (enc := enc) (C := Try.checked) false ⟨#[], #[.int .i64 0, .int .i64 0], []⟩ 8 (by kernel_rfl) (by kernel_rfl) (by kernel_rfl) (by kernel_rfl)) ?_
  intro W base args ds gs before hval0 hW hcnd _
  have hval : ∀ (j : Nat) t v, Try.f5.params[j]? = some t → args[j]? = some v → Value.okWide Try.prog W .any base t v := hval0
  have hW' := hW
  obtain ⟨p, q, hA0, hV, rfl, hfz, hnd⟩ := hW
  have hA : DataW.TrodAll enc Try.prog W 0 (fun _ => true) true Try.f5.params.toList args.toList ds p := hA0
  rw [Try.params5] at hA hval
  obtain ⟨v0, vs0, d0, ds0, p0, q0, hargs, rfl, rfl, h0, r0⟩ := trodAll_cons hA
  obtain ⟨v1, vs1, d1, ds1, p1, q1, rfl, rfl, rfl, h1, r1⟩ := trodAll_cons r0
  obtain ⟨rfl, rfl, rfl⟩ := trodAll_nil r1
  obtain rfl : args = #[v0, v1] := by cases args; simp_all
  obtain ⟨rfl, rfl⟩ := trodVars_none hV
  obtain ⟨a0, rfl, rfl, rfl, w0⟩ := open_int Try.underlying3 (hval 0 3 v0 rfl rfl) h0
  obtain ⟨a1, rfl, rfl, rfl, w1⟩ := open_int Try.underlying3 (hval 1 3 v1 rfl rfl) h1
  clear hA0 hval0
  refine (walk a0 a1 w0 w1 W).mono fun e W' ⟨he, bel⟩ => ?_
  subst he
  exact ⟨_, rfl, _, _, _, [], _, [], hW', trodAll_mk1 (shut_bool Try.underlying4 _), (trodAll_cons_mk (shut_int Try.underlying3 w0) (trodAll_cons_mk (shut_int Try.underlying3 w1) trodAll_mk0)), rfl, bel.frame _, fun h => by cases h⟩

theorem over : Rows.solveFullRow.holds Try.pinned (OpenSpec.ofChange Rows.solveFullSpec) :=
  OpenClaim.holds_of_wide 5 Try.f5 rfl rfl rfl rfl rfl rfl rfl ⟨rfl, rfl, rfl, rfl, rfl⟩ rfl rfl rfl rfl rfl (by kernel_rfl) Try.func5 (by kernel_rfl)
    (of_decide_eq_true (by kernel_rfl)) (by unfold Func.isWrapper; first | (rw [if_pos (by decide +kernel)]; kernel_rfl) | (rw [if_neg (by decide +kernel)]; exact ⟨rfl, rfl⟩))
    (fun os started H enc _ => lifted os started H enc)


theorem proved : Rows.SolveFullSaid := over
#print axioms proved
end Go.Proofs.Ytedmkdjijhflnaa.solveFull

/- The law MatchBound: of a chain of CNAMEs of up to 20 steps the first 8 steps tell the address at its end, its lifetime and the steps; one of more tells ErrLong alone; whatever the number of steps and the lifetimes. -/
import Derived.Test.YtmecdhlehekdeaaB6
import Derived.Test.YtmecdhlehekdeaaRows
import Derived.ProofKit
import Derived.Deep.Cut
import Derived.Deep.RegionHeld3
import Derived.OpenShut
import Derived.ShutString
import Derived.ChangeOld
import Derived.Below
namespace Go.Proofs.Ytmecdhlehekdeaa.matchBound
open Go.ChangeShapes Go.WideShapes Go.ChangeAt Go.RowKit
open Go.ChangeMaps (open_string shut_string)
set_option linter.unusedVariables false
set_option maxRecDepth 20000
set_option linter.unusedSimpArgs false

theorem own : ownKnob Try.prog.godebug = none := by kernel_rfl

def zA4 : Ad := (4, List.replicate 16 0)
def bQ : Qry := ⟨0, ⟨#[48]⟩, 1, 0⟩
set_option maxRecDepth 100000 in
set_option maxHeartbeats 8000000 in
theorem walk (z t : Int) (w0 : (Lit.int .i64 z).wf = true) (w1 : (Lit.int .i64 t).wf = true) (w : World) :
    Calls Try.prog 8 #[.int .i64 z, .int .i64 t] w fun e w' => e = .returned (.bool true) ∧ Below w.heap.size w w' := by
  have HR1 := fun W => Lib.hid (around_any z 21 W w0 (by decide) (by decide))
  have HR2 := fun W => Lib.hid (around_any t 1000 W w1 (by decide) (by decide))
  have hN := aroundN_lt z 21 (by decide)
  have hT := aroundN_lt t 1000 (by decide)
  have HLV := fun W => Lib.hid (lives11_any W)
  generalize aroundN z 21 = N at *
  generalize aroundN t 1000 = T at *
  clear w0 w1
  go_enter Try.func8, Try.ntmps8
  go_wp2_with fail
  refine (HR1 _).out.mono ?_
  rintro e wq ⟨rfl, hwq⟩
  obtain rfl : w = wq := hwq
  go_wp2_with fail
  refine (HR2 _).out.mono ?_
  rintro e wq ⟨rfl, hwq⟩
  obtain rfl : w = wq := hwq
  clear HR1 HR2
  go_wp2_with fail
  go_loopw [5, 6] (fun v i wr => ∃ k : Nat, k ≤ N ∧ i = .int .i64 (k : Int) ∧ Hid (RowR wr w.heap.size v (bndP T k)) ∧ Hid (Below w.heap.size w wr)) (fun _ i _ => N - (intOf i).toNat)
  case atStart => exact ⟨0, Nat.zero_le _, rfl, Lib.hid (RowR.nil _ _), Lib.hid (Below.refl _ _)⟩
  case round =>
    obtain ⟨k, hk, rfl, HR, HB⟩ := hrel
    by_cases hkN : k < N
    · have hd : decide ((k : Int) < (N : Int)) = true := decide_eq_true (by omega)
      have hdn : decide (k < N) = true := decide_eq_true hkN
      have hwa : IntKind.i64.wrap ((T : Int) + (k : Int)) = (T : Int) + (k : Int) := by rw [IntKind.wrap_i64]; omega
      have hwb : IntKind.i64.wrap ((k : Int) + 1) = (k : Int) + 1 := by rw [IntKind.wrap_i64]; omega
      have H1 := Lib.hid (dec_any k wr (Nat.le_trans hk (by omega)))
      have R16 : Hid ((recB T k).b.length = 16) := Lib.hid rfl
      go_wp2_with fail
      refine H1.out.mono ?_
      rintro e w1 ⟨rfl, hb1⟩
      have HB1 := Lib.hid (HB.out.trans (hb1.mono HB.out.size))
      have HR1 := Lib.hid (HR.out.below hb1)
      have H2 := Lib.hid (dec_any1 k w1 (by omega))
      clear hb1 HB HR H1
      go_wp2_with fail
      refine H2.out.mono ?_
      rintro e w2 ⟨rfl, hb2⟩
      have HB2 := Lib.hid (HB1.out.trans (hb2.mono HB1.out.size))
      have HR2 := Lib.hid (HR1.out.below hb2)
      clear hb2 HB1 HR1 H2
      have HS2 := Lib.hid HB2.out.size
      have HM1 : Hid (1 = [recB T k].length) := Lib.hid rfl
      have HY : Hid (All16 [recB T k]) := Lib.hid (fun x hx => by rw [List.mem_singleton.1 hx]; rfl)
      have HLE : Hid ((bndP T k).length + [recB T k].length ≤ 100000) := Lib.hid (by simp [bndP]; omega)
      have HFW : Hid (∀ W5, W5 = w2.alloc (.cells (recL (recB T k)).toArray 57) → Below w2.heap.size w2 W5 ∧ W5.rangeAt w2.heap.size 0 (flatR [recB T k]) ∧ w.heap.size ≤ W5.heap.size) := Lib.hid (fun W5 e => by
        have hb : Below w2.heap.size w2 W5 := by rw [e]; exact (Below.refl _ _).alloc (Nat.le_refl _) _
        exact ⟨hb, by rw [e]; exact rec_range _ _, Nat.le_trans HS2.out hb.size⟩)
      go_wp2_with (first
        | (refine build_rec5 rfl _ _ _ _ _ rfl rfl rfl rfl rfl rfl ?_; refine build_recS (r := recB T k) R16 rfl _ rfl rfl (fun W5 HW5 => ?_); obtain ⟨hb5, hr5, hs5⟩ := HFW.out W5 HW5.out; have HB5 := Lib.hid hb5; have HO5 := Lib.hid (HR2.out.below hb5); have HR5 := Lib.hid hr5; have HS5 := Lib.hid hs5; clear hb5 hr5 hs5)
        | (at_builtin; refine append_recs HO5 _ _ rfl rfl rfl [recB T k] rfl HM1 HR5 HY HLE HS5 (fun v6 w6 HO6 HG6 HA6 => ?_)))
      have HB6 : Hid (Below w.heap.size w w6) := Lib.hid ((HB2.out.trans (HB5.out.mono HS2.out)).grown HG6.out HS5.out (fun j hj => (HO5.out.1.lt j hj).1))
      have HO7 : Hid (RowR w6 w.heap.size v6 (bndP T (k + 1))) := Lib.hid (by rw [bndP_succ]; exact HO6.out)
      clear HFW HG6 HA6 HO6 HO5 HR5 HB5 HW5 HB2 HR2
      go_roundw
      case rel => exact ⟨k + 1, by omega, by go_num, HO7, HB6⟩
      case measure => simp [intOf]; omega
    · obtain rfl : k = N := by omega
      have hd : decide ((k : Int) < (k : Int)) = false := by simp
      obtain ⟨a5, c5, rfl⟩ := HR.out.isSlice
      go_upto_region 9 with fail
      obtain ⟨W1, hW1⟩ : ∃ W1, wr.alloc (.cells #[.int .i64 4, .int .u8 0, .int .u8 0, .int .u8 0, .int .u8 0, .int .u8 0, .int .u8 0, .int .u8 0, .int .u8 0, .int .u8 0, .int .u8 0, .int .u8 0, .int .u8 0, .int .u8 0, .int .u8 0, .int .u8 0, .int .u8 0] 55) = W1 := ⟨_, rfl⟩
      have hb1 : Below wr.heap.size wr W1.drew := by rw [← hW1]; exact ((Below.refl _ _).alloc (Nat.le_refl _) _).drew
      have HPA : Hid (CellsAt W1.drew wr.heap.size (adL zA4)) := Lib.hid (by rw [← hW1]; exact (CellsAt.new wr 55 (adL zA4)).below (Below.refl _ _).drew)
      have HR1 := Lib.hid (HR.out.below hb1)
      have HB1 : Hid (Below w.heap.size w W1.drew) := Lib.hid (HB.out.trans (hb1.mono HB.out.size))
      have HNE : Hid (∀ g, (Value.slice a5 (bndP T k).length c5).ownBlock = some g → g ≠ wr.heap.size) := Lib.hid (fun g hg => Nat.ne_of_lt (HR.out.1.lt g hg).2)
      try rw [hW1]
      clear hW1 hb1 HR HB
      obtain ⟨P, hP⟩ : ∃ P, wr.heap.size = P := ⟨_, rfl⟩
      rw [hP] at HPA HNE
      try rw [hP]
      clear hP
      have H16 : Hid (zA4.2.length = 16) := Lib.hid rfl
      have HDE := fun W => Lib.hid (dec_any k W (Nat.le_trans hk (by omega)))
      have BE := built_recE (decB k)
      have E16 : Hid ((recE k).b.length = 16) := Lib.hid rfl
      obtain ⟨S, hS⟩ : ∃ S : World → Prop, (fun U => U.rangeAt P 0 (adL zA4)) = S := ⟨_, rfl⟩
      have C1 : Hid (∀ w', S w' → w'.rangeAt P 0 (adL zA4)) := Lib.hid (fun w' h => by rw [← hS] at h; exact h)
      have HSI : Hid (∀ U, CellsAt U P (adL zA4) → S U) := Lib.hid (fun U h => by rw [← hS]; exact h.range)
      clear hS
      refine wp_region_noPanic ?_
      refine wp_region_held_drew (S := S) (by kernel_rfl) (HSI.out _ HPA.out) (fun hHeld => ?_)
      generalize W1.drew = V at *
      refine wpAnyH_take (i := 0) (v := ?_) rfl (by kernel_rfl) (by kernel_rfl) (by kernel_rfl) (fun _ _ _ h => h) (Or.inl ⟨by rfl, ?_⟩) (by assumption) ?_
      rotate_left
      · (intro w hSw; go_simp; try (with_reducible rfl))
      try simp only [Act.put, List.getElem_toArray, List.getElem_cons_zero, List.setIfInBounds_toArray, List.set_cons_zero, List.set_cons_succ]
      refine wpAnyH_take (i := 1) (v := ?_) rfl (by kernel_rfl) (by kernel_rfl) (by kernel_rfl) (fun _ _ _ h => h) (Or.inl ⟨by rfl, ?_⟩) (by assumption) ?_
      rotate_left
      · (intro w hSw; go_simp; try (with_reducible rfl))
      try simp only [Act.put, List.getElem_toArray, List.getElem_cons_zero, List.getElem_cons_succ, List.setIfInBounds_toArray, List.set_cons_zero, List.set_cons_succ]
      refine wpAnyH_take (i := 3) rfl (by kernel_rfl) (by kernel_rfl) (by kernel_rfl) (fun _ _ _ h => h) (yields_ad H16 C1 (by rfl) _ rfl rfl) (by assumption) ?_
      try simp only [Act.put, List.getElem_toArray, List.getElem_cons_zero, List.getElem_cons_succ, List.setIfInBounds_toArray, List.set_cons_zero, List.set_cons_succ]
      refine wpAnyH_ready (rs := [2]) (by kernel_rfl) (by simp) ?_
      refine ready_one rfl rfl (fun K hK => ?_)
      go_simp
      refine (HDE V).out.mono ?_
      rintro e w2 ⟨rfl, hb2⟩
      have HP2 := Lib.hid (HPA.out.below hb2)
      have HR2 := Lib.hid (HR1.out.below hb2)
      have HB2 : Hid (Below w.heap.size w w2) := Lib.hid (HB1.out.trans (hb2.mono HB1.out.size))
      clear hb2 HPA HR1 HB1 HDE
      go_wp2_with fail
      refine hK.out _ _ (HSI.out _ HP2.out) (fun hHeld2 => ?_)
      clear hK K
      try simp only [Act.put, List.getElem_toArray, List.getElem_cons_zero, List.getElem_cons_succ, List.setIfInBounds_toArray, List.set_cons_zero, List.set_cons_succ]
      refine wpAnyH_take (i := 4) rfl (by kernel_rfl) (by kernel_rfl) (by kernel_rfl) (fun _ _ _ h => h) (yields_build (by rfl) rfl BE (by simp only [List.map_toArray, List.map_cons, List.map_nil]; rfl)) (by assumption) ?_
      try simp only [Act.put, List.getElem_toArray, List.getElem_cons_zero, List.getElem_cons_succ, List.setIfInBounds_toArray, List.set_cons_zero, List.set_cons_succ]
      refine wpAnyH_ready (rs := [5]) (by kernel_rfl) (by simp) ?_
      refine ready_one rfl rfl (fun K hK => ?_)
      refine wp_build_recM (r := recE k) E16 _ rfl rfl ?_
      obtain ⟨W5, hW5⟩ : ∃ W5, w2.alloc (.cells (recL (recE k)).toArray 57) = W5 := ⟨_, rfl⟩
      have hb5 : Below w2.heap.size w2 W5 := by rw [← hW5]; exact (Below.refl _ _).alloc (Nat.le_refl _) _
      have HX5 : Hid (W5.rangeAt w2.heap.size 0 (flatR [recE k])) := Lib.hid (by rw [← hW5]; exact rec_range _ _)
      have HP5 := Lib.hid (HP2.out.below hb5)
      have HR5 := Lib.hid (HR2.out.below hb5)
      have HB5 : Hid (Below w.heap.size w W5) := Lib.hid (HB2.out.trans (hb5.mono HB2.out.size))
      have HS5 := Lib.hid HB5.out.size
      try rw [hW5]
      clear hW5 hb5 HP2 HR2 HB2
      refine hK.out _ _ (HSI.out _ HP5.out) (fun hHeld5 => ?_)
      clear hK K
      try simp only [Act.put, List.getElem_toArray, List.getElem_cons_zero, List.getElem_cons_succ, List.setIfInBounds_toArray, List.set_cons_zero, List.set_cons_succ]
      refine wpAnyH_ready (rs := [6]) (by kernel_rfl) (by simp) ?_
      refine ready_one rfl rfl (fun K hK => ?_)
      have HM1 : Hid (1 = [recE k].length) := Lib.hid rfl
      have HY : Hid (All16 [recE k]) := Lib.hid (fun x hx => by rw [List.mem_singleton.1 hx]; rfl)
      have HLE : Hid ((bndP T k).length + [recE k].length ≤ 100000) := Lib.hid (by simp [bndP]; omega)
      refine wp_append_recsM HR5 _ _ rfl rfl [recE k] rfl HM1 HX5 HY HLE HS5 (fun v6 w6 HO6 HG6 HA6 => ?_)
      have HB6 : Hid (Below w.heap.size w w6) := Lib.hid (HB5.out.grown HG6.out HS5.out (fun j hj => (HR5.out.1.lt j hj).1))
      have HP6 : Hid (CellsAt w6 P (adL zA4)) := Lib.hid (HP5.out.same HG6.out.size (HG6.out.block P HP5.out.lt (fun e => HNE.out P e.symm rfl)))
      refine hK.out _ _ (HSI.out _ HP6.out) (fun hHeld6 => ?_)
      clear hK K
      try simp only [Act.put, List.getElem_toArray, List.getElem_cons_zero, List.getElem_cons_succ, List.setIfInBounds_toArray, List.set_cons_zero, List.set_cons_succ]
      refine wpAnyH_take (i := 7) (v := ?_) rfl (by kernel_rfl) (by kernel_rfl) (by kernel_rfl) (fun _ _ _ h => h) (Or.inl ⟨by rfl, ?_⟩) (by assumption) ?_
      rotate_left
      · (intro w hSw; go_simp; try (with_reducible rfl))
      try simp only [Act.put, List.getElem_toArray, List.getElem_cons_zero, List.getElem_cons_succ, List.setIfInBounds_toArray, List.set_cons_zero, List.set_cons_succ]
      refine wpAnyH_done (by kernel_rfl) ?_ _
      refine NoPanic.normal ?_
      have HD7 : Hid (∃ a7 c7, v6 = .slice a7 (bndD T k).length c7 ∧ RecsAt w6 a7 c7 (bndD T k)) := Lib.hid (RowR.recs (show RowR w6 w.heap.size v6 (bndD T k) from HO6.out) (bnd_fit (by omega) hT))
      obtain ⟨a7, c7, rfl, hr7⟩ := HD7.out
      have HR7 := Lib.hid hr7
      clear HD7 hr7 hHeld hHeld2 hHeld5 hHeld6 HO6 HG6 HA6 HX5 HR5 HP5 HB5 HS5 C1 HSI HM1 HY HLE BE E16 HNE
      have HLD : Hid ((bndD T k).length = k + 1) := Lib.hid (by simp [bndD, bndP])
      rw [HLD.out]
      go_upto_region 11 with fail
      obtain ⟨W7, hW7⟩ : ∃ W7, w6.alloc (.cells #[.int .i64 0, .string ⟨#[48]⟩, .int .i64 1, .int .i64 0] 23) = W7 := ⟨_, rfl⟩
      have hb7 : Below w6.heap.size w6 W7 := by rw [← hW7]; exact (Below.refl _ _).alloc (Nat.le_refl _) _
      have HQ7 : Hid (CellsAt W7 w6.heap.size [.int .i64 0, .string ⟨#[48]⟩, .int .i64 1, .int .i64 0]) := Lib.hid (by rw [← hW7]; exact CellsAt.new w6 23 [.int .i64 0, .string ⟨#[48]⟩, .int .i64 1, .int .i64 0])
      have HR8 := Lib.hid (HR7.out.below hb7)
      have HP8 := Lib.hid (HP6.out.below hb7)
      have HB8 : Hid (Below w.heap.size w W7) := Lib.hid (HB6.out.trans (hb7.mono HB6.out.size))
      try rw [hW7]
      clear hW7 hb7 HR7 HP6 HB6
      obtain ⟨G, hG⟩ : ∃ G, w6.heap.size = G := ⟨_, rfl⟩
      rw [hG] at HQ7
      try rw [hG]
      clear hG
      have HAS : ∀ W, Hid (Calls Try.prog 12 #[.agg #[.int .i64 0, .string ⟨#[48]⟩, .int .i64 1, .int .i64 0]] W fun e w' => e = .returned (.agg #[.int .i64 0, .string ⟨#[48]⟩, .int .i64 1, .int .i64 0]) ∧ Below W.heap.size W w') := fun W => Lib.hid (pack_as bQ W)
      have HFO : ∀ W, RecsAt W a7 c7 (bndD T k) → Hid (Calls Try.prog 13 #[.agg #[.int .i64 0, .string ⟨#[48]⟩, .int .i64 1, .int .i64 0], .slice a7 (k + 1) c7] W fun e w' => ∃ g, e = .returned (.agg #[.int .i64 0, .int .i64 33152, .slice (some ⟨g, 0, none⟩) 1 1, .slice a7 (k + 1) c7, .slice none 0 0, .slice none 0 0]) ∧ RecsAt w' a7 c7 (bndD T k) ∧ Below W.heap.size W w') := fun W h => Lib.hid (pack_fo bQ a7 c7 (bndD T k) (k + 1) HLD.out W h)
      have HTE : ∀ (g : Nat) W, RecsAt W a7 c7 (bndD T k) → Hid (Calls Try.prog 18 #[.agg #[.int .i64 0, .string ⟨#[48]⟩, .int .i64 1, .int .i64 0], .agg #[.int .i64 0, .int .i64 33152, .slice (some ⟨g, 0, none⟩) 1 1, .slice a7 (k + 1) c7, .slice none 0 0, .slice none 0 0]] W (TellRet W (tellP 33152 ⟨#[48]⟩ 1 (bndD T k)))) := fun g W h => Lib.hid (pack_te bQ a7 c7 (bndD T k) (k + 1) HLD.out (bnd_all (by omega)) (by decide) (by omega) g W h)
      have HXE := Lib.hid (bnd_told (T := T) (N := k) (by omega) hT)
      rw [show decB 0 = ⟨#[48]⟩ by kernel_rfl] at HXE
      obtain ⟨X, hX⟩ : ∃ X, tellP 33152 ⟨#[48]⟩ 1 (bndD T k) = X := ⟨_, rfl⟩
      rw [hX] at HXE
      simp only [hX] at HTE
      clear hX
      go_cut [9] from 11 (fun s wx => ∃ (B : Nat) (v : Value) (Bt : Nat), s = .pointer (some ⟨B, 0, none⟩) ∧ Hid (CellsAt wx B (tldL X v)) ∧ Hid (RowA wx Bt v X.ad) ∧ Hid (Below W7.drew.heap.size W7.drew wx))
      case first =>
        have hsT : (Try.prog.info? 43).map (·.size) = some 5 := by kernel_rfl
        have hsQ : (Try.prog.info? 23).map (·.size) = some ([.int .i64 0, .string ⟨#[48]⟩, .int .i64 1, .int .i64 0] : List Value).length := by kernel_rfl
        have HQd := Lib.hid (HQ7.out.below (Below.refl _ _).drew)
        have HG2 := Lib.hid (HR8.out.below (Below.refl _ _).drew)
        obtain ⟨S, hS⟩ : ∃ S : World → Prop, (fun U => U.rangeAt G 0 [.int .i64 0, .string ⟨#[48]⟩, .int .i64 1, .int .i64 0]) = S := ⟨_, rfl⟩
        have C1 : Hid (∀ w', S w' → w'.rangeAt G 0 [.int .i64 0, .string ⟨#[48]⟩, .int .i64 1, .int .i64 0]) := Lib.hid (fun w' h => by rw [← hS] at h; exact h)
        have HSI : Hid (∀ U, Below W7.drew.heap.size W7.drew U → S U) := Lib.hid (fun U h => by rw [← hS]; exact (HQd.out.below h).range)
        have HSO : Hid (∀ U, Below W7.drew.heap.size W7.drew U → ∀ B, W7.drew.heap.size ≤ B → ∀ vs X, X = U.setCells B 0 vs → S X) := Lib.hid (fun U h B hB vs X e => by
          have h1 := HQd.out.lt
          rw [← hS, e]
          exact ((HQd.out.below h).apart (by omega) _).range)
        clear hS
        refine wp_region_noPanic ?_
        refine wp_region_held_drew (S := S) (by kernel_rfl) (HSI.out _ (Below.refl _ _)) (fun hHeld => ?_)
        generalize W7.drew = V at *
        have HG0 : Hid (Below V.heap.size V V) := Lib.hid (Below.refl _ _)
        refine wpAnyH_take (i := 0) rfl (by kernel_rfl) (by kernel_rfl) (by kernel_rfl) (fun _ _ _ h => h) (yields_row C1 Try.underlying23 rfl hsQ (by rfl) _ rfl rfl) (by assumption) ?_
        try simp only [Act.put, List.getElem_toArray, List.getElem_cons_zero, List.setIfInBounds_toArray, List.set_cons_zero, List.set_cons_succ]
        refine wpAnyH_take (i := 1) rfl (by kernel_rfl) (by kernel_rfl) (by kernel_rfl) (fun _ _ _ h => h) (yields_row C1 Try.underlying23 rfl hsQ (by rfl) _ rfl rfl) (by assumption) ?_
        try simp only [Act.put, List.getElem_toArray, List.getElem_cons_zero, List.getElem_cons_succ, List.setIfInBounds_toArray, List.set_cons_zero, List.set_cons_succ]
        refine wpAnyH_take (i := 3) (v := ?_) rfl (by kernel_rfl) (by kernel_rfl) (by kernel_rfl) (fun _ _ _ h => h) (Or.inl ⟨by rfl, ?_⟩) (by assumption) ?_
        rotate_left
        · (intro w hSw; go_simp; try (with_reducible rfl))
        try simp only [Act.put, List.getElem_toArray, List.getElem_cons_zero, List.getElem_cons_succ, List.setIfInBounds_toArray, List.set_cons_zero, List.set_cons_succ]
        clear hsQ C1 hHeld
        obtain ⟨U0, hU0⟩ : ∃ U0, V = U0 := ⟨V, rfl⟩
        clear U0 hU0
        refine wpAnyH_ready (rs := [2, 6]) (by kernel_rfl) (by simp) ?_
        refine AllReadyH.cons rfl (fun K hK => ?_) (ready_one rfl rfl (fun K hK => ?_))
        · rw [if_pos (by rfl)]
          go_simp
          refine (HAS V).out.mono ?_
          rintro e U1 ⟨rfl, hb⟩
          go_wp2_with fail
          have HG0n := Lib.hid (chain HG0.out hb)
          clear HG0
          have HG0 := HG0n
          clear HG0n
          have HG2n := Lib.hid (HG2.out.below hb)
          clear HG2
          have HG2 := HG2n
          clear HG2n
          clear hb
          refine hK.out _ _ (HSI.out _ HG0.out) (fun hHeld1 => ?_)
          clear hK K
          try simp only [Act.put, List.getElem_toArray, List.getElem_cons_zero, List.getElem_cons_succ, List.setIfInBounds_toArray, List.set_cons_zero, List.set_cons_succ]
          refine wpAnyH_ready (rs := [4, 6]) (by kernel_rfl) (by simp) ?_
          refine AllReadyH.cons rfl (fun K hK => ?_) (ready_one rfl rfl (fun K hK => ?_))
          · rw [if_pos (by rfl)]
            go_simp
            refine (HFO U1 HG2.out).out.mono ?_
            rintro e U2 ⟨g, rfl, hm, hb⟩
            have HG2m := Lib.hid hm
            clear hm
            go_wp2_with fail
            have HG0n := Lib.hid (chain HG0.out hb)
            clear HG0
            have HG0 := HG0n
            clear HG0n
            clear HG2
            have HG2 := HG2m
            clear HG2m
            clear hb
            refine hK.out _ _ (HSI.out _ HG0.out) (fun hHeld2 => ?_)
            clear hK K
            try simp only [Act.put, List.getElem_toArray, List.getElem_cons_zero, List.getElem_cons_succ, List.setIfInBounds_toArray, List.set_cons_zero, List.set_cons_succ]
            refine wpAnyH_ready (rs := [5, 6]) (by kernel_rfl) (by simp) ?_
            refine AllReadyH.cons rfl (fun K hK => ?_) (ready_one rfl rfl (fun K hK => ?_))
            · rw [if_pos (by rfl)]
              go_simp
              refine (HTE g U2 HG2.out).out.mono ?_
              rintro e U3 ⟨v, rfl, hr, hb⟩
              obtain ⟨av, nv, cv, rfl⟩ := hr.isSlice
              have HG3 : Hid (RowA U3 V.heap.size (.slice av nv cv) X.ad) := Lib.hid (hr.mono HG0.out.size)
              clear hr
              go_wp2_with fail
              have HG0n := Lib.hid (chain HG0.out hb)
              clear HG0
              have HG0 := HG0n
              clear HG0n
              have HG2n := Lib.hid (HG2.out.below hb)
              clear HG2
              have HG2 := HG2n
              clear HG2n
              clear hb
              refine hK.out _ _ (HSI.out _ HG0.out) (fun hHeld3 => ?_)
              clear hK K
              try simp only [Act.put, List.getElem_toArray, List.getElem_cons_zero, List.getElem_cons_succ, List.setIfInBounds_toArray, List.set_cons_zero, List.set_cons_succ]
              refine wpAnyH_ready (rs := [6]) (by kernel_rfl) (by simp) ?_
              refine ready_one rfl rfl (fun K hK => ?_)
              go_wp2_with fail
              obtain ⟨U4, hU⟩ : ∃ X, U3.alloc (.cells #[.int .i64 0, .slice none 0 0, .int .i64 0, .string ⟨#[]⟩, .int .i64 0] 43) = X := ⟨_, rfl⟩
              have hb : Below U3.heap.size U3 U4 := by rw [← hU]; exact (Below.refl _ _).alloc (Nat.le_refl _) _
              have HZ : Hid (CellsAt U4 U3.heap.size zT) := Lib.hid (by rw [← hU]; exact CellsAt.new U3 43 zT)
              try rw [hU]
              clear hU
              obtain ⟨B, hB⟩ : ∃ B, U3.heap.size = B := ⟨_, rfl⟩
              have HBL : Hid (V.heap.size ≤ B) := Lib.hid (by rw [← hB]; exact HG0.out.size)
              have HNE : Hid (∀ g, (Value.slice av nv cv).ownBlock = some g → g ≠ B) := Lib.hid (fun g hg => by rw [← hB]; exact Nat.ne_of_lt (HG3.out.lt g hg).2)
              rw [hB] at HZ
              try rw [hB]
              clear hB
              have HG0n := Lib.hid (chain HG0.out hb)
              clear HG0
              have HG0 := HG0n
              clear HG0n
              have HG2n := Lib.hid (HG2.out.below hb)
              clear HG2
              have HG2 := HG2n
              clear HG2n
              have HG3n := Lib.hid (HG3.out.below hb)
              clear HG3
              have HG3 := HG3n
              clear HG3n
              clear hb
              refine hK.out _ _ (HSI.out _ HG0.out) (fun hHeld4 => ?_)
              clear hK K
              try simp only [Act.put, List.getElem_toArray, List.getElem_cons_zero, List.getElem_cons_succ, List.setIfInBounds_toArray, List.set_cons_zero, List.set_cons_succ]
              refine wpAnyH_ready (rs := [7]) (by kernel_rfl) (by simp) ?_
              refine ready_one rfl rfl (fun K hK => ?_)
              refine wp_store_of HZ rfl hsT _ _ rfl rfl rfl (vs := tldL X (.slice av nv cv)) rfl rfl rfl (fun Xw HX HXC => ?_)
              have HSX : Hid (S Xw) := Lib.hid (HSO.out _ HG0.out B HBL.out _ _ HX.out)
              refine hK.out _ _ HSX.out (fun hHeldX => ?_)
              clear hK K
              try simp only [Act.put, List.getElem_toArray, List.getElem_cons_zero, List.getElem_cons_succ, List.setIfInBounds_toArray, List.set_cons_zero, List.set_cons_succ]
              refine wpAnyH_done (by kernel_rfl) ?_ _
              refine NoPanic.normal ?_
              clear hHeld1 hHeld2 hHeld3 hHeld4 hHeldX
              go_wp2_with fail
              go_meet
              case rel => exact ⟨B, _, _, rfl, Lib.hid HXC.out, Lib.hid ((HG3.out.kept2 (w' := Xw) (fun g hg => by rw [HX.out]; exact heap_setCells_other _ _ _ _ _ (HNE.out g hg)))), Lib.hid (by rw [HX.out]; exact below_cells HBL.out _ _ _ HG0.out)⟩
            · go_wp2_with fail
              obtain ⟨U3, hU⟩ : ∃ X, U2.alloc (.cells #[.int .i64 0, .slice none 0 0, .int .i64 0, .string ⟨#[]⟩, .int .i64 0] 43) = X := ⟨_, rfl⟩
              have hb : Below U2.heap.size U2 U3 := by rw [← hU]; exact (Below.refl _ _).alloc (Nat.le_refl _) _
              have HZ : Hid (CellsAt U3 U2.heap.size zT) := Lib.hid (by rw [← hU]; exact CellsAt.new U2 43 zT)
              try rw [hU]
              clear hU
              obtain ⟨B, hB⟩ : ∃ B, U2.heap.size = B := ⟨_, rfl⟩
              have HBL : Hid (V.heap.size ≤ B) := Lib.hid (by rw [← hB]; exact HG0.out.size)
              rw [hB] at HZ
              try rw [hB]
              clear hB
              have HG0n := Lib.hid (chain HG0.out hb)
              clear HG0
              have HG0 := HG0n
              clear HG0n
              have HG2n := Lib.hid (HG2.out.below hb)
              clear HG2
              have HG2 := HG2n
              clear HG2n
              clear hb
              refine hK.out _ _ (HSI.out _ HG0.out) (fun hHeld3 => ?_)
              clear hK K
              try simp only [Act.put, List.getElem_toArray, List.getElem_cons_zero, List.getElem_cons_succ, List.setIfInBounds_toArray, List.set_cons_zero, List.set_cons_succ]
              refine wpAnyH_ready (rs := [5]) (by kernel_rfl) (by simp) ?_
              refine ready_one rfl rfl (fun K hK => ?_)
              go_simp
              refine (HTE g U3 HG2.out).out.mono ?_
              rintro e U4 ⟨v, rfl, hr, hb⟩
              obtain ⟨av, nv, cv, rfl⟩ := hr.isSlice
              have HNE : Hid (∀ g, (Value.slice av nv cv).ownBlock = some g → g ≠ B) := Lib.hid (fun g hg => by have h1 := (hr.lt g hg).1; have h2 := HZ.out.lt; omega)
              have HG3 : Hid (RowA U4 V.heap.size (.slice av nv cv) X.ad) := Lib.hid (hr.mono HG0.out.size)
              clear hr
              go_wp2_with fail
              have HG0n := Lib.hid (chain HG0.out hb)
              clear HG0
              have HG0 := HG0n
              clear HG0n
              have HG2n := Lib.hid (HG2.out.below hb)
              clear HG2
              have HG2 := HG2n
              clear HG2n
              have HZn := Lib.hid (HZ.out.below hb)
              clear HZ
              have HZ := HZn
              clear HZn
              clear hb
              refine hK.out _ _ (HSI.out _ HG0.out) (fun hHeld4 => ?_)
              clear hK K
              try simp only [Act.put, List.getElem_toArray, List.getElem_cons_zero, List.getElem_cons_succ, List.setIfInBounds_toArray, List.set_cons_zero, List.set_cons_succ]
              refine wpAnyH_ready (rs := [7]) (by kernel_rfl) (by simp) ?_
              refine ready_one rfl rfl (fun K hK => ?_)
              refine wp_store_of HZ rfl hsT _ _ rfl rfl rfl (vs := tldL X (.slice av nv cv)) rfl rfl rfl (fun Xw HX HXC => ?_)
              have HSX : Hid (S Xw) := Lib.hid (HSO.out _ HG0.out B HBL.out _ _ HX.out)
              refine hK.out _ _ HSX.out (fun hHeldX => ?_)
              clear hK K
              try simp only [Act.put, List.getElem_toArray, List.getElem_cons_zero, List.getElem_cons_succ, List.setIfInBounds_toArray, List.set_cons_zero, List.set_cons_succ]
              refine wpAnyH_done (by kernel_rfl) ?_ _
              refine NoPanic.normal ?_
              clear hHeld1 hHeld2 hHeld3 hHeld4 hHeldX
              go_wp2_with fail
              go_meet
              case rel => exact ⟨B, _, _, rfl, Lib.hid HXC.out, Lib.hid ((HG3.out.kept2 (w' := Xw) (fun g hg => by rw [HX.out]; exact heap_setCells_other _ _ _ _ _ (HNE.out g hg)))), Lib.hid (by rw [HX.out]; exact below_cells HBL.out _ _ _ HG0.out)⟩
          · go_wp2_with fail
            obtain ⟨U2, hU⟩ : ∃ X, U1.alloc (.cells #[.int .i64 0, .slice none 0 0, .int .i64 0, .string ⟨#[]⟩, .int .i64 0] 43) = X := ⟨_, rfl⟩
            have hb : Below U1.heap.size U1 U2 := by rw [← hU]; exact (Below.refl _ _).alloc (Nat.le_refl _) _
            have HZ : Hid (CellsAt U2 U1.heap.size zT) := Lib.hid (by rw [← hU]; exact CellsAt.new U1 43 zT)
            try rw [hU]
            clear hU
            obtain ⟨B, hB⟩ : ∃ B, U1.heap.size = B := ⟨_, rfl⟩
            have HBL : Hid (V.heap.size ≤ B) := Lib.hid (by rw [← hB]; exact HG0.out.size)
            rw [hB] at HZ
            try rw [hB]
            clear hB
            have HG0n := Lib.hid (chain HG0.out hb)
            clear HG0
            have HG0 := HG0n
            clear HG0n
            have HG2n := Lib.hid (HG2.out.below hb)
            clear HG2
            have HG2 := HG2n
            clear HG2n
            clear hb
            refine hK.out _ _ (HSI.out _ HG0.out) (fun hHeld2 => ?_)
            clear hK K
            try simp only [Act.put, List.getElem_toArray, List.getElem_cons_zero, List.getElem_cons_succ, List.setIfInBounds_toArray, List.set_cons_zero, List.set_cons_succ]
            refine wpAnyH_ready (rs := [4]) (by kernel_rfl) (by simp) ?_
            refine ready_one rfl rfl (fun K hK => ?_)
            go_simp
            refine (HFO U2 HG2.out).out.mono ?_
            rintro e U3 ⟨g, rfl, hm, hb⟩
            have HG2m := Lib.hid hm
            clear hm
            go_wp2_with fail
            have HG0n := Lib.hid (chain HG0.out hb)
            clear HG0
            have HG0 := HG0n
            clear HG0n
            clear HG2
            have HG2 := HG2m
            clear HG2m
            have HZn := Lib.hid (HZ.out.below hb)
            clear HZ
            have HZ := HZn
            clear HZn
            clear hb
            refine hK.out _ _ (HSI.out _ HG0.out) (fun hHeld3 => ?_)
            clear hK K
            try simp only [Act.put, List.getElem_toArray, List.getElem_cons_zero, List.getElem_cons_succ, List.setIfInBounds_toArray, List.set_cons_zero, List.set_cons_succ]
            refine wpAnyH_ready (rs := [5]) (by kernel_rfl) (by simp) ?_
            refine ready_one rfl rfl (fun K hK => ?_)
            go_simp
            refine (HTE g U3 HG2.out).out.mono ?_
            rintro e U4 ⟨v, rfl, hr, hb⟩
            obtain ⟨av, nv, cv, rfl⟩ := hr.isSlice
            have HNE : Hid (∀ g, (Value.slice av nv cv).ownBlock = some g → g ≠ B) := Lib.hid (fun g hg => by have h1 := (hr.lt g hg).1; have h2 := HZ.out.lt; omega)
            have HG3 : Hid (RowA U4 V.heap.size (.slice av nv cv) X.ad) := Lib.hid (hr.mono HG0.out.size)
            clear hr
            go_wp2_with fail
            have HG0n := Lib.hid (chain HG0.out hb)
            clear HG0
            have HG0 := HG0n
            clear HG0n
            have HG2n := Lib.hid (HG2.out.below hb)
            clear HG2
            have HG2 := HG2n
            clear HG2n
            have HZn := Lib.hid (HZ.out.below hb)
            clear HZ
            have HZ := HZn
            clear HZn
            clear hb
            refine hK.out _ _ (HSI.out _ HG0.out) (fun hHeld4 => ?_)
            clear hK K
            try simp only [Act.put, List.getElem_toArray, List.getElem_cons_zero, List.getElem_cons_succ, List.setIfInBounds_toArray, List.set_cons_zero, List.set_cons_succ]
            refine wpAnyH_ready (rs := [7]) (by kernel_rfl) (by simp) ?_
            refine ready_one rfl rfl (fun K hK => ?_)
            refine wp_store_of HZ rfl hsT _ _ rfl rfl rfl (vs := tldL X (.slice av nv cv)) rfl rfl rfl (fun Xw HX HXC => ?_)
            have HSX : Hid (S Xw) := Lib.hid (HSO.out _ HG0.out B HBL.out _ _ HX.out)
            refine hK.out _ _ HSX.out (fun hHeldX => ?_)
            clear hK K
            try simp only [Act.put, List.getElem_toArray, List.getElem_cons_zero, List.getElem_cons_succ, List.setIfInBounds_toArray, List.set_cons_zero, List.set_cons_succ]
            refine wpAnyH_done (by kernel_rfl) ?_ _
            refine NoPanic.normal ?_
            clear hHeld1 hHeld2 hHeld3 hHeld4 hHeldX
            go_wp2_with fail
            go_meet
            case rel => exact ⟨B, _, _, rfl, Lib.hid HXC.out, Lib.hid ((HG3.out.kept2 (w' := Xw) (fun g hg => by rw [HX.out]; exact heap_setCells_other _ _ _ _ _ (HNE.out g hg)))), Lib.hid (by rw [HX.out]; exact below_cells HBL.out _ _ _ HG0.out)⟩
        · go_wp2_with fail
          obtain ⟨U1, hU⟩ : ∃ X, V.alloc (.cells #[.int .i64 0, .slice none 0 0, .int .i64 0, .string ⟨#[]⟩, .int .i64 0] 43) = X := ⟨_, rfl⟩
          have hb : Below V.heap.size V U1 := by rw [← hU]; exact (Below.refl _ _).alloc (Nat.le_refl _) _
          have HZ : Hid (CellsAt U1 V.heap.size zT) := Lib.hid (by rw [← hU]; exact CellsAt.new V 43 zT)
          try rw [hU]
          clear hU
          obtain ⟨B, hB⟩ : ∃ B, V.heap.size = B := ⟨_, rfl⟩
          have HBL : Hid (V.heap.size ≤ B) := Lib.hid (by rw [← hB]; exact HG0.out.size)
          rw [hB] at HZ
          try rw [hB]
          clear hB
          have HG0n := Lib.hid (chain HG0.out hb)
          clear HG0
          have HG0 := HG0n
          clear HG0n
          have HG2n := Lib.hid (HG2.out.below hb)
          clear HG2
          have HG2 := HG2n
          clear HG2n
          clear hb
          refine hK.out _ _ (HSI.out _ HG0.out) (fun hHeld1 => ?_)
          clear hK K
          try simp only [Act.put, List.getElem_toArray, List.getElem_cons_zero, List.getElem_cons_succ, List.setIfInBounds_toArray, List.set_cons_zero, List.set_cons_succ]
          refine wpAnyH_ready (rs := [2]) (by kernel_rfl) (by simp) ?_
          refine ready_one rfl rfl (fun K hK => ?_)
          go_simp
          refine (HAS U1).out.mono ?_
          rintro e U2 ⟨rfl, hb⟩
          go_wp2_with fail
          have HG0n := Lib.hid (chain HG0.out hb)
          clear HG0
          have HG0 := HG0n
          clear HG0n
          have HG2n := Lib.hid (HG2.out.below hb)
          clear HG2
          have HG2 := HG2n
          clear HG2n
          have HZn := Lib.hid (HZ.out.below hb)
          clear HZ
          have HZ := HZn
          clear HZn
          clear hb
          refine hK.out _ _ (HSI.out _ HG0.out) (fun hHeld2 => ?_)
          clear hK K
          try simp only [Act.put, List.getElem_toArray, List.getElem_cons_zero, List.getElem_cons_succ, List.setIfInBounds_toArray, List.set_cons_zero, List.set_cons_succ]
          refine wpAnyH_ready (rs := [4]) (by kernel_rfl) (by simp) ?_
          refine ready_one rfl rfl (fun K hK => ?_)
          go_simp
          refine (HFO U2 HG2.out).out.mono ?_
          rintro e U3 ⟨g, rfl, hm, hb⟩
          have HG2m := Lib.hid hm
          clear hm
          go_wp2_with fail
          have HG0n := Lib.hid (chain HG0.out hb)
          clear HG0
          have HG0 := HG0n
          clear HG0n
          clear HG2
          have HG2 := HG2m
          clear HG2m
          have HZn := Lib.hid (HZ.out.below hb)
          clear HZ
          have HZ := HZn
          clear HZn
          clear hb
          refine hK.out _ _ (HSI.out _ HG0.out) (fun hHeld3 => ?_)
          clear hK K
          try simp only [Act.put, List.getElem_toArray, List.getElem_cons_zero, List.getElem_cons_succ, List.setIfInBounds_toArray, List.set_cons_zero, List.set_cons_succ]
          refine wpAnyH_ready (rs := [5]) (by kernel_rfl) (by simp) ?_
          refine ready_one rfl rfl (fun K hK => ?_)
          go_simp
          refine (HTE g U3 HG2.out).out.mono ?_
          rintro e U4 ⟨v, rfl, hr, hb⟩
          obtain ⟨av, nv, cv, rfl⟩ := hr.isSlice
          have HNE : Hid (∀ g, (Value.slice av nv cv).ownBlock = some g → g ≠ B) := Lib.hid (fun g hg => by have h1 := (hr.lt g hg).1; have h2 := HZ.out.lt; omega)
          have HG3 : Hid (RowA U4 V.heap.size (.slice av nv cv) X.ad) := Lib.hid (hr.mono HG0.out.size)
          clear hr
          go_wp2_with fail
          have HG0n := Lib.hid (chain HG0.out hb)
          clear HG0
          have HG0 := HG0n
          clear HG0n
          have HG2n := Lib.hid (HG2.out.below hb)
          clear HG2
          have HG2 := HG2n
          clear HG2n
          have HZn := Lib.hid (HZ.out.below hb)
          clear HZ
          have HZ := HZn
          clear HZn
          clear hb
          refine hK.out _ _ (HSI.out _ HG0.out) (fun hHeld4 => ?_)
          clear hK K
          try simp only [Act.put, List.getElem_toArray, List.getElem_cons_zero, List.getElem_cons_succ, List.setIfInBounds_toArray, List.set_cons_zero, List.set_cons_succ]
          refine wpAnyH_ready (rs := [7]) (by kernel_rfl) (by simp) ?_
          refine ready_one rfl rfl (fun K hK => ?_)
          refine wp_store_of HZ rfl hsT _ _ rfl rfl rfl (vs := tldL X (.slice av nv cv)) rfl rfl rfl (fun Xw HX HXC => ?_)
          have HSX : Hid (S Xw) := Lib.hid (HSO.out _ HG0.out B HBL.out _ _ HX.out)
          refine hK.out _ _ HSX.out (fun hHeldX => ?_)
          clear hK K
          try simp only [Act.put, List.getElem_toArray, List.getElem_cons_zero, List.getElem_cons_succ, List.setIfInBounds_toArray, List.set_cons_zero, List.set_cons_succ]
          refine wpAnyH_done (by kernel_rfl) ?_ _
          refine NoPanic.normal ?_
          clear hHeld1 hHeld2 hHeld3 hHeld4 hHeldX
          go_wp2_with fail
          go_meet
          case rel => exact ⟨B, _, _, rfl, Lib.hid HXC.out, Lib.hid ((HG3.out.kept2 (w' := Xw) (fun g hg => by rw [HX.out]; exact heap_setCells_other _ _ _ _ _ (HNE.out g hg)))), Lib.hid (by rw [HX.out]; exact below_cells HBL.out _ _ _ HG0.out)⟩
      case rest =>
        obtain ⟨B, v, Bt, rfl, HT, HRo, HBl⟩ := hcut
        have HTd := HT
        have HPc := Lib.hid ((HP8.out.below (Below.refl _ _).drew).below HBl.out)
        have HBc : Hid (Below w.heap.size w wc) := Lib.hid (HB8.out.drew.trans (HBl.out.mono (by have := HB8.out.size; exact this)))
        clear HT HAS HFO HTE HQ7 HR8 HP8 HB8 HBl HLD
        by_cases h8 : k ≤ 8
        · have HX2 : Hid (X = ⟨0, [(4, List.replicate 16 0)], if k = 0 then 5000 else (T : Int), ⟨#[]⟩, k⟩) := Lib.hid (by rw [HXE.out, if_pos h8])
          have hd8 : decide ((8 : Int) < (k : Int)) = false := decide_eq_false (by omega)
          have hd8n : decide (8 < k) = false := decide_eq_false (by omega)
          obtain ⟨L, hL⟩ : ∃ L, (if k = 0 then (5000 : Int) else (T : Int)) = L := ⟨_, rfl⟩
          have HL := Lib.hid hL
          rw [hL] at HX2
          have HX3 := HX2.out
          clear HX2 HXE hL
          subst HX3
          obtain ⟨av, cv, rfl, mv⟩ := HRo.out.ads
          have HMV := Lib.hid mv.1
          have HTC : Hid (CellsAt wc B [.int .i64 0, .slice av 1 cv, .int .i64 L, .string ⟨#[]⟩, .int .i64 (k : Int)]) := Lib.hid HTd.out
          have HPR : Hid (wc.rangeAt P 0 (adL zA4)) := Lib.hid HPc.out.range
          have HMV2 : Hid (AdsAt wc av cv [zA4]) := HMV
          clear HTd HRo HMV mv HPc
          have x0 := HTC.out.cell 0 _ rfl
          have x1 := HTC.out.cell 1 _ rfl
          have hl1 : ([((4 : Int), List.replicate 16 0)] : List Ad).length = 1 := rfl
          have HSA := fun W5 (e : W5 = wc.alloc (.cells (adL zA4).toArray 55)) => Lib.hid (sameAdsC_any av (some ⟨wc.heap.size, 0, none⟩) cv 1 [zA4] [zA4] W5 (HMV2.out.below (by rw [e]; exact (Below.refl _ _).alloc (Nat.le_refl _) _)) (by rw [e]; exact ads_new _ _ rfl) (by decide) (by decide))
          simp only [decide_true] at HSA
          have hsl : ([zA4] : List Ad).length = 1 := rfl
          simp only [hsl] at HSA
          have H16 : Hid (zA4.2.length = 16) := Lib.hid rfl
          have HFX : Hid (∀ W5, W5 = wc.alloc (.cells (adL zA4).toArray 55) → ∀ w10, Below W5.heap.size W5 w10 → CellsAt w10 B [.int .i64 0, .slice av 1 cv, .int .i64 L, .string ⟨#[]⟩, .int .i64 (k : Int)] ∧ Below w.heap.size w w10) := Lib.hid (fun W5 e w10 hb => by
            have h1 : Below wc.heap.size wc W5 := by rw [e]; exact (Below.refl _ _).alloc (Nat.le_refl _) _
            have h2 := chain h1 hb
            exact ⟨HTC.out.below h2, HBc.out.trans (h2.mono HBc.out.size)⟩)
          clear hsl hl1
          by_cases hk0 : k = 0
          · have EL : L = 5000 := by have := HL.out; rw [if_pos hk0] at this; exact this.symm
            have hdk : decide ((0 : Int) < (k : Int)) = false := decide_eq_false (by omega)
            have hdkn : decide (0 < k) = false := decide_eq_false (by omega)
            subst EL
            clear hk0 HL
            go_wp2_with (first | refine load_ad (r := zA4) H16 HPR _ rfl rfl rfl ?_ | refine build_adG (r := zA4) H16 rfl _ rfl rfl (fun W5 HW5 => ?_))
            refine (HSA W5 HW5.out).out.mono ?_
            rintro e w10 ⟨rfl, hb10⟩
            obtain ⟨ht10, hbw10⟩ := HFX.out W5 HW5.out w10 hb10
            have HT10 := Lib.hid ht10
            have HB10 := Lib.hid hbw10
            clear hb10 ht10 hbw10 HSA HFX HTC HPR x0 x1 HW5
            have x2 := HT10.out.cell 2 _ rfl
            have x4 := HT10.out.cell 4 _ rfl
            go_wp2_with fail
            refine (HLV w10).out.mono ?_
            rintro e w9 ⟨rfl, hb9⟩
            have HB9 := Lib.hid (HB10.out.trans (hb9.mono HB10.out.size))
            clear hb9
            go_wp2_with fail
            go_ret
            exact ⟨rfl, HB9.out⟩
          · have EL : L = (T : Int) := by have := HL.out; rw [if_neg hk0] at this; exact this.symm
            have hdk : decide ((0 : Int) < (k : Int)) = true := decide_eq_true (by omega)
            have hdkn : decide (0 < k) = true := decide_eq_true (by omega)
            subst EL
            clear hk0 HL
            go_wp2_with (first | refine load_ad (r := zA4) H16 HPR _ rfl rfl rfl ?_ | refine build_adG (r := zA4) H16 rfl _ rfl rfl (fun W5 HW5 => ?_))
            refine (HSA W5 HW5.out).out.mono ?_
            rintro e w10 ⟨rfl, hb10⟩
            obtain ⟨ht10, hbw10⟩ := HFX.out W5 HW5.out w10 hb10
            have HT10 := Lib.hid ht10
            have HB10 := Lib.hid hbw10
            clear hb10 ht10 hbw10 HSA HFX HTC HPR x0 x1 HW5
            have x2 := HT10.out.cell 2 _ rfl
            have x4 := HT10.out.cell 4 _ rfl
            go_wp2_with fail
            refine (HLV w10).out.mono ?_
            rintro e w9 ⟨rfl, hb9⟩
            have HB9 := Lib.hid (HB10.out.trans (hb9.mono HB10.out.size))
            clear hb9
            go_wp2_with fail
            go_ret
            exact ⟨rfl, HB9.out⟩
        · have HX2 : Hid (X = errT 3) := Lib.hid (by rw [HXE.out, if_neg h8])
          have hd8 : decide ((8 : Int) < (k : Int)) = true := decide_eq_true (by omega)
          have hd8n : decide (8 < k) = true := decide_eq_true (by omega)
          have HX3 := HX2.out
          clear HX2 HXE
          subst HX3
          obtain ⟨av, cv, rfl, mv⟩ := HRo.out.ads
          have HTC : Hid (CellsAt wc B [.int .i64 3, .slice av 0 cv, .int .i64 0, .string ⟨#[]⟩, .int .i64 0]) := Lib.hid HTd.out
          clear HTd HRo mv HPc
          have x0 := HTC.out.cell 0 _ rfl
          have x1 := HTC.out.cell 1 _ rfl
          have x2 := HTC.out.cell 2 _ rfl
          have x3 := HTC.out.cell 3 _ rfl
          have x4 := HTC.out.cell 4 _ rfl
          go_wp2_with fail
          refine (HLV wc).out.mono ?_
          rintro e w9 ⟨rfl, hb9⟩
          have HB9 := Lib.hid (HBc.out.trans (hb9.mono HBc.out.size))
          clear hb9
          go_wp2_with fail
          go_ret
          exact ⟨rfl, HB9.out⟩

set_option maxRecDepth 100000 in
theorem lifted (os : Os) (started : os.Started) (H : Type) (enc : TypeId × Value → H) :
    ReturnsInHanded {} Try.checked os 8 .any (Rows.matchBoundSpec.pre6 enc Try.prog Try.f8 Rows.matchBoundRow.domain false) (Rows.matchBoundSpec.post enc Try.prog Try.f8 false true false false) := by
  refine returnsInHanded_of_change (C := Try.checked) own started (by kernel_rfl) Try.func8
    (ChangeSpec.witness6 (enc := enc) (C := Try.checked) false ⟨#[], #[.int .i64 0, .int .i64 0], []⟩ 8 (by kernel_rfl) (by kernel_rfl) (by kernel_rfl) (by kernel_rfl)) ?_
  intro W base args ds gs before hval0 hW hcnd _
  have hval : ∀ (j : Nat) t v, Try.f8.params[j]? = some t → args[j]? = some v → Value.okWide Try.prog W .any base t v := hval0
  have hW' := hW
  obtain ⟨p, q, hA0, hV, rfl, hfz, hnd⟩ := hW
  have hA : DataW.TrodAll enc Try.prog W 0 (fun _ => true) true Try.f8.params.toList args.toList ds p := hA0
  rw [Try.params8] at hA hval
  obtain ⟨v0, vs0, d0, ds0, p0, q0, hargs, rfl, rfl, h0, r0⟩ := trodAll_cons hA
  obtain ⟨v1, vs1, d1, ds1, p1, q1, rfl, rfl, rfl, h1, r1⟩ := trodAll_cons r0
  obtain ⟨rfl, rfl, rfl⟩ := trodAll_nil r1
  obtain rfl : args = #[v0, v1] := by cases args; simp_all
  obtain ⟨rfl, rfl⟩ := trodVars_none hV
  obtain ⟨a0, rfl, rfl, rfl, w0⟩ := open_int Try.underlying3 (hval 0 3 v0 rfl rfl) h0
  obtain ⟨a1, rfl, rfl, rfl, w1⟩ := open_int Try.underlying3 (hval 1 3 v1 rfl rfl) h1
  clear hA0 hval0
  refine (walk a0 a1 w0 w1 W).mono fun e W' ⟨he, bel⟩ => ?_
  subst he
  exact ⟨_, rfl, _, _, _, [], _, [], hW', trodAll_mk1 (shut_bool Try.underlying4 _), (trodAll_cons_mk (shut_int Try.underlying3 w0) (trodAll_cons_mk (shut_int Try.underlying3 w1) trodAll_mk0)), rfl, bel.frame _, fun h => by cases h⟩

theorem over : Rows.matchBoundRow.holds Try.pinned (OpenSpec.ofChange Rows.matchBoundSpec) :=
  OpenClaim.holds_of_wide 8 Try.f8 rfl rfl rfl rfl rfl rfl rfl ⟨rfl, rfl, rfl, rfl, rfl⟩ rfl rfl rfl rfl rfl (by kernel_rfl) Try.func8 (by kernel_rfl)
    (of_decide_eq_true (by kernel_rfl)) (by unfold Func.isWrapper; first | (rw [if_pos (by decide +kernel)]; kernel_rfl) | (rw [if_neg (by decide +kernel)]; exact ⟨rfl, rfl⟩))
    (fun os started H enc _ => lifted os started H enc)


theorem proved : Rows.MatchBoundSaid := over
#print axioms proved
end Go.Proofs.Ytmecdhlehekdeaa.matchBound

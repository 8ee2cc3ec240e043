/- Texts that belong together, one behind the other: MatLives, OpenMsg, MatOpen, MatPack, MatRecW, Numbers, Digits, MatLet, MatOth. -/
import Derived.Test.YtedmkdjijhflnaaB4
import Derived.Deep.RegionHeld3
import Derived.Deep.Cut
import Derived.Laws.Tables
import Derived.Test.YtedmkdjijhflnaaRows
import Derived.Deep.Strs
import Derived.OpenShut
/- lives of layer 11 (walks/MatLives.py prints this text). -/
namespace Go.Proofs.Ytedmkdjijhflnaa
open Go.RowKit
set_option linter.unusedVariables false
set_option maxRecDepth 20000
set_option linter.unusedSimpArgs false

def livesA : Ad := (4, [1, 2, 3, 4, 0, 0, 0, 0, 0, 0, 0, 0, 0, 0, 0, 0])
def livesQ : Qry := ⟨1, ⟨#[97]⟩, 1, 0⟩
def livesR : Rec := ⟨⟨#[97]⟩, 5, 1, 9, 0, List.replicate 16 0, ⟨#[98]⟩, ⟨#[]⟩⟩
def livesS : Rec := ⟨⟨#[98]⟩, 1, 1, 60, 4, [1, 2, 3, 4, 0, 0, 0, 0, 0, 0, 0, 0, 0, 0, 0, 0], ⟨#[]⟩, ⟨#[]⟩⟩
def livesD : List Rec := [livesR, livesS]
def livesX : Tld := ⟨0, [livesA], 9, ⟨#[]⟩, 1⟩
theorem lives_all : All2 livesD := by
  intro r hr
  simp only [livesD, List.mem_cons, List.not_mem_nil, or_false] at hr
  rcases hr with rfl | rfl
  · exact ⟨by decide, by decide⟩
  · exact ⟨by decide, by decide⟩
theorem lives_told : tellP 33152 ⟨#[97]⟩ 1 livesD = livesX := by kernel_rfl
theorem lives_fit : ∀ r ∈ livesD, Fit r := by
  intro r hr
  simp only [livesD, List.mem_cons, List.not_mem_nil, or_false] at hr
  rcases hr with rfl | rfl
  · exact ⟨rfl, by decide, by decide, by decide, by decide, by decide, by decide, by decide, by decide⟩
  · exact ⟨rfl, by decide, by decide, by decide, by decide, by decide, by decide, by decide, by decide⟩
theorem lives_fill : Instr.fill (fun i => some (i * 23, 23)) ((Array.range (2 * 23)).map fun j => zC[j % zC.size]!) [(0, recV livesR), (1, recV livesS)] = some (flatR livesD).toArray := by kernel_rfl
theorem run_buildR2 (w : World) : (Instr.buildSlice 24 2 #[(0, recV livesR), (1, recV livesS)]).run Try.prog w = .ok (.slice (some ⟨w.heap.size, 0, none⟩) 2 2) (w.alloc (.cells (flatR livesD).toArray 44)) := by
  obtain ⟨i0, hi0, hz0, hz1, hz2⟩ := info_parts infoR
  have hf := lives_fill
  obtain ⟨Z, hZ⟩ : ∃ Z : Array Value, zC = Z := ⟨_, rfl⟩
  rw [hZ] at hf hz0
  have hsz : (sizeOf 44).run Try.prog w = .ok 23 w := by simp [sizeOf, typeInfo, hi0, hz1]
  have hzv : (zeroValue 44).run Try.prog w = .ok (.agg Z) w := by simp [zeroValue, typeInfo, hi0, hz0]
  have hnr : ∀ cs : Array Value, (newRow 44 cs).run Try.prog w = .ok ⟨w.heap.size, 0, none⟩ (w.alloc (.cells cs 44)) := fun cs => by simp [newRow]
  have hu : (underlying 24).run Try.prog w = .ok _ w := run_underlying Try.underlying24 w
  have hfc : Instr.fill (fun i => some (i * 23, 23)) ((Array.range (2 * 23)).map fun j => (Value.agg Z).cells[j % (Value.agg Z).cells.size]!) (#[(0, recV livesR), (1, recV livesS)] : Array (Nat × Value)).toList = some (flatR livesD).toArray := hf
  unfold Instr.buildSlice
  simp only [Sem.run_bind, hu, Result.andThen_ok, hsz, if_neg (show ¬ (2 * 23 > 2 ^ 24) by decide), Sem.run_pure, if_neg (show ¬ (2 * 23 = 0) by decide), hzv, hfc, hnr]
theorem wp_build_recs2 {op : Oper} {a : Act} {w : World} {K : Act → World → Prop} {Q : Exit → Act → World → Prop} (x y : Operand) (ho : op.op = .buildSlice 24 2 #[(0, x), (1, y)])
    (hx : a.eval x = recV livesR) (hy : a.eval y = recV livesS) (h : ∀ W, Hid (W = w.alloc (.cells (flatR livesD).toArray 44)) → K (a.put op.dst (.slice (some ⟨w.heap.size, 0, none⟩) 2 2)) W) : op.wp Try.prog a w K Q := by
  unfold Oper.wp execOp
  simp only [ho, List.map_toArray, List.map_cons, List.map_nil, hx, hy, Sem.run_bind, run_buildR2 w, Result.andThen_ok]
  exact h _ (Lib.hid rfl)
theorem lives_recs (w : World) : RecsAt (w.alloc (.cells (flatR livesD).toArray 44)) (some ⟨w.heap.size, 0, none⟩) 2 livesD := by
  refine ⟨Nat.le_refl _, by decide, lives_fit, .inr ⟨w.heap.size, 0, rfl, by simp, ?_⟩⟩
  exact (CellsAt.new w 44 (flatR livesD)).range
set_option maxRecDepth 100000 in
set_option maxHeartbeats 8000000 in
theorem lives11_any (w : World) : Calls Try.prog 13 #[] w fun e w' => e = .returned (.bool true) ∧ Below w.heap.size w w' := by
  have BR : Try.prog.built 44 [(0, .string ⟨#[97]⟩), (1, .int .i64 5), (2, .int .i64 1), (3, .int .i64 9), (5, .string ⟨#[98]⟩)] = some (recL livesR).toArray := by kernel_rfl
  have BS : Try.prog.built 44 [(0, .string ⟨#[98]⟩), (1, .int .i64 1), (2, .int .i64 1), (3, .int .i64 60), (4, .agg (adL livesA).toArray)] = some (recL livesS).toArray := by kernel_rfl
  have hsT : (Try.prog.info? 29).map (·.size) = some 5 := by kernel_rfl
  go_enter Try.func13, Try.ntmps13
  go_upto_region 3 with fail
  obtain ⟨W0, hW0⟩ : ∃ W0, (w.alloc (.cells #[.int .i64 4, .int .u8 1, .int .u8 2, .int .u8 3, .int .u8 4, .int .u8 0, .int .u8 0, .int .u8 0, .int .u8 0, .int .u8 0, .int .u8 0, .int .u8 0, .int .u8 0, .int .u8 0, .int .u8 0, .int .u8 0, .int .u8 0] 42)).alloc (.cells #[.int .i64 1, .string ⟨#[97]⟩, .int .i64 1, .int .i64 0] 23) = W0 := ⟨_, rfl⟩
  have HB0 : Hid (Below w.heap.size w W0.drew) := Lib.hid (by rw [← hW0]; exact (((Below.refl _ _).alloc (Nat.le_refl _) _).alloc (by simp) _).drew)
  have HAD : Hid (CellsAt W0.drew w.heap.size (adL livesA)) := Lib.hid (by
    have := ((CellsAt.new w 42 (adL livesA)).below ((Below.refl _ _).alloc (Nat.le_refl _) (.cells #[.int .i64 1, .string ⟨#[97]⟩, .int .i64 1, .int .i64 0] 23))).below (Below.refl _ _).drew
    rw [← hW0]; exact this)
  have HQ : Hid (CellsAt W0.drew (w.heap.size + 1) (qryL livesQ)) := Lib.hid (by
    have := CellsAt.new (w.alloc (.cells #[.int .i64 4, .int .u8 1, .int .u8 2, .int .u8 3, .int .u8 4, .int .u8 0, .int .u8 0, .int .u8 0, .int .u8 0, .int .u8 0, .int .u8 0, .int .u8 0, .int .u8 0, .int .u8 0, .int .u8 0, .int .u8 0, .int .u8 0] 42)) 23 (qryL livesQ)
    rw [World.size_alloc] at this
    have h2 := this.below (Below.refl _ _).drew
    rw [← hW0]; exact h2)
  try rw [hW0]
  clear hW0
  go_cut [3] from 4 (fun s3 wx => ∃ (B : Nat) (av : Option Addr) (cv : Nat), s3 = .pointer (some ⟨B, 0, none⟩) ∧ Hid (CellsAt wx B (tldL livesX (.slice av 1 cv))) ∧ Hid (RowA wx w.heap.size (.slice av 1 cv) livesX.ad) ∧ Hid (wx.rangeAt w.heap.size 0 (adL livesA)) ∧ Hid (Below w.heap.size w wx))
  case first =>
    obtain ⟨S, hS⟩ : ∃ S : World → Prop, (fun U => U.rangeAt (w.heap.size + 1) 0 (qryL livesQ) ∧ U.rangeAt w.heap.size 0 (adL livesA)) = S := ⟨_, rfl⟩
    have C1 : Hid (∀ w', S w' → w'.rangeAt (w.heap.size + 1) 0 (qryL livesQ)) := Lib.hid (fun w' h => by rw [← hS] at h; exact h.1)
    have C2 : Hid (∀ w', S w' → w'.rangeAt w.heap.size 0 (adL livesA)) := Lib.hid (fun w' h => by rw [← hS] at h; exact h.2)
    have HSI : Hid (∀ U, Below W0.drew.heap.size W0.drew U → S U) := Lib.hid (fun U h => by rw [← hS]; exact ⟨(HQ.out.below h).range, (HAD.out.below h).range⟩)
    have HSO : Hid (∀ U, Below W0.drew.heap.size W0.drew U → ∀ B, W0.drew.heap.size ≤ B → ∀ vs X, X = U.setCells B 0 vs → S X) := Lib.hid (fun U h B hB vs X e => by
      have h1 := HQ.out.lt
      have h2 := HAD.out.lt
      rw [← hS, e]
      exact ⟨((HQ.out.below h).apart (by omega) _).range, ((HAD.out.below h).apart (by omega) _).range⟩)
    clear hS
    refine wp_region_noPanic ?_
    refine wp_region_held_drew (S := S) (by kernel_rfl) (HSI.out _ (Below.refl _ _)) (fun hHeld => ?_)
    have HBV := HB0
    generalize W0.drew = V at *
    have HG0 : Hid (Below V.heap.size V V) := Lib.hid (Below.refl _ _)
    have hsQ : (Try.prog.info? 23).map (·.size) = some (qryL livesQ).length := by kernel_rfl
    have hsA : (Try.prog.info? 42).map (·.size) = some (adL livesA).length := by kernel_rfl
    refine wpAnyH_take (i := 0) rfl (by kernel_rfl) (by kernel_rfl) (by kernel_rfl) (fun _ _ _ h => h) (yields_row C1 Try.underlying23 rfl hsQ (by rfl) _ rfl rfl) (by assumption) ?_
    try simp only [Act.put, List.getElem_toArray, List.getElem_cons_zero, List.setIfInBounds_toArray, List.set_cons_zero, List.set_cons_succ]
    refine wpAnyH_take (i := 1) rfl (by kernel_rfl) (by kernel_rfl) (by kernel_rfl) (fun _ _ _ h => h) (yields_row C1 Try.underlying23 rfl hsQ (by rfl) _ rfl rfl) (by assumption) ?_
    try simp only [Act.put, List.getElem_toArray, List.getElem_cons_zero, List.getElem_cons_succ, List.setIfInBounds_toArray, List.set_cons_zero, List.set_cons_succ]
    refine wpAnyH_take (i := 2) rfl (by kernel_rfl) (by kernel_rfl) (by kernel_rfl) (fun _ _ _ h => h) (yields_build (by rfl) rfl BR (by simp only [List.map_toArray, List.map_cons, List.map_nil]; rfl)) (by assumption) ?_
    try simp only [Act.put, List.getElem_toArray, List.getElem_cons_zero, List.getElem_cons_succ, List.setIfInBounds_toArray, List.set_cons_zero, List.set_cons_succ]
    refine wpAnyH_take (i := 3) rfl (by kernel_rfl) (by kernel_rfl) (by kernel_rfl) (fun _ _ _ h => h) (yields_row C2 Try.underlying42 rfl hsA (by rfl) _ rfl rfl) (by assumption) ?_
    try simp only [Act.put, List.getElem_toArray, List.getElem_cons_zero, List.getElem_cons_succ, List.setIfInBounds_toArray, List.set_cons_zero, List.set_cons_succ]
    refine wpAnyH_take (i := 4) rfl (by kernel_rfl) (by kernel_rfl) (by kernel_rfl) (fun _ _ _ h => h) (yields_build (by rfl) rfl BS (by simp only [List.map_toArray, List.map_cons, List.map_nil]; rfl)) (by assumption) ?_
    try simp only [Act.put, List.getElem_toArray, List.getElem_cons_zero, List.getElem_cons_succ, List.setIfInBounds_toArray, List.set_cons_zero, List.set_cons_succ]
    clear BR BS hsQ hsA
    obtain ⟨U0, HG0, hU0⟩ : ∃ U0, Hid (Below V.heap.size V U0) ∧ V = U0 := ⟨V, HG0, rfl⟩
    rw [show wpAnyH Try.prog .any _ _ S _ _ _ V = wpAnyH Try.prog .any _ _ S _ _ _ U0 by rw [hU0]]
    clear hU0
    refine wpAnyH_ready (rs := [5, 8]) (by kernel_rfl) (by simp) ?_
    refine AllReadyH.cons rfl (fun K hK => ?_) (ready_one rfl rfl (fun K hK => ?_))
    · rw [if_pos (by rfl)]
      refine wp_build_recs2 _ _ rfl rfl rfl (fun U1 HU => ?_)
      have hb : Below U0.heap.size U0 U1 := by rw [HU.out]; exact (Below.refl _ _).alloc (Nat.le_refl _) _
      have HG1 : Hid (RecsAt U1 (some ⟨U0.heap.size, 0, none⟩) 2 livesD) := Lib.hid (by rw [HU.out]; exact lives_recs U0)
      clear HU
      obtain ⟨P, hP⟩ : ∃ P, U0.heap.size = P := ⟨_, rfl⟩
      rw [hP] at HG1
      try rw [hP]
      clear hP
      have HG0n := Lib.hid (chain HG0.out hb)
      clear HG0
      have HG0 := HG0n
      clear HG0n
      clear hb
      refine hK.out _ _ (HSI.out _ HG0.out) (fun hHeld1 => ?_)
      clear hK K
      try simp only [Act.put, List.getElem_toArray, List.getElem_cons_zero, List.getElem_cons_succ, List.setIfInBounds_toArray, List.set_cons_zero, List.set_cons_succ]
      refine wpAnyH_ready (rs := [6, 8]) (by kernel_rfl) (by simp) ?_
      refine AllReadyH.cons rfl (fun K hK => ?_) (ready_one rfl rfl (fun K hK => ?_))
      · rw [if_pos (by rfl)]
        have HF : Hid (Calls Try.prog 24 #[qryV livesQ, .slice (some ⟨P, 0, none⟩) 2 2] U1 (ForgeRet U1 livesQ livesD)) := Lib.hid (forge_any livesQ _ 2 livesD U1 HG1.out (by decide) (by decide) (by decide))
        go_simp
        refine HF.out.mono ?_
        rintro e U2 ⟨hb, aq, a1, c1, rfl, hm⟩
        have HG2 := Lib.hid hm.an
        clear hm HF
        go_wp2_with fail
        have HG0n := Lib.hid (chain HG0.out hb)
        clear HG0
        have HG0 := HG0n
        clear HG0n
        clear hb
        refine hK.out _ _ (HSI.out _ HG0.out) (fun hHeld2 => ?_)
        clear hK K
        try simp only [Act.put, List.getElem_toArray, List.getElem_cons_zero, List.getElem_cons_succ, List.setIfInBounds_toArray, List.set_cons_zero, List.set_cons_succ]
        refine wpAnyH_ready (rs := [7, 8]) (by kernel_rfl) (by simp) ?_
        refine AllReadyH.cons rfl (fun K hK => ?_) (ready_one rfl rfl (fun K hK => ?_))
        · rw [if_pos (by rfl)]
          have HF : Hid (Calls Try.prog 7 #[qryV livesQ, msgV (forgeM livesQ livesD) aq a1 none none 1 c1 0 0] U2 (TellRet U2 livesX)) := Lib.hid (by rw [← lives_told]; exact tell_any livesQ (forgeM livesQ livesD) aq a1 none none 1 c1 0 0 U2 HG2.out lives_all (by decide) (by decide))
          go_simp
          refine HF.out.mono ?_
          rintro e U3 ⟨v, rfl, hr, hb⟩
          obtain ⟨av, cv, rfl, _⟩ := hr.ads
          have HG3 : Hid (RowA U3 V.heap.size (.slice av 1 cv) livesX.ad) := Lib.hid (hr.mono HG0.out.size)
          clear hr HF
          go_wp2_with fail
          have HG0n := Lib.hid (chain HG0.out hb)
          clear HG0
          have HG0 := HG0n
          clear HG0n
          clear hb
          refine hK.out _ _ (HSI.out _ HG0.out) (fun hHeld3 => ?_)
          clear hK K
          try simp only [Act.put, List.getElem_toArray, List.getElem_cons_zero, List.getElem_cons_succ, List.setIfInBounds_toArray, List.set_cons_zero, List.set_cons_succ]
          refine wpAnyH_ready (rs := [8]) (by kernel_rfl) (by simp) ?_
          refine ready_one rfl rfl (fun K hK => ?_)
          go_wp2_with fail
          obtain ⟨U4, hU⟩ : ∃ X, U3.alloc (.cells #[.int .i64 0, .slice none 0 0, .int .i64 0, .string ⟨#[]⟩, .int .i64 0] 29) = X := ⟨_, rfl⟩
          have hb : Below U3.heap.size U3 U4 := by rw [← hU]; exact (Below.refl _ _).alloc (Nat.le_refl _) _
          have HZ : Hid (CellsAt U4 U3.heap.size zT) := Lib.hid (by rw [← hU]; exact CellsAt.new U3 29 zT)
          try rw [hU]
          clear hU
          obtain ⟨B, hB⟩ : ∃ B, U3.heap.size = B := ⟨_, rfl⟩
          have HBL : Hid (V.heap.size ≤ B) := Lib.hid (by rw [← hB]; exact HG0.out.size)
          have HNE : Hid (∀ g, (Value.slice av 1 cv).ownBlock = some g → g ≠ B) := Lib.hid (fun g hg => by rw [← hB]; exact Nat.ne_of_lt (HG3.out.lt g hg).2)
          rw [hB] at HZ
          try rw [hB]
          clear hB
          have HG0n := Lib.hid (chain HG0.out hb)
          clear HG0
          have HG0 := HG0n
          clear HG0n
          have HG3n := Lib.hid (HG3.out.below hb)
          clear HG3
          have HG3 := HG3n
          clear HG3n
          clear hb
          refine hK.out _ _ (HSI.out _ HG0.out) (fun hHeld4 => ?_)
          clear hK K
          try simp only [Act.put, List.getElem_toArray, List.getElem_cons_zero, List.getElem_cons_succ, List.setIfInBounds_toArray, List.set_cons_zero, List.set_cons_succ]
          refine wpAnyH_ready (rs := [9]) (by kernel_rfl) (by simp) ?_
          refine ready_one rfl rfl (fun K hK => ?_)
          refine wp_store_of HZ rfl hsT _ _ rfl rfl rfl (vs := tldL livesX (.slice av 1 cv)) rfl rfl rfl (fun X HX HXC => ?_)
          have HSX : Hid (S X) := Lib.hid (HSO.out _ HG0.out B HBL.out _ _ HX.out)
          refine hK.out _ _ HSX.out (fun hHeldX => ?_)
          clear hK K
          try simp only [Act.put, List.getElem_toArray, List.getElem_cons_zero, List.getElem_cons_succ, List.setIfInBounds_toArray, List.set_cons_zero, List.set_cons_succ]
          refine wpAnyH_done (by kernel_rfl) ?_ _
          refine NoPanic.normal ?_
          clear hHeld1 hHeld2 hHeld3 hHeld4
          go_wp2_with fail
          go_meet
          case rel => exact ⟨B, av, cv, rfl, Lib.hid HXC.out, Lib.hid ((HG3.out.kept2 (w' := X) (fun g hg => by rw [HX.out]; exact heap_setCells_other _ _ _ _ _ (HNE.out g hg))).mono HBV.out.size), Lib.hid (C2.out _ HSX.out), Lib.hid (by rw [HX.out]; exact below_cells (Nat.le_trans HBV.out.size HBL.out) _ _ _ (chain HBV.out HG0.out))⟩
        · go_wp2_with fail
          obtain ⟨U3, hU⟩ : ∃ X, U2.alloc (.cells #[.int .i64 0, .slice none 0 0, .int .i64 0, .string ⟨#[]⟩, .int .i64 0] 29) = X := ⟨_, rfl⟩
          have hb : Below U2.heap.size U2 U3 := by rw [← hU]; exact (Below.refl _ _).alloc (Nat.le_refl _) _
          have HZ : Hid (CellsAt U3 U2.heap.size zT) := Lib.hid (by rw [← hU]; exact CellsAt.new U2 29 zT)
          try rw [hU]
          clear hU
          obtain ⟨B, hB⟩ : ∃ B, U2.heap.size = B := ⟨_, rfl⟩
          have HBL : Hid (V.heap.size ≤ B) := Lib.hid (by rw [← hB]; exact HG0.out.size)
          rw [hB] at HZ
          try rw [hB]
          clear hB
          have HG0n := Lib.hid (chain HG0.out hb)
          clear HG0
          have HG0 := HG0n
          clear HG0n
          have HG2n := Lib.hid (HG2.out.below hb)
          clear HG2
          have HG2 := HG2n
          clear HG2n
          clear hb
          refine hK.out _ _ (HSI.out _ HG0.out) (fun hHeld3 => ?_)
          clear hK K
          try simp only [Act.put, List.getElem_toArray, List.getElem_cons_zero, List.getElem_cons_succ, List.setIfInBounds_toArray, List.set_cons_zero, List.set_cons_succ]
          refine wpAnyH_ready (rs := [7]) (by kernel_rfl) (by simp) ?_
          refine ready_one rfl rfl (fun K hK => ?_)
          have HF : Hid (Calls Try.prog 7 #[qryV livesQ, msgV (forgeM livesQ livesD) aq a1 none none 1 c1 0 0] U3 (TellRet U3 livesX)) := Lib.hid (by rw [← lives_told]; exact tell_any livesQ (forgeM livesQ livesD) aq a1 none none 1 c1 0 0 U3 HG2.out lives_all (by decide) (by decide))
          go_simp
          refine HF.out.mono ?_
          rintro e U4 ⟨v, rfl, hr, hb⟩
          obtain ⟨av, cv, rfl, _⟩ := hr.ads
          have HNE : Hid (∀ g, (Value.slice av 1 cv).ownBlock = some g → g ≠ B) := Lib.hid (fun g hg => by have h1 := (hr.lt g hg).1; have h2 := HZ.out.lt; omega)
          have HG3 : Hid (RowA U4 V.heap.size (.slice av 1 cv) livesX.ad) := Lib.hid (hr.mono HG0.out.size)
          clear hr HF
          go_wp2_with fail
          have HG0n := Lib.hid (chain HG0.out hb)
          clear HG0
          have HG0 := HG0n
          clear HG0n
          have HZn := Lib.hid (HZ.out.below hb)
          clear HZ
          have HZ := HZn
          clear HZn
          clear hb
          refine hK.out _ _ (HSI.out _ HG0.out) (fun hHeld4 => ?_)
          clear hK K
          try simp only [Act.put, List.getElem_toArray, List.getElem_cons_zero, List.getElem_cons_succ, List.setIfInBounds_toArray, List.set_cons_zero, List.set_cons_succ]
          refine wpAnyH_ready (rs := [9]) (by kernel_rfl) (by simp) ?_
          refine ready_one rfl rfl (fun K hK => ?_)
          refine wp_store_of HZ rfl hsT _ _ rfl rfl rfl (vs := tldL livesX (.slice av 1 cv)) rfl rfl rfl (fun X HX HXC => ?_)
          have HSX : Hid (S X) := Lib.hid (HSO.out _ HG0.out B HBL.out _ _ HX.out)
          refine hK.out _ _ HSX.out (fun hHeldX => ?_)
          clear hK K
          try simp only [Act.put, List.getElem_toArray, List.getElem_cons_zero, List.getElem_cons_succ, List.setIfInBounds_toArray, List.set_cons_zero, List.set_cons_succ]
          refine wpAnyH_done (by kernel_rfl) ?_ _
          refine NoPanic.normal ?_
          clear hHeld1 hHeld2 hHeld3 hHeld4
          go_wp2_with fail
          go_meet
          case rel => exact ⟨B, av, cv, rfl, Lib.hid HXC.out, Lib.hid ((HG3.out.kept2 (w' := X) (fun g hg => by rw [HX.out]; exact heap_setCells_other _ _ _ _ _ (HNE.out g hg))).mono HBV.out.size), Lib.hid (C2.out _ HSX.out), Lib.hid (by rw [HX.out]; exact below_cells (Nat.le_trans HBV.out.size HBL.out) _ _ _ (chain HBV.out HG0.out))⟩
      · go_wp2_with fail
        obtain ⟨U2, hU⟩ : ∃ X, U1.alloc (.cells #[.int .i64 0, .slice none 0 0, .int .i64 0, .string ⟨#[]⟩, .int .i64 0] 29) = X := ⟨_, rfl⟩
        have hb : Below U1.heap.size U1 U2 := by rw [← hU]; exact (Below.refl _ _).alloc (Nat.le_refl _) _
        have HZ : Hid (CellsAt U2 U1.heap.size zT) := Lib.hid (by rw [← hU]; exact CellsAt.new U1 29 zT)
        try rw [hU]
        clear hU
        obtain ⟨B, hB⟩ : ∃ B, U1.heap.size = B := ⟨_, rfl⟩
        have HBL : Hid (V.heap.size ≤ B) := Lib.hid (by rw [← hB]; exact HG0.out.size)
        rw [hB] at HZ
        try rw [hB]
        clear hB
        have HG0n := Lib.hid (chain HG0.out hb)
        clear HG0
        have HG0 := HG0n
        clear HG0n
        have HG1n := Lib.hid (HG1.out.below hb)
        clear HG1
        have HG1 := HG1n
        clear HG1n
        clear hb
        refine hK.out _ _ (HSI.out _ HG0.out) (fun hHeld2 => ?_)
        clear hK K
        try simp only [Act.put, List.getElem_toArray, List.getElem_cons_zero, List.getElem_cons_succ, List.setIfInBounds_toArray, List.set_cons_zero, List.set_cons_succ]
        refine wpAnyH_ready (rs := [6]) (by kernel_rfl) (by simp) ?_
        refine ready_one rfl rfl (fun K hK => ?_)
        have HF : Hid (Calls Try.prog 24 #[qryV livesQ, .slice (some ⟨P, 0, none⟩) 2 2] U2 (ForgeRet U2 livesQ livesD)) := Lib.hid (forge_any livesQ _ 2 livesD U2 HG1.out (by decide) (by decide) (by decide))
        go_simp
        refine HF.out.mono ?_
        rintro e U3 ⟨hb, aq, a1, c1, rfl, hm⟩
        have HG2 := Lib.hid hm.an
        clear hm HF
        go_wp2_with fail
        have HG0n := Lib.hid (chain HG0.out hb)
        clear HG0
        have HG0 := HG0n
        clear HG0n
        have HZn := Lib.hid (HZ.out.below hb)
        clear HZ
        have HZ := HZn
        clear HZn
        clear hb
        refine hK.out _ _ (HSI.out _ HG0.out) (fun hHeld3 => ?_)
        clear hK K
        try simp only [Act.put, List.getElem_toArray, List.getElem_cons_zero, List.getElem_cons_succ, List.setIfInBounds_toArray, List.set_cons_zero, List.set_cons_succ]
        refine wpAnyH_ready (rs := [7]) (by kernel_rfl) (by simp) ?_
        refine ready_one rfl rfl (fun K hK => ?_)
        have HF : Hid (Calls Try.prog 7 #[qryV livesQ, msgV (forgeM livesQ livesD) aq a1 none none 1 c1 0 0] U3 (TellRet U3 livesX)) := Lib.hid (by rw [← lives_told]; exact tell_any livesQ (forgeM livesQ livesD) aq a1 none none 1 c1 0 0 U3 HG2.out lives_all (by decide) (by decide))
        go_simp
        refine HF.out.mono ?_
        rintro e U4 ⟨v, rfl, hr, hb⟩
        obtain ⟨av, cv, rfl, _⟩ := hr.ads
        have HNE : Hid (∀ g, (Value.slice av 1 cv).ownBlock = some g → g ≠ B) := Lib.hid (fun g hg => by have h1 := (hr.lt g hg).1; have h2 := HZ.out.lt; omega)
        have HG3 : Hid (RowA U4 V.heap.size (.slice av 1 cv) livesX.ad) := Lib.hid (hr.mono HG0.out.size)
        clear hr HF
        go_wp2_with fail
        have HG0n := Lib.hid (chain HG0.out hb)
        clear HG0
        have HG0 := HG0n
        clear HG0n
        have HZn := Lib.hid (HZ.out.below hb)
        clear HZ
        have HZ := HZn
        clear HZn
        clear hb
        refine hK.out _ _ (HSI.out _ HG0.out) (fun hHeld4 => ?_)
        clear hK K
        try simp only [Act.put, List.getElem_toArray, List.getElem_cons_zero, List.getElem_cons_succ, List.setIfInBounds_toArray, List.set_cons_zero, List.set_cons_succ]
        refine wpAnyH_ready (rs := [9]) (by kernel_rfl) (by simp) ?_
        refine ready_one rfl rfl (fun K hK => ?_)
        refine wp_store_of HZ rfl hsT _ _ rfl rfl rfl (vs := tldL livesX (.slice av 1 cv)) rfl rfl rfl (fun X HX HXC => ?_)
        have HSX : Hid (S X) := Lib.hid (HSO.out _ HG0.out B HBL.out _ _ HX.out)
        refine hK.out _ _ HSX.out (fun hHeldX => ?_)
        clear hK K
        try simp only [Act.put, List.getElem_toArray, List.getElem_cons_zero, List.getElem_cons_succ, List.setIfInBounds_toArray, List.set_cons_zero, List.set_cons_succ]
        refine wpAnyH_done (by kernel_rfl) ?_ _
        refine NoPanic.normal ?_
        clear hHeld1 hHeld2 hHeld3 hHeld4
        go_wp2_with fail
        go_meet
        case rel => exact ⟨B, av, cv, rfl, Lib.hid HXC.out, Lib.hid ((HG3.out.kept2 (w' := X) (fun g hg => by rw [HX.out]; exact heap_setCells_other _ _ _ _ _ (HNE.out g hg))).mono HBV.out.size), Lib.hid (C2.out _ HSX.out), Lib.hid (by rw [HX.out]; exact below_cells (Nat.le_trans HBV.out.size HBL.out) _ _ _ (chain HBV.out HG0.out))⟩
    · go_wp2_with fail
      obtain ⟨U1, hU⟩ : ∃ X, U0.alloc (.cells #[.int .i64 0, .slice none 0 0, .int .i64 0, .string ⟨#[]⟩, .int .i64 0] 29) = X := ⟨_, rfl⟩
      have hb : Below U0.heap.size U0 U1 := by rw [← hU]; exact (Below.refl _ _).alloc (Nat.le_refl _) _
      have HZ : Hid (CellsAt U1 U0.heap.size zT) := Lib.hid (by rw [← hU]; exact CellsAt.new U0 29 zT)
      try rw [hU]
      clear hU
      obtain ⟨B, hB⟩ : ∃ B, U0.heap.size = B := ⟨_, rfl⟩
      have HBL : Hid (V.heap.size ≤ B) := Lib.hid (by rw [← hB]; exact HG0.out.size)
      rw [hB] at HZ
      try rw [hB]
      clear hB
      have HG0n := Lib.hid (chain HG0.out hb)
      clear HG0
      have HG0 := HG0n
      clear HG0n
      clear hb
      refine hK.out _ _ (HSI.out _ HG0.out) (fun hHeld1 => ?_)
      clear hK K
      try simp only [Act.put, List.getElem_toArray, List.getElem_cons_zero, List.getElem_cons_succ, List.setIfInBounds_toArray, List.set_cons_zero, List.set_cons_succ]
      refine wpAnyH_ready (rs := [5]) (by kernel_rfl) (by simp) ?_
      refine ready_one rfl rfl (fun K hK => ?_)
      refine wp_build_recs2 _ _ rfl rfl rfl (fun U2 HU => ?_)
      have hb : Below U1.heap.size U1 U2 := by rw [HU.out]; exact (Below.refl _ _).alloc (Nat.le_refl _) _
      have HG1 : Hid (RecsAt U2 (some ⟨U1.heap.size, 0, none⟩) 2 livesD) := Lib.hid (by rw [HU.out]; exact lives_recs U1)
      clear HU
      obtain ⟨P, hP⟩ : ∃ P, U1.heap.size = P := ⟨_, rfl⟩
      rw [hP] at HG1
      try rw [hP]
      clear hP
      have HG0n := Lib.hid (chain HG0.out hb)
      clear HG0
      have HG0 := HG0n
      clear HG0n
      have HZn := Lib.hid (HZ.out.below hb)
      clear HZ
      have HZ := HZn
      clear HZn
      clear hb
      refine hK.out _ _ (HSI.out _ HG0.out) (fun hHeld2 => ?_)
      clear hK K
      try simp only [Act.put, List.getElem_toArray, List.getElem_cons_zero, List.getElem_cons_succ, List.setIfInBounds_toArray, List.set_cons_zero, List.set_cons_succ]
      refine wpAnyH_ready (rs := [6]) (by kernel_rfl) (by simp) ?_
      refine ready_one rfl rfl (fun K hK => ?_)
      have HF : Hid (Calls Try.prog 24 #[qryV livesQ, .slice (some ⟨P, 0, none⟩) 2 2] U2 (ForgeRet U2 livesQ livesD)) := Lib.hid (forge_any livesQ _ 2 livesD U2 HG1.out (by decide) (by decide) (by decide))
      go_simp
      refine HF.out.mono ?_
      rintro e U3 ⟨hb, aq, a1, c1, rfl, hm⟩
      have HG2 := Lib.hid hm.an
      clear hm HF
      go_wp2_with fail
      have HG0n := Lib.hid (chain HG0.out hb)
      clear HG0
      have HG0 := HG0n
      clear HG0n
      have HZn := Lib.hid (HZ.out.below hb)
      clear HZ
      have HZ := HZn
      clear HZn
      clear hb
      refine hK.out _ _ (HSI.out _ HG0.out) (fun hHeld3 => ?_)
      clear hK K
      try simp only [Act.put, List.getElem_toArray, List.getElem_cons_zero, List.getElem_cons_succ, List.setIfInBounds_toArray, List.set_cons_zero, List.set_cons_succ]
      refine wpAnyH_ready (rs := [7]) (by kernel_rfl) (by simp) ?_
      refine ready_one rfl rfl (fun K hK => ?_)
      have HF : Hid (Calls Try.prog 7 #[qryV livesQ, msgV (forgeM livesQ livesD) aq a1 none none 1 c1 0 0] U3 (TellRet U3 livesX)) := Lib.hid (by rw [← lives_told]; exact tell_any livesQ (forgeM livesQ livesD) aq a1 none none 1 c1 0 0 U3 HG2.out lives_all (by decide) (by decide))
      go_simp
      refine HF.out.mono ?_
      rintro e U4 ⟨v, rfl, hr, hb⟩
      obtain ⟨av, cv, rfl, _⟩ := hr.ads
      have HNE : Hid (∀ g, (Value.slice av 1 cv).ownBlock = some g → g ≠ B) := Lib.hid (fun g hg => by have h1 := (hr.lt g hg).1; have h2 := HZ.out.lt; omega)
      have HG3 : Hid (RowA U4 V.heap.size (.slice av 1 cv) livesX.ad) := Lib.hid (hr.mono HG0.out.size)
      clear hr HF
      go_wp2_with fail
      have HG0n := Lib.hid (chain HG0.out hb)
      clear HG0
      have HG0 := HG0n
      clear HG0n
      have HZn := Lib.hid (HZ.out.below hb)
      clear HZ
      have HZ := HZn
      clear HZn
      clear hb
      refine hK.out _ _ (HSI.out _ HG0.out) (fun hHeld4 => ?_)
      clear hK K
      try simp only [Act.put, List.getElem_toArray, List.getElem_cons_zero, List.getElem_cons_succ, List.setIfInBounds_toArray, List.set_cons_zero, List.set_cons_succ]
      refine wpAnyH_ready (rs := [9]) (by kernel_rfl) (by simp) ?_
      refine ready_one rfl rfl (fun K hK => ?_)
      refine wp_store_of HZ rfl hsT _ _ rfl rfl rfl (vs := tldL livesX (.slice av 1 cv)) rfl rfl rfl (fun X HX HXC => ?_)
      have HSX : Hid (S X) := Lib.hid (HSO.out _ HG0.out B HBL.out _ _ HX.out)
      refine hK.out _ _ HSX.out (fun hHeldX => ?_)
      clear hK K
      try simp only [Act.put, List.getElem_toArray, List.getElem_cons_zero, List.getElem_cons_succ, List.setIfInBounds_toArray, List.set_cons_zero, List.set_cons_succ]
      refine wpAnyH_done (by kernel_rfl) ?_ _
      refine NoPanic.normal ?_
      clear hHeld1 hHeld2 hHeld3 hHeld4
      go_wp2_with fail
      go_meet
      case rel => exact ⟨B, av, cv, rfl, Lib.hid HXC.out, Lib.hid ((HG3.out.kept2 (w' := X) (fun g hg => by rw [HX.out]; exact heap_setCells_other _ _ _ _ _ (HNE.out g hg))).mono HBV.out.size), Lib.hid (C2.out _ HSX.out), Lib.hid (by rw [HX.out]; exact below_cells (Nat.le_trans HBV.out.size HBL.out) _ _ _ (chain HBV.out HG0.out))⟩
  case rest =>
    obtain ⟨B, av, cv, rfl, HT, HR, HA, HB⟩ := hcut
    clear BR BS hsT HB0 HAD HQ
    have h16 : livesA.2.length = 16 := rfl
    obtain ⟨g, rfl, HRG⟩ : ∃ g, av = some ⟨g, 0, none⟩ ∧ Hid (wc.rangeAt g 0 (adL livesA)) := by
      rcases HR.out.form with ⟨e, _⟩ | ⟨g, cap, e, _, _, _, _, h⟩
      · cases e
      · cases e
        refine ⟨g, rfl, Lib.hid ?_⟩
        have : flatA livesX.ad = adL livesA := List.append_nil _
        rwa [this] at h
    have HTC : Hid (CellsAt wc B [.int .i64 0, .slice (some ⟨g, 0, none⟩) 1 cv, .int .i64 9, .string ⟨#[]⟩, .int .i64 1]) := Lib.hid HT.out
    clear HT HR
    have H16 := Lib.hid h16
    generalize livesA = r at *
    have q := fun W => run_eq_addr r.1 r.1 r.2 r.2 W h16 h16
    have hde : decide (r.1 = r.1 ∧ r.2 = r.2) = true := by simp
    rw [hde] at q
    have gd := guard_ad
    clear hde h16
    obtain ⟨S, hS⟩ : ∃ S : World → Prop, (fun U => U = wc.drew) = S := ⟨_, rfl⟩
    have CT : Hid (∀ w', S w' → CellsAt w' B [.int .i64 0, .slice (some ⟨g, 0, none⟩) 1 cv, .int .i64 9, .string ⟨#[]⟩, .int .i64 1]) := Lib.hid (fun w' h => by rw [← hS] at h; rw [h]; exact HTC.out.below (Below.refl _ _).drew)
    have K0 : Hid (∀ w', S w' → w'.cell? ⟨B, 0, none⟩ = some (.int .i64 0)) := Lib.hid (fun w' h => (CT.out w' h).cell 0 _ rfl)
    have K1 : Hid (∀ w', S w' → w'.cell? ⟨B, 1, none⟩ = some (.slice (some ⟨g, 0, none⟩) 1 cv)) := Lib.hid (fun w' h => (CT.out w' h).cell 1 _ rfl)
    have K2 : Hid (∀ w', S w' → w'.cell? ⟨B, 2, none⟩ = some (.int .i64 9)) := Lib.hid (fun w' h => (CT.out w' h).cell 2 _ rfl)
    have K3 : Hid (∀ w', S w' → w'.cell? ⟨B, 3, none⟩ = some (.string ⟨#[]⟩)) := Lib.hid (fun w' h => (CT.out w' h).cell 3 _ rfl)
    have K4 : Hid (∀ w', S w' → w'.cell? ⟨B, 4, none⟩ = some (.int .i64 1)) := Lib.hid (fun w' h => (CT.out w' h).cell 4 _ rfl)
    have KA : Hid (∀ w', S w' → w'.rangeAt g 0 (adL r)) := Lib.hid (fun w' h => by rw [← hS] at h; rw [h]; exact HRG.out)
    have KB : Hid (∀ w', S w' → w'.rangeAt w.heap.size 0 (adL r)) := Lib.hid (fun w' h => by rw [← hS] at h; rw [h]; exact HA.out)
    have HSI : Hid (S wc.drew) := Lib.hid (by rw [← hS])
    clear hS CT
    go_upto_region 4 with fail
    refine wp_region_noPanic ?_
    refine wp_region_held_drew (S := S) (by kernel_rfl) HSI.out (fun hHeld => ?_)
    refine wpAnyH_take (i := 0) (v := ?_) rfl (by kernel_rfl) (by kernel_rfl) (by kernel_rfl) (fun _ _ _ h => h) (Or.inl ⟨by rfl, ?_⟩) (by assumption) ?_
    rotate_left
    · (intro w hSw; go_simp; try (with_reducible rfl))
    try simp only [Act.put, List.getElem_toArray, List.getElem_cons_zero, List.setIfInBounds_toArray, List.set_cons_zero, List.set_cons_succ]
    refine wpAnyH_take (i := 1) (v := ?_) rfl (by kernel_rfl) (by kernel_rfl) (by kernel_rfl) (fun _ _ _ h => h) (Or.inl ⟨by rfl, ?_⟩) (by assumption) ?_
    rotate_left
    · (intro w hSw; have hc0 := K0.out w hSw; go_simp; try (with_reducible rfl))
    try simp only [Act.put, List.getElem_toArray, List.getElem_cons_zero, List.getElem_cons_succ, List.setIfInBounds_toArray, List.set_cons_zero, List.set_cons_succ]
    refine wpAnyH_take (i := 2) (v := ?_) rfl (by kernel_rfl) (by kernel_rfl) (by kernel_rfl) (fun _ _ _ h => h) (Or.inl ⟨by rfl, ?_⟩) (by assumption) ?_
    rotate_left
    · (intro w hSw; go_simp; try (with_reducible rfl))
    try simp only [Act.put, List.getElem_toArray, List.getElem_cons_zero, List.getElem_cons_succ, List.setIfInBounds_toArray, List.set_cons_zero, List.set_cons_succ]
    refine wpAnyH_take (i := 3) (v := ?_) rfl (by kernel_rfl) (by kernel_rfl) (by kernel_rfl) (fun _ _ _ h => h) (Or.inl ⟨by rfl, ?_⟩) (by assumption) ?_
    rotate_left
    · (intro w hSw; go_simp; try (with_reducible rfl))
    try simp only [Act.put, List.getElem_toArray, List.getElem_cons_zero, List.getElem_cons_succ, List.setIfInBounds_toArray, List.set_cons_zero, List.set_cons_succ]
    refine wpAnyH_take (i := 4) (v := ?_) rfl (by kernel_rfl) (by kernel_rfl) (by kernel_rfl) (fun _ _ _ h => h) (Or.inl ⟨by rfl, ?_⟩) (by assumption) ?_
    rotate_left
    · (intro w hSw; go_simp; try (with_reducible rfl))
    try simp only [Act.put, List.getElem_toArray, List.getElem_cons_zero, List.getElem_cons_succ, List.setIfInBounds_toArray, List.set_cons_zero, List.set_cons_succ]
    refine wpAnyH_take (i := 5) (v := ?_) rfl (by kernel_rfl) (by kernel_rfl) (by kernel_rfl) (fun _ _ _ h => h) (Or.inl ⟨by rfl, ?_⟩) (by assumption) ?_
    rotate_left
    · (intro w hSw; have hc0 := K1.out w hSw; go_simp; try (with_reducible rfl))
    try simp only [Act.put, List.getElem_toArray, List.getElem_cons_zero, List.getElem_cons_succ, List.setIfInBounds_toArray, List.set_cons_zero, List.set_cons_succ]
    refine wpAnyH_take (i := 6) (v := ?_) rfl (by kernel_rfl) (by kernel_rfl) (by kernel_rfl) (fun _ _ _ h => h) (Or.inl ⟨by rfl, ?_⟩) (by assumption) ?_
    rotate_left
    · (intro w hSw; go_simp; try (with_reducible rfl))
    try simp only [Act.put, List.getElem_toArray, List.getElem_cons_zero, List.getElem_cons_succ, List.setIfInBounds_toArray, List.set_cons_zero, List.set_cons_succ]
    refine wpAnyH_take (i := 7) (v := ?_) rfl (by kernel_rfl) (by kernel_rfl) (by kernel_rfl) (fun _ _ _ h => h) (Or.inl ⟨by rfl, ?_⟩) (by assumption) ?_
    rotate_left
    · (intro w hSw; go_simp; try (with_reducible rfl))
    try simp only [Act.put, List.getElem_toArray, List.getElem_cons_zero, List.getElem_cons_succ, List.setIfInBounds_toArray, List.set_cons_zero, List.set_cons_succ]
    refine wpAnyH_take (i := 8) (v := ?_) rfl (by kernel_rfl) (by kernel_rfl) (by kernel_rfl) (fun _ _ _ h => h) (Or.inl ⟨by rfl, ?_⟩) (by assumption) ?_
    rotate_left
    · (intro w hSw; go_simp; try (with_reducible rfl))
    try simp only [Act.put, List.getElem_toArray, List.getElem_cons_zero, List.getElem_cons_succ, List.setIfInBounds_toArray, List.set_cons_zero, List.set_cons_succ]
    refine wpAnyH_take (i := 9) (v := ?_) rfl (by kernel_rfl) (by kernel_rfl) (by kernel_rfl) (fun _ _ _ h => h) (Or.inl ⟨by rfl, ?_⟩) (by assumption) ?_
    rotate_left
    · (intro w hSw; go_simp; try (with_reducible rfl))
    try simp only [Act.put, List.getElem_toArray, List.getElem_cons_zero, List.getElem_cons_succ, List.setIfInBounds_toArray, List.set_cons_zero, List.set_cons_succ]
    refine wpAnyH_take (i := 10) (v := ?_) rfl (by kernel_rfl) (by kernel_rfl) (by kernel_rfl) (fun _ _ _ h => h) (Or.inl ⟨by rfl, ?_⟩) (by assumption) ?_
    rotate_left
    · (intro w hSw; go_simp; try (with_reducible rfl))
    try simp only [Act.put, List.getElem_toArray, List.getElem_cons_zero, List.getElem_cons_succ, List.setIfInBounds_toArray, List.set_cons_zero, List.set_cons_succ]
    refine wpAnyH_take (i := 11) (v := ?_) rfl (by kernel_rfl) (by kernel_rfl) (by kernel_rfl) (fun _ _ _ h => h) (Or.inl ⟨by rfl, ?_⟩) (by assumption) ?_
    rotate_left
    · (intro w hSw; have hc0 := K1.out w hSw; go_simp; try (with_reducible rfl))
    try simp only [Act.put, List.getElem_toArray, List.getElem_cons_zero, List.getElem_cons_succ, List.setIfInBounds_toArray, List.set_cons_zero, List.set_cons_succ]
    refine wpAnyH_take (i := 12) (v := ?_) rfl (by kernel_rfl) (by kernel_rfl) (by kernel_rfl) (fun _ _ _ h => h) (Or.inl ⟨by rfl, ?_⟩) (by assumption) ?_
    rotate_left
    · (intro w hSw; go_simp; try (with_reducible rfl))
    try simp only [Act.put, List.getElem_toArray, List.getElem_cons_zero, List.getElem_cons_succ, List.setIfInBounds_toArray, List.set_cons_zero, List.set_cons_succ]
    refine wpAnyH_take (i := 13) rfl (by kernel_rfl) (by kernel_rfl) (by kernel_rfl) (fun _ _ _ h => h) (yields_ad H16 KA (by rfl) _ rfl rfl) (by assumption) ?_
    try simp only [Act.put, List.getElem_toArray, List.getElem_cons_zero, List.getElem_cons_succ, List.setIfInBounds_toArray, List.set_cons_zero, List.set_cons_succ]
    refine wpAnyH_take (i := 14) rfl (by kernel_rfl) (by kernel_rfl) (by kernel_rfl) (fun _ _ _ h => h) (yields_ad H16 KB (by rfl) _ rfl rfl) (by assumption) ?_
    try simp only [Act.put, List.getElem_toArray, List.getElem_cons_zero, List.getElem_cons_succ, List.setIfInBounds_toArray, List.set_cons_zero, List.set_cons_succ]
    refine wpAnyH_take (i := 15) (v := ?_) rfl (by kernel_rfl) (by kernel_rfl) (by kernel_rfl) (fun _ _ _ h => h) (Or.inl ⟨by rfl, ?_⟩) (by assumption) ?_
    rotate_left
    · (intro w hSw; go_simp; try (with_reducible rfl))
    try simp only [Act.put, List.getElem_toArray, List.getElem_cons_zero, List.getElem_cons_succ, List.setIfInBounds_toArray, List.set_cons_zero, List.set_cons_succ]
    refine wpAnyH_take (i := 16) (v := ?_) rfl (by kernel_rfl) (by kernel_rfl) (by kernel_rfl) (fun _ _ _ h => h) (Or.inl ⟨by rfl, ?_⟩) (by assumption) ?_
    rotate_left
    · (intro w hSw; go_simp; try (with_reducible rfl))
    try simp only [Act.put, List.getElem_toArray, List.getElem_cons_zero, List.getElem_cons_succ, List.setIfInBounds_toArray, List.set_cons_zero, List.set_cons_succ]
    refine wpAnyH_take (i := 17) (v := ?_) rfl (by kernel_rfl) (by kernel_rfl) (by kernel_rfl) (fun _ _ _ h => h) (Or.inl ⟨by rfl, ?_⟩) (by assumption) ?_
    rotate_left
    · (intro w hSw; go_simp; try (with_reducible rfl))
    try simp only [Act.put, List.getElem_toArray, List.getElem_cons_zero, List.getElem_cons_succ, List.setIfInBounds_toArray, List.set_cons_zero, List.set_cons_succ]
    refine wpAnyH_take (i := 18) (v := ?_) rfl (by kernel_rfl) (by kernel_rfl) (by kernel_rfl) (fun _ _ _ h => h) (Or.inl ⟨by rfl, ?_⟩) (by assumption) ?_
    rotate_left
    · (intro w hSw; go_simp; try (with_reducible rfl))
    try simp only [Act.put, List.getElem_toArray, List.getElem_cons_zero, List.getElem_cons_succ, List.setIfInBounds_toArray, List.set_cons_zero, List.set_cons_succ]
    refine wpAnyH_take (i := 19) (v := ?_) rfl (by kernel_rfl) (by kernel_rfl) (by kernel_rfl) (fun _ _ _ h => h) (Or.inl ⟨by rfl, ?_⟩) (by assumption) ?_
    rotate_left
    · (intro w hSw; have hc0 := K2.out w hSw; go_simp; try (with_reducible rfl))
    try simp only [Act.put, List.getElem_toArray, List.getElem_cons_zero, List.getElem_cons_succ, List.setIfInBounds_toArray, List.set_cons_zero, List.set_cons_succ]
    refine wpAnyH_take (i := 20) (v := ?_) rfl (by kernel_rfl) (by kernel_rfl) (by kernel_rfl) (fun _ _ _ h => h) (Or.inl ⟨by rfl, ?_⟩) (by assumption) ?_
    rotate_left
    · (intro w hSw; go_simp; try (with_reducible rfl))
    try simp only [Act.put, List.getElem_toArray, List.getElem_cons_zero, List.getElem_cons_succ, List.setIfInBounds_toArray, List.set_cons_zero, List.set_cons_succ]
    refine wpAnyH_take (i := 21) (v := ?_) rfl (by kernel_rfl) (by kernel_rfl) (by kernel_rfl) (fun _ _ _ h => h) (Or.inl ⟨by rfl, ?_⟩) (by assumption) ?_
    rotate_left
    · (intro w hSw; go_simp; try (with_reducible rfl))
    try simp only [Act.put, List.getElem_toArray, List.getElem_cons_zero, List.getElem_cons_succ, List.setIfInBounds_toArray, List.set_cons_zero, List.set_cons_succ]
    refine wpAnyH_take (i := 22) (v := ?_) rfl (by kernel_rfl) (by kernel_rfl) (by kernel_rfl) (fun _ _ _ h => h) (Or.inl ⟨by rfl, ?_⟩) (by assumption) ?_
    rotate_left
    · (intro w hSw; go_simp; try (with_reducible rfl))
    try simp only [Act.put, List.getElem_toArray, List.getElem_cons_zero, List.getElem_cons_succ, List.setIfInBounds_toArray, List.set_cons_zero, List.set_cons_succ]
    refine wpAnyH_take (i := 23) (v := ?_) rfl (by kernel_rfl) (by kernel_rfl) (by kernel_rfl) (fun _ _ _ h => h) (Or.inl ⟨by rfl, ?_⟩) (by assumption) ?_
    rotate_left
    · (intro w hSw; go_simp; try (with_reducible rfl))
    try simp only [Act.put, List.getElem_toArray, List.getElem_cons_zero, List.getElem_cons_succ, List.setIfInBounds_toArray, List.set_cons_zero, List.set_cons_succ]
    refine wpAnyH_take (i := 24) (v := ?_) rfl (by kernel_rfl) (by kernel_rfl) (by kernel_rfl) (fun _ _ _ h => h) (Or.inl ⟨by rfl, ?_⟩) (by assumption) ?_
    rotate_left
    · (intro w hSw; have hc0 := K4.out w hSw; go_simp; try (with_reducible rfl))
    try simp only [Act.put, List.getElem_toArray, List.getElem_cons_zero, List.getElem_cons_succ, List.setIfInBounds_toArray, List.set_cons_zero, List.set_cons_succ]
    refine wpAnyH_take (i := 25) (v := ?_) rfl (by kernel_rfl) (by kernel_rfl) (by kernel_rfl) (fun _ _ _ h => h) (Or.inl ⟨by rfl, ?_⟩) (by assumption) ?_
    rotate_left
    · (intro w hSw; go_simp; try (with_reducible rfl))
    try simp only [Act.put, List.getElem_toArray, List.getElem_cons_zero, List.getElem_cons_succ, List.setIfInBounds_toArray, List.set_cons_zero, List.set_cons_succ]
    refine wpAnyH_take (i := 26) (v := ?_) rfl (by kernel_rfl) (by kernel_rfl) (by kernel_rfl) (fun _ _ _ h => h) (Or.inl ⟨by rfl, ?_⟩) (by assumption) ?_
    rotate_left
    · (intro w hSw; go_simp; try (with_reducible rfl))
    try simp only [Act.put, List.getElem_toArray, List.getElem_cons_zero, List.getElem_cons_succ, List.setIfInBounds_toArray, List.set_cons_zero, List.set_cons_succ]
    refine wpAnyH_take (i := 27) (v := ?_) rfl (by kernel_rfl) (by kernel_rfl) (by kernel_rfl) (fun _ _ _ h => h) (Or.inl ⟨by rfl, ?_⟩) (by assumption) ?_
    rotate_left
    · (intro w hSw; go_simp; try (with_reducible rfl))
    try simp only [Act.put, List.getElem_toArray, List.getElem_cons_zero, List.getElem_cons_succ, List.setIfInBounds_toArray, List.set_cons_zero, List.set_cons_succ]
    refine wpAnyH_take (i := 28) (v := ?_) rfl (by kernel_rfl) (by kernel_rfl) (by kernel_rfl) (fun _ _ _ h => h) (Or.inl ⟨by rfl, ?_⟩) (by assumption) ?_
    rotate_left
    · (intro w hSw; go_simp; try (with_reducible rfl))
    try simp only [Act.put, List.getElem_toArray, List.getElem_cons_zero, List.getElem_cons_succ, List.setIfInBounds_toArray, List.set_cons_zero, List.set_cons_succ]
    refine wpAnyH_take (i := 29) (v := ?_) rfl (by kernel_rfl) (by kernel_rfl) (by kernel_rfl) (fun _ _ _ h => h) (Or.inl ⟨by rfl, ?_⟩) (by assumption) ?_
    rotate_left
    · (intro w hSw; have hc0 := K3.out w hSw; go_simp; try (with_reducible rfl))
    try simp only [Act.put, List.getElem_toArray, List.getElem_cons_zero, List.getElem_cons_succ, List.setIfInBounds_toArray, List.set_cons_zero, List.set_cons_succ]
    refine wpAnyH_take (i := 30) (v := ?_) rfl (by kernel_rfl) (by kernel_rfl) (by kernel_rfl) (fun _ _ _ h => h) (Or.inl ⟨by rfl, ?_⟩) (by assumption) ?_
    rotate_left
    · (intro w hSw; go_simp; try (with_reducible rfl))
    try simp only [Act.put, List.getElem_toArray, List.getElem_cons_zero, List.getElem_cons_succ, List.setIfInBounds_toArray, List.set_cons_zero, List.set_cons_succ]
    refine wpAnyH_take (i := 31) (v := ?_) rfl (by kernel_rfl) (by kernel_rfl) (by kernel_rfl) (fun _ _ _ h => h) (Or.inl ⟨by rfl, ?_⟩) (by assumption) ?_
    rotate_left
    · (intro w hSw; go_simp; try (with_reducible rfl))
    try simp only [Act.put, List.getElem_toArray, List.getElem_cons_zero, List.getElem_cons_succ, List.setIfInBounds_toArray, List.set_cons_zero, List.set_cons_succ]
    refine wpAnyH_take (i := 32) (v := ?_) rfl (by kernel_rfl) (by kernel_rfl) (by kernel_rfl) (fun _ _ _ h => h) (Or.inl ⟨by rfl, ?_⟩) (by assumption) ?_
    rotate_left
    · (intro w hSw; go_simp; try (with_reducible rfl))
    try simp only [Act.put, List.getElem_toArray, List.getElem_cons_zero, List.getElem_cons_succ, List.setIfInBounds_toArray, List.set_cons_zero, List.set_cons_succ]
    refine wpAnyH_done (by kernel_rfl) ?_ _
    refine NoPanic.normal ?_
    clear hHeld q gd K0 K1 K2 K3 K4 KA KB HSI
    go_wp2_with fail
    go_ret
    exact ⟨rfl, HB.out.drew⟩
end Go.Proofs.Ytedmkdjijhflnaa
/- Messages and rows of records that came in, opened: what they hold, where it lies, and how great it may be. -/
namespace Go.Proofs.Ytedmkdjijhflnaa
open Go.ChangeShapes Go.WideShapes Go.ChangeAt Go.RowKit
set_option linter.unusedVariables false
set_option maxRecDepth 20000

theorem bulk_one {H : Type} (d : DataW H) : 1 ≤ Rows.uptoBulk d := by
  cases d with
  | lit l => cases l <;> simp [Rows.uptoBulk]
  | _ => simp [Rows.uptoBulk]
theorem bulk_mem {H : Type} {d : DataW H} : ∀ {l : List (DataW H)}, d ∈ l → Rows.uptoBulk d ≤ Rows.uptoBulkAll l
  | [], h => by cases h
  | x :: r, h => by
    simp only [Rows.uptoBulkAll]
    rcases List.mem_cons.1 h with rfl | h
    · omega
    · have := bulk_mem h; omega
theorem bulk_len {H : Type} : ∀ (l : List (DataW H)), l.length ≤ Rows.uptoBulkAll l
  | [] => Nat.zero_le _
  | x :: r => by
    have h1 := bulk_one x
    have h2 := bulk_len r
    simp only [Rows.uptoBulkAll, List.length_cons]
    omega
theorem bulk_str {H : Type} (s : ByteArray) : s.size ≤ Rows.uptoBulk (DataW.lit (H := H) (.string s.data.toList)) := by
  have e : s.data.toList.length = s.size := by rw [Array.length_toList]; rfl
  simp only [Rows.uptoBulk, e]
  omega
theorem bulk_agg {H : Type} {d : DataW H} {l : List (DataW H)} (h : d ∈ l) : Rows.uptoBulk d ≤ Rows.uptoBulk (DataW.agg l) := by
  have := bulk_mem h
  simp only [Rows.uptoBulk]
  omega
section
variable {H : Type} {enc : TypeId × Value → H} {W : World} {spare : Nat → Bool}
theorem trod_struct7 {t : TypeId} {f0 f1 f2 f3 f4 f5 f6 : Field} {fuel : Nat} {cs : List Value} {x : DataW H × List MemPlace} (ht : Try.prog.underlying t = some (.struct #[f0, f1, f2, f3, f4, f5, f6])) (h : DataW.trod enc Try.prog W 0 spare true fuel t cs = some x) :
    ∃ y0 y1 y2 y3 y4 y5 y6 n, x.1 = .agg [y0.1, y1.1, y2.1, y3.1, y4.1, y5.1, y6.1] ∧ DataW.trod enc Try.prog W 0 spare true n f0.type ((cs.drop f0.offset).take (Try.prog.cellsOf f0.type)) = some y0 ∧ DataW.trod enc Try.prog W 0 spare true n f1.type ((cs.drop f1.offset).take (Try.prog.cellsOf f1.type)) = some y1 ∧ DataW.trod enc Try.prog W 0 spare true n f2.type ((cs.drop f2.offset).take (Try.prog.cellsOf f2.type)) = some y2 ∧
      DataW.trod enc Try.prog W 0 spare true n f3.type ((cs.drop f3.offset).take (Try.prog.cellsOf f3.type)) = some y3 ∧ DataW.trod enc Try.prog W 0 spare true n f4.type ((cs.drop f4.offset).take (Try.prog.cellsOf f4.type)) = some y4 ∧ DataW.trod enc Try.prog W 0 spare true n f5.type ((cs.drop f5.offset).take (Try.prog.cellsOf f5.type)) = some y5 ∧ DataW.trod enc Try.prog W 0 spare true n f6.type ((cs.drop f6.offset).take (Try.prog.cellsOf f6.type)) = some y6 := by
  obtain ⟨xs, n, _, rfl, hl, hlen, hf⟩ := DataW.trod_struct ht h
  match xs, hlen with
  | [y0, y1, y2, y3, y4, y5, y6], _ => exact ⟨y0, y1, y2, y3, y4, y5, y6, n, by simp, by simpa using hf 0 f0 rfl, by simpa using hf 1 f1 rfl, by simpa using hf 2 f2 rfl, by simpa using hf 3 f3 rfl, by simpa using hf 4 f4 rfl, by simpa using hf 5 f5 rfl, by simpa using hf 6 f6 rfl⟩
theorem trod_struct6 {t : TypeId} {f0 f1 f2 f3 f4 f5 : Field} {fuel : Nat} {cs : List Value} {x : DataW H × List MemPlace} (ht : Try.prog.underlying t = some (.struct #[f0, f1, f2, f3, f4, f5])) (h : DataW.trod enc Try.prog W 0 spare true fuel t cs = some x) :
    ∃ y0 y1 y2 y3 y4 y5 n, x.1 = .agg [y0.1, y1.1, y2.1, y3.1, y4.1, y5.1] ∧ DataW.trod enc Try.prog W 0 spare true n f0.type ((cs.drop f0.offset).take (Try.prog.cellsOf f0.type)) = some y0 ∧ DataW.trod enc Try.prog W 0 spare true n f1.type ((cs.drop f1.offset).take (Try.prog.cellsOf f1.type)) = some y1 ∧ DataW.trod enc Try.prog W 0 spare true n f2.type ((cs.drop f2.offset).take (Try.prog.cellsOf f2.type)) = some y2 ∧
      DataW.trod enc Try.prog W 0 spare true n f3.type ((cs.drop f3.offset).take (Try.prog.cellsOf f3.type)) = some y3 ∧ DataW.trod enc Try.prog W 0 spare true n f4.type ((cs.drop f4.offset).take (Try.prog.cellsOf f4.type)) = some y4 ∧ DataW.trod enc Try.prog W 0 spare true n f5.type ((cs.drop f5.offset).take (Try.prog.cellsOf f5.type)) = some y5 := by
  obtain ⟨xs, n, _, rfl, hl, hlen, hf⟩ := DataW.trod_struct ht h
  match xs, hlen with
  | [y0, y1, y2, y3, y4, y5], _ => exact ⟨y0, y1, y2, y3, y4, y5, n, by simp, by simpa using hf 0 f0 rfl, by simpa using hf 1 f1 rfl, by simpa using hf 2 f2 rfl, by simpa using hf 3 f3 rfl, by simpa using hf 4 f4 rfl, by simpa using hf 5 f5 rfl⟩
end
theorem cells_str : Try.prog.cellsOf 9 = 1 := by kernel_rfl
theorem cells_int : Try.prog.cellsOf 3 = 1 := by kernel_rfl
theorem cells_addr : Try.prog.cellsOf 42 = 17 := by kernel_rfl
theorem addr_of_trod9 {H : Type} {enc : TypeId × Value → H} {W : World} {spare : Nat → Bool} {fuel : Nat} {l : List Value} {x : DataW H × List MemPlace} (hl : l.length = 17)
    (hf : DataW.trod enc Try.prog W 0 spare true fuel 42 l = some x) : ∃ (f : Int) (bs : List Nat), l = addrL f bs ∧ (Lit.int .i64 f).wf = true ∧ bs.length = 16 ∧ ∀ x ∈ bs, x < 256 := by
  have hs := Try.underlying42
  obtain ⟨y0, y1, n, _, _, h0, h1⟩ := trod_struct2 hs hf
  obtain ⟨f, h2, _, h3⟩ := DataW.trod_int Try.underlying3 h0
  obtain ⟨zs, h4, h5, h6⟩ := ints_of_trod Try.underlying40 Try.underlying5 (by kernel_rfl) (by kernel_rfl) h1
  have hc1 : Try.prog.cellsOf 3 = 1 := by kernel_rfl
  have hc16 : Try.prog.cellsOf 40 = 16 := by kernel_rfl
  refine ⟨f, zs.map Int.toNat, ?_, h3, by simpa using h5, ?_⟩
  · unfold addrL
    have e1 : l = (l.drop 0).take 1 ++ (l.drop 1).take 16 := by
      have : (l.drop 1).take 16 = l.drop 1 := List.take_of_length_le (by simp; omega)
      rw [this, List.drop_zero, List.take_append_drop]
    rw [e1]
    have e2 : (l.drop 0).take 1 = [Value.int .i64 f] := by rw [← h2, hc1]
    have e3 : (l.drop 1).take 16 = zs.map (Value.int .u8) := by rw [← h4, hc16]
    rw [e2, e3, List.map_map]
    show Value.int .i64 f :: zs.map (Value.int .u8) = Value.int .i64 f :: _
    congr 1
    apply List.map_congr_left
    intro z hz
    have := bounds_u8 (h6 z hz)
    show Value.int .u8 z = Value.int .u8 ((z.toNat : Nat) : Int)
    congr 1
    omega
  · intro x hx
    obtain ⟨z, hz, rfl⟩ := List.mem_map.1 hx
    have := bounds_u8 (h6 z hz)
    omega
/-- How great a record's texts are. -/
def RecLe (r : Rec) (k : Nat) : Prop := r.name.size ≤ k ∧ r.tg.size ≤ k ∧ r.da.size ≤ k
theorem rec_of_trod {H : Type} {enc : TypeId × Value → H} {W : World} {spare : Nat → Bool} {fuel : Nat} {l : List Value} {x : DataW H × List MemPlace} (hl : l.length = 23)
    (hf : DataW.trod enc Try.prog W 0 spare true fuel 44 l = some x) : ∃ r : Rec, l = recL r ∧ (Fit r ∧ RecLe r (Rows.uptoBulk x.1)) := by
  have hs := Try.underlying44
  obtain ⟨y0, y1, y2, y3, y4, y5, y6, n, hx, h0, h1, h2, h3, h4, h5, h6⟩ := trod_struct7 hs hf
  simp only [cells_str, cells_int, cells_addr] at h0 h1 h2 h3 h4 h5 h6
  obtain ⟨nm, e0, z0, s0⟩ := DataW.trod_string Try.underlying9 h0
  obtain ⟨ty, e1, z1, s1⟩ := DataW.trod_int Try.underlying3 h1
  obtain ⟨cl, e2, z2, s2⟩ := DataW.trod_int Try.underlying3 h2
  obtain ⟨ttl, e3, z3, s3⟩ := DataW.trod_int Try.underlying3 h3
  obtain ⟨f, bs, e4, s4, l4, b4⟩ := addr_of_trod9 (by simp; omega) h4
  obtain ⟨tg, e5, z5, s5⟩ := DataW.trod_string Try.underlying9 h5
  obtain ⟨da, e6, z6, s6⟩ := DataW.trod_string Try.underlying9 h6
  refine ⟨⟨nm, ty, cl, ttl, f, bs, tg, da⟩, ?_, ⟨l4, b4, s1, s2, s3, s4, s0, s5, s6⟩, ?_⟩
  · have e : l = (l.drop 0).take 1 ++ ((l.drop 1).take 1 ++ ((l.drop 2).take 1 ++ ((l.drop 3).take 1 ++ ((l.drop 4).take 17 ++ ((l.drop 21).take 1 ++ (l.drop 22).take 1))))) := by
      apply List.ext_getElem?
      intro i
      simp only [List.getElem?_append, List.getElem?_take, List.getElem?_drop, List.length_take, List.length_drop, hl]
      by_cases h : i < 23
      · repeat' split
        all_goals first | (congr 1; omega) | omega
      · rw [List.getElem?_eq_none (by omega)]
        repeat' split
        all_goals first | rfl | omega
    rw [e, e0, e1, e2, e3, e4, e5, e6]
    rfl
  · rw [hx, z0, z5, z6]
    exact ⟨Nat.le_trans (bulk_str nm) (bulk_agg (by simp)), Nat.le_trans (bulk_str tg) (bulk_agg (by simp)), Nat.le_trans (bulk_str da) (bulk_agg (by simp))⟩
theorem qu_of_trod {H : Type} {enc : TypeId × Value → H} {W : World} {spare : Nat → Bool} {fuel : Nat} {l : List Value} {x : DataW H × List MemPlace} (hl : l.length = 3)
    (hf : DataW.trod enc Try.prog W 0 spare true fuel 68 l = some x) : ∃ q : Qu, l = quL q ∧ (FitQ q ∧ q.name.size ≤ Rows.uptoBulk x.1) := by
  have hs := Try.underlying68
  obtain ⟨y0, y1, y2, n, hx, _, h0, h1, h2⟩ := Deep.trod_struct3 hs hf
  simp only [cells_str, cells_int] at h0 h1 h2
  obtain ⟨nm, e0, z0, s0⟩ := DataW.trod_string Try.underlying9 h0
  obtain ⟨ty, e1, z1, s1⟩ := DataW.trod_int Try.underlying3 h1
  obtain ⟨cl, e2, z2, s2⟩ := DataW.trod_int Try.underlying3 h2
  refine ⟨⟨nm, ty, cl⟩, ?_, ⟨s1, s2, s0⟩, ?_⟩
  · match l, hl with
    | [a, b, c], _ =>
      simp at e0 e1 e2
      rw [e0, e1, e2]
      rfl
  · rw [hx, z0]
    exact Nat.le_trans (bulk_str nm) (bulk_agg (by simp))
/-- A row of structs, opened. -/
theorem open_rowsB {α : Type} {H : Type} {enc : TypeId × Value → H} {W : World} {spare : Nat → Bool} {t e : TypeId} {fuel : Nat} {vs : List Value} {x : DataW H × List MemPlace} (Lf : α → List Value) (S : Nat) (q : α → DataW H → Prop)
    (ht : Try.prog.underlying t = some (.slice e)) (hS : Try.prog.cellsOf e = S) (hpos : 0 < S)
    (hel : ∀ (n : Nat) (cs : List Value) (y : DataW H × List MemPlace), cs.length = S → DataW.trod enc Try.prog W 0 spare true n e cs = some y → ∃ d, cs = Lf d ∧ q d y.1)
    (h : DataW.trod enc Try.prog W 0 spare true fuel t vs = some x) :
    ∃ a len cap, vs = [.slice a len cap] ∧ len ≤ cap ∧ cap ≤ maxLen ∧ len ≤ Rows.uptoBulk x.1 ∧ (len = 0 ∨ ∃ (g o : Nat) (D : List α), a = some ⟨g, o, none⟩ ∧ D.length = len ∧ (∀ d ∈ D, (∃ y, q d y ∧ Rows.uptoBulk y ≤ Rows.uptoBulk x.1) ∧ (Lf d).length = S) ∧ W.rangeAt g o (D.flatMap Lf) ∧ g < W.heap.size) := by
  rcases Deep.open_slice ht h with ⟨h0, _⟩ | ⟨a', len, cap, m, n, DD, Pl, h0, hb, hl, hm, hmm, hx, hc⟩
  · exact ⟨none, 0, 0, h0, Nat.le_refl _, Nat.zero_le _, Nat.zero_le _, .inl rfl⟩
  · subst hx
    have hbk : ∀ i, i < len → Rows.uptoBulk (DD i) ≤ Rows.uptoBulk (DataW.slice ((List.range len).map DD) ((List.range (m - len)).map fun j => DD (len + j))) := fun i hi => by
      have := bulk_mem (d := DD i) (l := (List.range len).map DD) (List.mem_map.2 ⟨i, List.mem_range.2 hi, rfl⟩)
      simp only [Rows.uptoBulk]
      omega
    have hbl : len ≤ Rows.uptoBulk (DataW.slice ((List.range len).map DD) ((List.range (m - len)).map fun j => DD (len + j))) := by
      have := bulk_len ((List.range len).map DD)
      simp only [Rows.uptoBulk]
      simp at this
      omega
    refine ⟨_, len, cap, h0, hl, hm, hbl, ?_⟩
    by_cases hz : len = 0
    · exact .inl hz
    · right
      have hle : len ≤ m := by rw [hmm]; split <;> omega
      rw [hS] at hc
      have key : ∀ i, i < len → ∃ d, (∀ j u, (Lf d)[j]? = some u → W.cell? ((a'.add (i * S)).add j) = some u) ∧ (∃ y, q d y ∧ Rows.uptoBulk y ≤ Rows.uptoBulk (DataW.slice ((List.range len).map DD) ((List.range (m - len)).map fun j => DD (len + j)))) ∧ (Lf d).length = S := fun i hi => by
        obtain ⟨cs, c1, c2⟩ := hc i (by omega)
        unfold World.cells? at c1
        rw [if_pos (Nat.zero_le _)] at c1
        obtain ⟨l1, l2⟩ := mapM_some _ _ _ c1
        obtain ⟨d, rfl, hq⟩ := hel n cs _ l1 c2
        refine ⟨d, fun j u hu => ?_, ⟨_, hq, hbk i hi⟩, l1⟩
        have hj : j < (Lf d).length := by
          apply Classical.byContradiction
          intro h2
          rw [List.getElem?_eq_none (by omega)] at hu
          cases hu
        rw [l2 j hj]
        rw [List.getElem?_eq_getElem hj] at hu
        exact hu
      obtain ⟨D, d1, d2⟩ := choose_list _ len key
      obtain ⟨d0, e1, _, e3⟩ := key 0 (by omega)
      have hc0 := e1 0 _ (List.getElem?_eq_getElem (by omega))
      have hspot : a'.spot = none := by
        rw [Nat.zero_mul] at hc0
        have : (a'.add 0).add 0 = a' := by simp [Addr.add]
        rw [this] at hc0
        unfold World.cell? at hc0
        split at hc0
        · split at hc0
          · cases hc0
          · rename_i h; simpa using h
        · cases hc0
      obtain ⟨g, o, sp⟩ := a'
      simp only at hspot
      subst hspot
      have hadd : ∀ i j, ((⟨g, o, none⟩ : Addr).add i).add j = ⟨g, o + i + j, none⟩ := fun i j => by
        unfold Addr.add
        split <;> split <;> simp_all [Nat.add_assoc]
      have hlen : ∀ d ∈ D, (Lf d).length = S := fun d hd => by
        obtain ⟨i, hi, rfl⟩ := List.getElem_of_mem hd
        exact (d2 i hi).2.2
      refine ⟨g, o, D, rfl, d1, fun d hd => ?_, fun k u hu => ?_, ?_⟩
      · obtain ⟨i, hi, rfl⟩ := List.getElem_of_mem hd
        exact ⟨(d2 i hi).2.1, (d2 i hi).2.2⟩
      · have hk : k < D.length * S := by
          rw [← flatMap_len Lf S D hlen]
          apply Classical.byContradiction
          intro h2
          rw [List.getElem?_eq_none (by omega)] at hu
          cases hu
        have hq : k / S < D.length := Nat.div_lt_of_lt_mul (by rw [Nat.mul_comm]; exact hk)
        have hkk : k / S * S + k % S = k := by rw [Nat.mul_comm]; exact Nat.div_add_mod k S
        have h3 := flatMap_at Lf S D hlen (k / S) hq (k % S) (Nat.mod_lt _ hpos)
        rw [hkk, hu] at h3
        have h4 := (d2 (k / S) hq).1 (k % S) u h3.symm
        rw [hadd] at h4
        rw [← hkk, ← Nat.add_assoc]
        exact h4
      · rw [Nat.zero_mul, hadd] at hc0
        unfold World.cell? at hc0
        apply Classical.byContradiction
        intro h2
        rw [Array.getElem?_eq_none (by simpa using h2)] at hc0
        cases hc0
/-- A row of records that came in. -/
structure RecsIn (W : World) (a : Option Addr) (len cap : Nat) (D : List Rec) (k : Nat) : Prop where
  at0 : RecsAt W a cap D
  len : D.length = len
  room : ∀ r ∈ D, RecLe r k
  few : D.length ≤ k
structure QusIn (W : World) (a : Option Addr) (len cap : Nat) (D : List Qu) (k : Nat) : Prop where
  at0 : QusAt W a cap D
  len : D.length = len
  room : ∀ q ∈ D, q.name.size ≤ k
  few : D.length ≤ k
theorem open_recs {H : Type} {enc : TypeId × Value → H} {W : World} {spare : Nat → Bool} {fuel : Nat} {vs : List Value} {x : DataW H × List MemPlace}
    (hf : DataW.trod enc Try.prog W 0 spare true fuel 24 vs = some x) : ∃ a len cap D, vs = [.slice a len cap] ∧ RecsIn W a len cap D (Rows.uptoBulk x.1) := by
  obtain ⟨a, len, cap, e, h1, h2, h4, h3⟩ := open_rowsB recL 23 (fun r y => Fit r ∧ RecLe r (Rows.uptoBulk y)) Try.underlying24 (by kernel_rfl) (by decide) (fun n cs y hl ht => rec_of_trod hl ht) hf
  rcases h3 with h3 | ⟨g, o, D, e2, hl, hq, hr, hg⟩
  · exact ⟨a, len, cap, [], e, ⟨⟨Nat.zero_le _, h2, (fun d hd => absurd hd (by simp)), .inl rfl⟩, h3.symm, (fun d hd => absurd hd (by simp)), Nat.zero_le _⟩⟩
  · refine ⟨a, len, cap, D, e, ⟨⟨by omega, h2, fun d hd => ?_, .inr ⟨g, o, e2, hg, hr⟩⟩, hl, fun d hd => ?_, by omega⟩⟩
    · obtain ⟨⟨y, hy, _⟩, _⟩ := hq d hd
      exact hy.1
    · obtain ⟨⟨y, hy, hk⟩, _⟩ := hq d hd
      exact ⟨Nat.le_trans hy.2.1 hk, Nat.le_trans hy.2.2.1 hk, Nat.le_trans hy.2.2.2 hk⟩
theorem open_qus {H : Type} {enc : TypeId × Value → H} {W : World} {spare : Nat → Bool} {fuel : Nat} {vs : List Value} {x : DataW H × List MemPlace}
    (hf : DataW.trod enc Try.prog W 0 spare true fuel 31 vs = some x) : ∃ a len cap D, vs = [.slice a len cap] ∧ QusIn W a len cap D (Rows.uptoBulk x.1) := by
  obtain ⟨a, len, cap, e, h1, h2, h4, h3⟩ := open_rowsB quL 3 (fun r y => FitQ r ∧ r.name.size ≤ Rows.uptoBulk y) Try.underlying31 (by kernel_rfl) (by decide) (fun n cs y hl ht => qu_of_trod hl ht) hf
  rcases h3 with h3 | ⟨g, o, D, e2, hl, hq, hr, hg⟩
  · exact ⟨a, len, cap, [], e, ⟨⟨Nat.zero_le _, h2, (fun d hd => absurd hd (by simp)), .inl rfl⟩, h3.symm, (fun d hd => absurd hd (by simp)), Nat.zero_le _⟩⟩
  · refine ⟨a, len, cap, D, e, ⟨⟨by omega, h2, fun d hd => ?_, .inr ⟨g, o, e2, hg, hr⟩⟩, hl, fun d hd => ?_, by omega⟩⟩
    · obtain ⟨⟨y, hy, _⟩, _⟩ := hq d hd
      exact hy.1
    · obtain ⟨⟨y, hy, hk⟩, _⟩ := hq d hd
      exact Nat.le_trans hy.2 hk
/-- A message that came in. -/
structure MsgGot (W : World) (m : Msg) (aq a1 a2 a3 : Option Addr) (cq c1 c2 c3 : Nat) (k : Nat) : Prop where
  qs : QusIn W aq m.qs.length cq m.qs k
  an : RecsIn W a1 m.an.length c1 m.an k
  au : RecsIn W a2 m.au.length c2 m.au k
  mo : RecsIn W a3 m.mo.length c3 m.mo k
  id : (Lit.int .i64 m.id).wf = true
  fl : (Lit.int .i64 m.fl).wf = true
theorem RecsIn.wider {W : World} {a : Option Addr} {len cap : Nat} {D : List Rec} {k k' : Nat} (h : RecsIn W a len cap D k) (hk : k ≤ k') : RecsIn W a D.length cap D k' :=
  ⟨h.at0, rfl, fun r hr => ⟨Nat.le_trans (h.room r hr).1 hk, Nat.le_trans (h.room r hr).2.1 hk, Nat.le_trans (h.room r hr).2.2 hk⟩, Nat.le_trans h.few hk⟩
theorem QusIn.wider {W : World} {a : Option Addr} {len cap : Nat} {D : List Qu} {k k' : Nat} (h : QusIn W a len cap D k) (hk : k ≤ k') : QusIn W a D.length cap D k' :=
  ⟨h.at0, rfl, fun r hr => Nat.le_trans (h.room r hr) hk, Nat.le_trans h.few hk⟩
theorem open_msg {H : Type} {enc : TypeId × Value → H} {W : World} {base : Nat} {spare : Nat → Bool} {v : Value} {d : DataW H} {ps : List MemPlace}
    (hok : Value.okWide Try.prog W .any base 33 v) (h : DataW.Trod enc Try.prog W 0 spare true 33 v d ps) :
    ∃ (m : Msg) (aq a1 a2 a3 : Option Addr) (cq c1 c2 c3 : Nat), v = msgV m aq a1 a2 a3 cq c1 c2 c3 ∧ MsgGot W m aq a1 a2 a3 cq c1 c2 c3 (Rows.uptoBulk d) := by
  have hs := Try.underlying33
  obtain ⟨cs, rfl, hsz, _⟩ : ∃ cs, v = .agg cs ∧ cs.size = Try.prog.cellsOf 33 ∧ Row.okWide Try.prog W .any base 33 cs := by
    simpa [Value.okWide, hs] using hok
  rw [show Try.prog.cellsOf 33 = 6 by kernel_rfl] at hsz
  obtain ⟨fuel, hf⟩ := h
  obtain ⟨y0, y1, y2, y3, y4, y5, n, hx, h0, h1, h2, h3, h4, h5⟩ := trod_struct6 hs hf
  have e0 : (Value.cells (.agg cs)).toList = cs.toList := rfl
  rw [e0] at h0 h1 h2 h3 h4 h5
  have cq : Try.prog.cellsOf 31 = 1 := by kernel_rfl
  have cr : Try.prog.cellsOf 24 = 1 := by kernel_rfl
  simp only [cells_int, cq, cr] at h0 h1 h2 h3 h4 h5
  obtain ⟨i, e1, _, s1⟩ := DataW.trod_int Try.underlying3 h0
  obtain ⟨f, e2, _, s2⟩ := DataW.trod_int Try.underlying3 h1
  obtain ⟨aq, nq, kq, Dq, e3, s3⟩ := open_qus h2
  obtain ⟨a1, n1, k1, D1, e4, s4⟩ := open_recs h3
  obtain ⟨a2, n2, k2, D2, e5, s5⟩ := open_recs h4
  obtain ⟨a3, n3, k3, D3, e6, s6⟩ := open_recs h5
  have hx : d = .agg [y0.1, y1.1, y2.1, y3.1, y4.1, y5.1] := hx
  have l2 : Rows.uptoBulk y2.1 ≤ Rows.uptoBulk d := by rw [hx]; exact bulk_agg (by simp)
  have l3 : Rows.uptoBulk y3.1 ≤ Rows.uptoBulk d := by rw [hx]; exact bulk_agg (by simp)
  have l4 : Rows.uptoBulk y4.1 ≤ Rows.uptoBulk d := by rw [hx]; exact bulk_agg (by simp)
  have l5 : Rows.uptoBulk y5.1 ≤ Rows.uptoBulk d := by rw [hx]; exact bulk_agg (by simp)
  refine ⟨⟨i, f, Dq, D1, D2, D3⟩, aq, a1, a2, a3, kq, k1, k2, k3, ?_, ⟨s3.wider l2, s4.wider l3, s5.wider l4, s6.wider l5, s1, s2⟩⟩
  unfold msgV
  congr 1
  apply Array.ext'
  have h6 : cs.toList.length = 6 := by simpa using hsz
  generalize cs.toList = l at *
  match l, h6 with
  | [u0, u1, u2, u3, u4, u5], _ =>
    simp at e1 e2 e3 e4 e5 e6
    rw [e1, e2, e3, e4, e5, e6, s3.len, s4.len, s5.len, s6.len]
theorem MsgGot.wider {W : World} {m : Msg} {aq a1 a2 a3 : Option Addr} {cq c1 c2 c3 k k' : Nat} (h : MsgGot W m aq a1 a2 a3 cq c1 c2 c3 k) (hk : k ≤ k') : MsgGot W m aq a1 a2 a3 cq c1 c2 c3 k' := ⟨h.qs.wider hk, h.an.wider hk, h.au.wider hk, h.mo.wider hk, h.id, h.fl⟩
theorem MsgGot.ins {W : World} {m : Msg} {aq a1 a2 a3 : Option Addr} {cq c1 c2 c3 k : Nat} (h : MsgGot W m aq a1 a2 a3 cq c1 c2 c3 k) : MsgIn W m aq a1 a2 a3 cq c1 c2 c3 := ⟨h.qs.at0, h.an.at0, h.au.at0, h.mo.at0⟩
end Go.Proofs.Ytedmkdjijhflnaa
/- Queries that came in, opened (layer 11). -/
namespace Go.Proofs.Ytedmkdjijhflnaa
open Go.ChangeShapes Go.WideShapes Go.ChangeAt Go.RowKit
set_option linter.unusedVariables false
set_option maxRecDepth 20000

theorem trod_struct4M {H : Type} {enc : TypeId × Value → H} {W : World} {spare : Nat → Bool} {t : TypeId} {f0 f1 f2 f3 : Field} {fuel : Nat} {cs : List Value} {x : DataW H × List MemPlace} (ht : Try.prog.underlying t = some (.struct #[f0, f1, f2, f3])) (h : DataW.trod enc Try.prog W 0 spare true fuel t cs = some x) :
    ∃ y0 y1 y2 y3 n, x.1 = .agg [y0.1, y1.1, y2.1, y3.1] ∧ DataW.trod enc Try.prog W 0 spare true n f0.type ((cs.drop f0.offset).take (Try.prog.cellsOf f0.type)) = some y0 ∧ DataW.trod enc Try.prog W 0 spare true n f1.type ((cs.drop f1.offset).take (Try.prog.cellsOf f1.type)) = some y1 ∧ DataW.trod enc Try.prog W 0 spare true n f2.type ((cs.drop f2.offset).take (Try.prog.cellsOf f2.type)) = some y2 ∧ DataW.trod enc Try.prog W 0 spare true n f3.type ((cs.drop f3.offset).take (Try.prog.cellsOf f3.type)) = some y3 := by
  obtain ⟨xs, n, _, rfl, hl, hlen, hf⟩ := DataW.trod_struct ht h
  match xs, hlen with
  | [y0, y1, y2, y3], _ => exact ⟨y0, y1, y2, y3, n, by simp, by simpa using hf 0 f0 rfl, by simpa using hf 1 f1 rfl, by simpa using hf 2 f2 rfl, by simpa using hf 3 f3 rfl⟩
/-- What is known of a query that came in. -/
structure QryGot (q : Qry) (k : Nat) : Prop where
  id : (Lit.int .i64 q.id).wf = true
  ty : (Lit.int .i64 q.ty).wf = true
  sv : (Lit.int .i64 q.sv).wf = true
  nm : q.nm.size ≤ k
  nx : q.nm.size ≤ maxLen
theorem QryGot.wider {q : Qry} {k k' : Nat} (h : QryGot q k) (hk : k ≤ k') : QryGot q k' := ⟨h.id, h.ty, h.sv, Nat.le_trans h.nm hk, h.nx⟩
theorem open_qry {H : Type} {enc : TypeId × Value → H} {W : World} {base : Nat} {spare : Nat → Bool} {v : Value} {d : DataW H} {ps : List MemPlace}
    (hok : Value.okWide Try.prog W .any base 23 v) (h : DataW.Trod enc Try.prog W 0 spare true 23 v d ps) :
    ∃ q : Qry, v = qryV q ∧ QryGot q (Rows.uptoBulk d) := by
  have hs := Try.underlying23
  obtain ⟨cs, rfl, hsz, _⟩ : ∃ cs, v = .agg cs ∧ cs.size = Try.prog.cellsOf 23 ∧ Row.okWide Try.prog W .any base 23 cs := by
    simpa [Value.okWide, hs] using hok
  rw [show Try.prog.cellsOf 23 = 4 by kernel_rfl] at hsz
  obtain ⟨fuel, hf⟩ := h
  obtain ⟨y0, y1, y2, y3, n, hx, h0, h1, h2, h3⟩ := trod_struct4M hs hf
  have e0 : (Value.cells (.agg cs)).toList = cs.toList := rfl
  rw [e0] at h0 h1 h2 h3
  simp only [cells_int, cells_str] at h0 h1 h2 h3
  obtain ⟨i, e1, _, s1⟩ := DataW.trod_int Try.underlying3 h0
  obtain ⟨nm, e2, z2, s2⟩ := DataW.trod_string Try.underlying9 h1
  obtain ⟨ty, e3, _, s3⟩ := DataW.trod_int Try.underlying3 h2
  obtain ⟨sv, e4, _, s4⟩ := DataW.trod_int Try.underlying3 h3
  have hx : d = .agg [y0.1, y1.1, y2.1, y3.1] := hx
  refine ⟨⟨i, nm, ty, sv⟩, ?_, ⟨s1, s3, s4, ?_, s2⟩⟩
  · unfold qryV
    congr 1
    apply Array.ext'
    have h6 : cs.toList.length = 4 := by simpa using hsz
    generalize cs.toList = l at *
    match l, h6 with
    | [u0, u1, u2, u3], _ =>
      simp at e1 e2 e3 e4
      rw [e1, e2, e3, e4]
  · rw [hx, z2]
    exact Nat.le_trans (bulk_str nm) (bulk_agg (by simp))
theorem RecsIn.wider2 {W : World} {a : Option Addr} {len cap : Nat} {D : List Rec} {k k' : Nat} (h : RecsIn W a len cap D k) (hk : k ≤ k') : RecsIn W a len cap D k' :=
  ⟨h.at0, h.len, fun r hr => ⟨Nat.le_trans (h.room r hr).1 hk, Nat.le_trans (h.room r hr).2.1 hk, Nat.le_trans (h.room r hr).2.2 hk⟩, Nat.le_trans h.few hk⟩
theorem all2_of {W : World} {a : Option Addr} {len cap : Nat} {D : List Rec} (h : RecsIn W a len cap D 1048576) : All2 D := fun r hr => ⟨Nat.le_trans (h.room r hr).1 (by decide), Nat.le_trans (h.room r hr).2.1 (by decide)⟩
theorem All2.take {D : List Rec} (h : All2 D) (n : Nat) : All2 (D.take n) := fun r hr => h r (List.mem_of_mem_take hr)
end Go.Proofs.Ytedmkdjijhflnaa
/- What the laws of layer 11 ask of Tell, laid in plain values; the law's as, the reference's Forge, the landed Tell. -/
namespace Go.Proofs.Ytedmkdjijhflnaa
open Go.RowKit
set_option linter.unusedVariables false
set_option maxRecDepth 20000
set_option linter.unusedSimpArgs false

abbrev qA (q : Qry) : Value := .agg #[.int .i64 q.id, .string q.nm, .int .i64 q.ty, .int .i64 q.sv]
abbrev mA (q : Qry) (g : Nat) (a : Option Addr) (n cap : Nat) : Value := .agg #[.int .i64 q.id, .int .i64 33152, .slice (some ⟨g, 0, none⟩) 1 1, .slice a n cap, .slice none 0 0, .slice none 0 0]
theorem pack_as (q : Qry) (W : World) : Calls Try.prog 9 #[qA q] W fun e w' => e = .returned (qA q) ∧ Below W.heap.size W w' := as11_any q W
theorem pack_fo (q : Qry) (a : Option Addr) (cap : Nat) (L : List Rec) (n : Nat) (hn : L.length = n) (W : World) (h : RecsAt W a cap L) : Calls Try.prog 8 #[qA q, .slice a n cap] W fun e w' => ∃ g, e = .returned (mA q g a n cap) ∧ RecsAt w' a cap L ∧ Below W.heap.size W w' := by
  subst hn
  refine (refForge11_any q a cap L W h).mono ?_
  rintro e w' ⟨g, e1, _, _, hr, hb⟩
  exact ⟨g, e1, hr, hb⟩
theorem pack_te (q : Qry) (a : Option Addr) (cap : Nat) (L : List Rec) (n : Nat) (hn : L.length = n) (hA : All2 L) (hnm : q.nm.size ≤ 2000000) (hl : n ≤ 900) (g : Nat) (W : World) (h : RecsAt W a cap L) : Calls Try.prog 7 #[qA q, mA q g a n cap] W (TellRet W (tellP 33152 q.nm q.ty L)) := by
  subst hn
  exact tell_any q (forgeM q L) (some ⟨g, 0, none⟩) a none none 1 cap 0 0 W h hA hnm hl
theorem RowA.isSliceN {w : World} {B : Nat} {v : Value} {D : List Ad} (h : RowA w B v D) : ∃ ad c, v = .slice ad D.length c ∧ AdsIn w ad c D := h.ads
end Go.Proofs.Ytedmkdjijhflnaa
/- Records made and appended, as operations (layer 11's laws). -/
namespace Go.Proofs.Ytedmkdjijhflnaa
open Go.RowKit
set_option linter.unusedVariables false
set_option maxRecDepth 20000

theorem wp_build_recM {op : Oper} {a : Act} {w : World} {K : Act → World → Prop} {Q : Exit → Act → World → Prop} {r : Rec} (hl : Hid (r.b.length = 16)) (x : Operand) (ho : op.op = .buildSlice 24 1 #[(0, x)])
    (hx : a.eval x = recV r) (h : K (a.put op.dst (.slice (some ⟨w.heap.size, 0, none⟩) 1 1)) (w.alloc (.cells (recL r).toArray 44))) : op.wp Try.prog a w K Q := by
  unfold Oper.wp execOp
  simp only [ho, List.map_toArray, List.map_cons, List.map_nil, hx, Sem.run_bind, run_buildR r w hl.out, Result.andThen_ok]
  exact h
theorem wp_append_recsM {op : Oper} {a : Act} {w : World} {K : Act → World → Prop} {Q : Exit → Act → World → Prop} {base : Nat} {v : Value} {D : List Rec} (hE : Hid (RowR w base v D)) (s x : Operand) (ho : op.op = .call { callee := .builtin .append, args := #[s, x], argTypes := #[24, 24] })
    (hs : a.eval s = v) {G o m c : Nat} (ys : List Rec) (hx : a.eval x = .slice (some ⟨G, o, none⟩) m c) (hm : Hid (m = ys.length)) (hr : Hid (w.rangeAt G o (flatR ys))) (hy : Hid (All16 ys)) (hle : Hid (D.length + ys.length ≤ 100000)) (hbase : Hid (base ≤ w.heap.size))
    (h : ∀ v' w', Hid (RowR w' base v' (D ++ ys)) → Hid (w.grownBy w' v.ownBlock) → Hid (v'.ownBlock = v.ownBlock ∨ v'.ownBlock = some w.heap.size) → K (a.put op.dst v') w') : op.wp Try.prog a w K Q := by
  obtain ⟨i0, hi0, hz0, hz1, hz2⟩ := info_parts infoR
  have hml := hm.out
  have hll := hle.out
  obtain ⟨v', w', hrun, h1, h2, _, h4⟩ := run_append_own_at (P := Try.prog) w base 24 op.type 44 i0 _ 23 96 Try.underlying24 hi0 hz0 hz1 hz2 rfl (by decide) v D.length (flatR D) hE.out.1 ⟨G, o, none⟩ m c (flatR ys) (by rw [flatR_len ys hy.out, hml]) (fun j u hu => by
    have := hr.out j u hu
    have hadd : (⟨G, o, none⟩ : Addr).add j = ⟨G, o + j, none⟩ := by unfold Addr.add; split <;> simp_all
    rw [hadd]
    exact this) (flatR_one ys) (by unfold maxLen; omega) (by omega) hbase.out
  unfold Oper.wp execOp
  simp only [ho, resolve, invoke, builtin, Sem.run_bind, Sem.run_pure, Result.andThen_ok, List.map_toArray, List.map_cons, List.map_nil, hs, hx, hrun]
  refine h v' w' (Lib.hid ⟨?_, ?_⟩) (Lib.hid h2) (Lib.hid h4)
  · rw [List.length_append, flatR_append, ← hml]; exact h1
  · intro e he
    rcases List.mem_append.1 he with he | he
    · exact hE.out.2 e he
    · exact hy.out e he
theorem built_rec5 (nm : ByteArray) (ty cl ttl : Int) (tg : ByteArray) : Try.prog.built 44 [(0, .string nm), (1, .int .i64 ty), (2, .int .i64 cl), (3, .int .i64 ttl), (5, .string tg)] = some (recL ⟨nm, ty, cl, ttl, 0, List.replicate 16 0, tg, ⟨#[]⟩⟩).toArray := rfl
theorem build_rec5 {ops : Array Oper} {rest : List Oper} {op : Oper} {a : Act} {w : World} {Q : Exit → Act → World → Prop} {nm tg : ByteArray} {ty cl ttl : Int} (hg : op.guard = none) (x0 x1 x2 x3 x5 : Operand) (ho : op.op = .build 44 #[(0, x0), (1, x1), (2, x2), (3, x3), (5, x5)])
    (h0 : a.eval x0 = .string nm) (h1 : a.eval x1 = .int .i64 ty) (h2 : a.eval x2 = .int .i64 cl) (h3 : a.eval x3 = .int .i64 ttl) (h5 : a.eval x5 = .string tg) (h : wpList Try.prog ops Q rest (a.put op.dst (recV ⟨nm, ty, cl, ttl, 0, List.replicate 16 0, tg, ⟨#[]⟩⟩)) w) : wpList Try.prog ops Q (op :: rest) a w := by
  have e : Try.prog.built 44 ((#[(0, x0), (1, x1), (2, x2), (3, x3), (5, x5)] : Array (Nat × Operand)).map fun (i, x) => (i, a.eval x)).toList = some (recL ⟨nm, ty, cl, ttl, 0, List.replicate 16 0, tg, ⟨#[]⟩⟩).toArray := by
    simp only [List.map_toArray, List.map_cons, List.map_nil]
    rw [h0, h1, h2, h3, h5]; exact built_rec5 nm ty cl ttl tg
  refine wpList_build hg 44 _ ho (by rw [e]; rfl) ?_
  rw [e]
  exact h
theorem built_recE (nm : ByteArray) : Try.prog.built 44 [(0, .string nm), (1, .int .i64 1), (2, .int .i64 1), (3, .int .i64 5000), (4, addrV 4 (List.replicate 16 0))] = some (recL ⟨nm, 1, 1, 5000, 4, List.replicate 16 0, ⟨#[]⟩, ⟨#[]⟩⟩).toArray := by kernel_rfl
/-- A new row of one record, where it lies. -/
theorem rec_range (w : World) (r : Rec) : (w.alloc (.cells (recL r).toArray 44)).rangeAt w.heap.size 0 (flatR [r]) := by
  have := built_new (w := w) (cs := recL r) 44
  rw [show flatR [r] = recL r from List.append_nil _]
  exact this
theorem RowR.kept2 {w w' : World} {B : Nat} {v : Value} {D : List Rec} (h : RowR w B v D) (hk : ∀ g, v.ownBlock = some g → w'.heap[g]? = w.heap[g]?) : RowR w' B v D := by
  obtain ⟨⟨h1, h2⟩, h3⟩ := h
  refine ⟨⟨h1, ?_⟩, h3⟩
  rcases h2 with h2 | ⟨g, cap, cur, e1, e2, e3, e4⟩
  · exact .inl h2
  · exact .inr ⟨g, cap, cur, e1, e2, (hk g (by rw [e1]; rfl)).trans e3, e4⟩
theorem own_rangeM {w : World} {base : Nat} {t : TypeId} {z : Nat} {v : Value} {n : Nat} {xs : List Value} (h : w.ownsRow base t z v n xs) : ∃ ad c, v = .slice ad n c ∧ True := by
  rcases h.2 with ⟨rfl, e⟩ | ⟨g, cap, cur, rfl, hg, hc, h1, h2, _⟩
  · exact ⟨none, 0, by rw [e], trivial⟩
  · exact ⟨_, _, rfl, trivial⟩
theorem RowR.isSlice {w : World} {B : Nat} {v : Value} {D : List Rec} (h : RowR w B v D) : ∃ ad c, v = .slice ad D.length c := by
  obtain ⟨ad, c, e, _⟩ := own_rangeM h.1
  exact ⟨ad, c, e⟩
theorem build_adG {ops : Array Oper} {rest : List Oper} {op : Oper} {a : Act} {w : World} {Q : Exit → Act → World → Prop} {r : Ad} (h16 : Hid (r.2.length = 16)) (hw : Region.wanted op (yielded ops a.tmps) = true) (x : Operand) (ho : op.op = .buildSlice 27 1 #[(0, x)])
    (hx : a.eval x = addrV r.1 r.2) (h : ∀ W, Hid (W = w.alloc (.cells (adL r).toArray 42)) → wpList Try.prog ops Q rest (a.put op.dst (.slice (some ⟨w.heap.size, 0, none⟩) 1 1)) W) : wpList Try.prog ops Q (op :: rest) a w := by
  unfold wpList
  rw [if_pos hw]
  refine .inl ?_
  unfold Oper.wp execOp
  simp only [ho, List.map_toArray, List.map_cons, List.map_nil, hx, Sem.run_bind, run_buildA1 r h16.out w, Result.andThen_ok]
  exact h _ (Lib.hid rfl)
theorem ads_new (w : World) (r : Ad) (h16 : r.2.length = 16) : AdsAt (w.alloc (.cells (adL r).toArray 42)) (some ⟨w.heap.size, 0, none⟩) 1 [r] :=
  ⟨Nat.le_refl _, by unfold maxLen; omega, (fun x hx => by rw [List.mem_singleton.1 hx]; exact h16), .inr ⟨w.heap.size, 0, rfl, by simp, ad_range w r⟩⟩
end Go.Proofs.Ytedmkdjijhflnaa
/- Contracts of text.digit and text.Number: the number of a text's digits. -/
namespace Go.Proofs.Ytedmkdjijhflnaa
open Go.RowKit
set_option linter.unusedVariables false
set_option maxRecDepth 20000

/-- A digit's number; 16: it is none. -/
def digC (c : Nat) : Nat := if 48 ≤ c ∧ c ≤ 57 then c - 48 else if 97 ≤ c ∧ c ≤ 102 then c - 87 else if 65 ≤ c ∧ c ≤ 70 then c - 55 else 16
theorem digC_le (c : Nat) : digC c ≤ 16 := by unfold digC; split; · omega
                                              split; · omega
                                              split <;> omega
/-- The byte at a place, or 0. -/
def byteOf (s : ByteArray) (k : Nat) : Nat := (s.data.toList.getD k 0).toNat
theorem byteOf_eq (s : ByteArray) (k : Nat) (h : k < s.size) : byteOf s k = (s[k]).toNat := by
  unfold byteOf
  rw [List.getD_eq_getElem?_getD, List.getElem?_eq_getElem (by simpa using h)]; rfl
def most : Nat := 1099511627776
/-- The number of the first k digits, if there is one. -/
def numTo (s : ByteArray) (b : Nat) : Nat → Option Nat
  | 0 => some 0
  | k + 1 => match numTo s b k with
    | none => none
    | some n => if b ≤ digC (byteOf s k) then none else if most < n * b + digC (byteOf s k) then none else some (n * b + digC (byteOf s k))
def numB (s : ByteArray) (b : Nat) : Option Nat := if s.size = 0 then none else numTo s b s.size
theorem numTo_none (s : ByteArray) (b k : Nat) (h : numTo s b k = none) : ∀ m, numTo s b (k + m) = none
  | 0 => h
  | m + 1 => by rw [← Nat.add_assoc, numTo, numTo_none s b k h m]
theorem numTo_le (s : ByteArray) (b : Nat) : ∀ k n, numTo s b k = some n → n ≤ most
  | 0, n, h => by simp [numTo] at h; omega
  | k + 1, n, h => by
    rw [numTo] at h
    cases hk : numTo s b k with
    | none => rw [hk] at h; cases h
    | some m =>
      rw [hk] at h
      simp only at h
      split at h
      · cases h
      · split at h
        · cases h
        · have := Option.some.inj h; omega
theorem numTo_step {s : ByteArray} {b k n : Nat} (h : numTo s b k = some n) (hk : k < s.size) :
    numTo s b (k + 1) = if b ≤ digC (s[k]).toNat then none else if most < n * b + digC (s[k]).toNat then none else some (n * b + digC (s[k]).toNat) := by
  rw [numTo, h, byteOf_eq s k hk]
theorem numB_dead {s : ByteArray} {b k : Nat} (hk : k < s.size) (h : numTo s b (k + 1) = none) : numB s b = none := by
  unfold numB
  rw [if_neg (by omega)]
  have := numTo_none s b (k + 1) h (s.size - (k + 1))
  rwa [show k + 1 + (s.size - (k + 1)) = s.size by omega] at this
/-- What Number answers. -/
def numRet (o : Option Nat) : Value := .tuple #[.int .i64 ((o.getD 0 : Nat) : Int), .bool o.isSome]

theorem num_ret {o p : Option Nat} (h : o = p) : Ending.returned (numRet o) = .returned (numRet p) := by rw [h]

end Go.Proofs.Ytedmkdjijhflnaa
/- The digits of a number in a base, as the statement TextBases lays them, are read as the number; and the contract of the reference's Around. -/
namespace Go.Proofs.Ytedmkdjijhflnaa
open Go.RowKit
set_option linter.unusedVariables false
set_option maxRecDepth 20000

def hexd (d : Nat) : UInt8 := if d < 10 then UInt8.ofNat (48 + d) else UInt8.ofNat (87 + d)
theorem digC_hexd (d : Nat) (h : d < 16) : digC (hexd d).toNat = d := by
  unfold hexd
  by_cases h1 : d < 10
  · rw [if_pos h1, UInt8.toNat_ofNat', Nat.mod_eq_of_lt (by omega)]
    unfold digC
    rw [if_pos (by omega)]
    omega
  · rw [if_neg h1, UInt8.toNat_ofNat', Nat.mod_eq_of_lt (by omega)]
    unfold digC
    rw [if_neg (by omega), if_pos (by omega)]
    omega
/-- The sixteen digits. -/
def hexs : ByteArray := { data := #[48, 49, 50, 51, 52, 53, 54, 55, 56, 57, 97, 98, 99, 100, 101, 102] }
theorem hexs_at (d : Nat) (h : d < 16) : hexs.extract d (d + 1) = { data := #[hexd d] } := by
  have hd : d = 0 ∨ d = 1 ∨ d = 2 ∨ d = 3 ∨ d = 4 ∨ d = 5 ∨ d = 6 ∨ d = 7 ∨ d = 8 ∨ d = 9 ∨ d = 10 ∨ d = 11 ∨ d = 12 ∨ d = 13 ∨ d = 14 ∨ d = 15 := by omega
  rcases hd with rfl | rfl | rfl | rfl | rfl | rfl | rfl | rfl | rfl | rfl | rfl | rfl | rfl | rfl | rfl | rfl <;> decide
/-- The lowest i digits of n. -/
def dstr (n b : Nat) : Nat → ByteArray
  | 0 => { data := #[] }
  | i + 1 => hexs.extract (n / b ^ i % b) (n / b ^ i % b + 1) ++ dstr n b i
theorem dstr_list (n b : Nat) (hb0 : 0 < b) (hb : b ≤ 16) (i : Nat) : (dstr n b (i + 1)).data.toList = hexd (n / b ^ i % b) :: (dstr n b i).data.toList := by
  have := Nat.mod_lt (n / b ^ i) hb0
  rw [dstr, hexs_at _ (by omega), data_append]
  rfl
theorem dstr_size (n b : Nat) (hb0 : 0 < b) (hb : b ≤ 16) : ∀ i, (dstr n b i).size = i
  | 0 => rfl
  | i + 1 => by
    have h := congrArg List.length (dstr_list n b hb0 hb i)
    have ih := dstr_size n b hb0 hb i
    simp at h
    omega
theorem dstr_byte (n b : Nat) (hb0 : 0 < b) (hb : b ≤ 16) : ∀ i k, k < i → byteOf (dstr n b i) k = (hexd (n / b ^ (i - 1 - k) % b)).toNat
  | 0, k, h => by omega
  | i + 1, 0, h => by
    unfold byteOf
    rw [dstr_list n b hb0 hb i]
    simp
  | i + 1, k + 1, h => by
    have ih := dstr_byte n b hb0 hb i k (by omega)
    unfold byteOf at ih ⊢
    rw [dstr_list n b hb0 hb i, show i + 1 - 1 - (k + 1) = i - 1 - k by omega, ← ih]
    rfl
theorem dstr_numTo (n b : Nat) (hb0 : 2 ≤ b) (hb : b ≤ 16) (hn : n ≤ most) (hlt : n < b ^ 14) : ∀ k, k ≤ 14 → numTo (dstr n b 14) b k = some (n / b ^ (14 - k))
  | 0, _ => by rw [numTo, Nat.sub_zero, Nat.div_eq_of_lt hlt]
  | k + 1, h => by
    rw [numTo, dstr_numTo n b hb0 hb hn hlt k (by omega), dstr_byte n b (by omega) hb 14 k (by omega), show 14 - 1 - k = 13 - k by omega, show 14 - (k + 1) = 13 - k by omega]
    have hm : n / b ^ (13 - k) % b < b := Nat.mod_lt _ (by omega)
    rw [digC_hexd _ (by omega)]
    have e : n / b ^ (14 - k) * b + n / b ^ (13 - k) % b = n / b ^ (13 - k) := by
      rw [show 14 - k = (13 - k) + 1 by omega, Nat.pow_succ, ← Nat.div_div_eq_div_mul, Nat.mul_comm]
      exact Nat.div_add_mod _ _
    have hle : n / b ^ (13 - k) ≤ n := Nat.div_le_self _ _
    simp only [e]
    rw [if_neg (by omega), if_neg (by omega)]
theorem dstr_num (n b : Nat) (hb0 : 2 ≤ b) (hb : b ≤ 16) (hn : n ≤ most) (hlt : n < b ^ 14) : numB (dstr n b 14) b = some n := by
  unfold numB
  rw [dstr_size n b (by omega) hb, if_neg (by omega), dstr_numTo n b hb0 hb hn hlt 14 (Nat.le_refl _)]
  simp
theorem num_bad (s : ByteArray) (b j : Nat) (hj : j < s.size) (h : b ≤ digC (byteOf s j)) : numB s b = none := by
  apply numB_dead hj
  rw [numTo]
  cases numTo s b j with
  | none => rfl
  | some n => simp only [if_pos h]
theorem num_behind (s X : ByteArray) (b : Nat) (hb : b ≤ 16) (hX : X.data.toList = [103]) : numB (s ++ X) b = none := by
  apply num_bad _ _ s.size
  · rw [ByteArray.size_append]
    have : X.data.toList.length = 1 := by rw [hX]; rfl
    simp at this
    omega
  · have e : byteOf (s ++ X) s.size = 103 := by
      unfold byteOf
      rw [data_append, hX, List.getD_eq_getElem?_getD, List.getElem?_append_right (by simp)]
      simp
    rw [e]
    have : digC 103 = 16 := by decide
    omega
theorem num_ahead (s X : ByteArray) (b : Nat) (hb : b ≤ 16) (hX : X.data.toList = [45]) : numB (X ++ s) b = none := by
  apply num_bad _ _ 0
  · rw [ByteArray.size_append]
    have : X.data.toList.length = 1 := by rw [hX]; rfl
    simp at this
    omega
  · have e : byteOf (X ++ s) 0 = 45 := by
      unfold byteOf
      rw [data_append, hX]
      rfl
    rw [e]
    have : digC 45 = 16 := by decide
    omega

theorem numRet_some (n : Nat) : numRet (some n) = .tuple #[.int .i64 (n : Int), .bool true] := rfl
theorem numRet_none : numRet none = .tuple #[.int .i64 0, .bool false] := rfl

/-- A number, from 0 on, modulo q. -/
def aroundN (n : Int) (q : Nat) : Nat := (if n < 0 then -(n + 1) else n).toNat % q
theorem aroundN_lt (n : Int) (q : Nat) (h : 0 < q) : aroundN n q < q := Nat.mod_lt _ h

set_option maxHeartbeats 400000 in
theorem around_any (n : Int) (q : Nat) (w : World) (hn : (Lit.int .i64 n).wf = true) (hq : 0 < q) (hq2 : q ≤ 4611686018427387904) :
    Calls Try.prog 11 #[.int .i64 n, .int .i64 (q : Int)] w fun e w' => e = .returned (.int .i64 ((aroundN n q : Nat) : Int)) ∧ w = w' := by
  have hb := bounds_i64 hn
  by_cases h : n < 0
  · obtain ⟨m, hm⟩ : ∃ m : Nat, -(n + 1) = (m : Int) := ⟨(-(n + 1)).toNat, by omega⟩
    have e : aroundN n q = m % q := by unfold aroundN; rw [if_pos h, hm]; rfl
    rw [e]
    go_enter Try.func11, Try.ntmps11
    go_wp2
    go_ret
    exact ⟨by first | rfl | simp, rfl⟩
  · obtain ⟨m, rfl⟩ : ∃ m : Nat, n = (m : Int) := ⟨n.toNat, by omega⟩
    have e : aroundN m q = m % q := by unfold aroundN; rw [if_neg h]; rfl
    rw [e]
    go_enter Try.func11, Try.ntmps11
    go_wp2
    go_ret
    exact ⟨by first | rfl | simp, rfl⟩
end Go.Proofs.Ytedmkdjijhflnaa
/- Plain facts for MatchLetters and MatchOthers: names in great letters change nothing; records of other names change nothing. -/
namespace Go.Proofs.Ytedmkdjijhflnaa
open Go.RowKit
set_option linter.unusedVariables false
set_option maxRecDepth 20000

/-- A byte as a great letter. -/
def upU (c : UInt8) : UInt8 := if 97 ≤ c ∧ c ≤ 122 then c - 32 else c
theorem lowU_up (c : UInt8) : lowU (upU c) = lowU c := by
  unfold upU
  split
  · rename_i h
    have h1 : 97 ≤ c.toNat := h.1
    have h2 : c.toNat ≤ 122 := h.2
    have h3 : (c - 32).toNat = c.toNat - 32 := UInt8.toNat_sub_of_le c 32 (UInt8.le_iff_toNat_le.2 (by show 32 ≤ c.toNat; omega))
    apply UInt8.toNat_inj.1
    rw [lowU_toNat, lowU_toNat, h3]
    unfold lowC
    rw [if_pos (by omega), if_neg (by omega)]
    omega
  · rfl
def upB (s : ByteArray) : ByteArray := ⟨(s.data.toList.map upU).toArray⟩
theorem upB_list (s : ByteArray) : (upB s).data.toList = s.data.toList.map upU := by simp [upB]
theorem upB_size (s : ByteArray) : (upB s).size = s.size := by
  have : (upB s).data.toList.length = s.data.toList.length := by rw [upB_list]; simp
  simpa using this
theorem likeB_up (s x : ByteArray) : likeB (upB s) x = likeB s x := by
  rw [Bool.eq_iff_iff, likeB_iff, likeB_iff, upB_list, List.map_map]
  have : (lowU ∘ upU) = lowU := by funext c; exact lowU_up c
  rw [this]
def upR (r : Rec) : Rec := { r with name := upB r.name }
theorem isRec_up (nm : ByteArray) (kd : Int) (r : Rec) : isRec nm kd (upR r) = isRec nm kd r := by
  unfold isRec upR
  simp only [likeB_up]
theorem next_up (D : List Rec) (nm : ByteArray) : nextR (D.map upR) nm = (nextR D nm).map upR := by
  unfold nextR
  induction D with
  | nil => rfl
  | cons r D ih =>
    rw [List.map_cons, List.find?_cons, List.find?_cons, isRec_up]
    cases isRec nm 5 r with
    | true => rfl
    | false => exact ih
theorem chain_up (D : List Rec) : ∀ (n : Nat) (nm : ByteArray) (t : Int), chainP (D.map upR) n nm t = chainP D n nm t
  | 0, nm, t => by simp [chainP, next_up]
  | n + 1, nm, t => by
    cases h : nextR D nm with
    | none => rw [chain_none h, chain_none (by rw [next_up, h]; rfl)]
    | some r =>
      rw [chain_succ h, chain_succ (r := upR r) (by rw [next_up, h]; rfl)]
      show (nm :: (chainP (D.map upR) n r.tg (min t r.ttl)).1, (chainP (D.map upR) n r.tg (min t r.ttl)).2) = _
      rw [chain_up D n]
theorem filter_up (D : List Rec) (nm : ByteArray) (kd : Int) : (D.map upR).filter (isRec nm kd) = (D.filter (isRec nm kd)).map upR := by
  induction D with
  | nil => rfl
  | cons r D ih =>
    rw [List.map_cons]
    cases h : isRec nm kd r with
    | true => rw [List.filter_cons_of_pos (by rw [isRec_up]; exact h), List.filter_cons_of_pos h, ih]; rfl
    | false => rw [List.filter_cons_of_neg (by rw [isRec_up, h]; decide), List.filter_cons_of_neg (by rw [h]; decide), ih]
theorem tellAll_up (D : List Rec) : ∀ x : Int × List Ad, tellAll x (D.map upR) = tellAll x D := by
  induction D with
  | nil => intro x; rfl
  | cons r D ih => intro x; rw [List.map_cons, tell_cons, tell_cons]; exact ih _
theorem tellP_up (fl : Int) (nm : ByteArray) (kd : Int) (D : List Rec) : tellP fl nm kd (D.map upR) = tellP fl nm kd D := by
  unfold tellP
  simp only [chain_up, filter_up, tellAll_up]
/-- Records that are none of a chain's. -/
theorem isRec_far {nm : ByteArray} {kd : Int} {r : Rec} (h : nm.size < r.name.size) : isRec nm kd r = false := by
  unfold isRec
  rw [likeB_size (by omega)]
  simp
theorem next_far {A M B : List Rec} {nm : ByteArray} (h : ∀ r ∈ M, nm.size < r.name.size) : nextR (A ++ M ++ B) nm = nextR (A ++ B) nm := by
  unfold nextR
  have hM : M.find? (isRec nm 5) = none := List.find?_eq_none.2 (fun r hr => by rw [isRec_far (h r hr)]; decide)
  rw [List.find?_append, List.find?_append, List.find?_append, hM]
  simp
theorem chain_far {A M B : List Rec} : ∀ (n : Nat) {nm : ByteArray} {t : Int}, (∀ p ∈ (chainP (A ++ B) n nm t).1, ∀ r ∈ M, p.size < r.name.size) → chainP (A ++ M ++ B) n nm t = chainP (A ++ B) n nm t
  | 0, nm, t, h => by
    have := next_far (A := A) (B := B) (M := M) (nm := nm) (fun r hr => h nm (by simp [chainP]) r hr)
    show ([nm], t, (nextR (A ++ M ++ B) nm).isNone) = ([nm], t, (nextR (A ++ B) nm).isNone)
    rw [this]
  | n + 1, nm, t, h => by
    have hn := next_far (A := A) (B := B) (M := M) (nm := nm) (fun r hr => by
      obtain ⟨l, e, _⟩ := chain_pos (A ++ B) (n + 1) nm t
      exact h nm (by rw [e]; exact List.mem_cons_self) r hr)
    cases hx : nextR (A ++ B) nm with
    | none => rw [chain_none hx, chain_none (by rw [hn, hx])]
    | some r =>
      rw [chain_succ hx, chain_succ (r := r) (by rw [hn, hx])]
      rw [chain_far n (fun p hp => h p (by rw [chain_succ hx]; exact List.mem_cons_of_mem _ hp))]
theorem filter_far {A M B : List Rec} {nm : ByteArray} {kd : Int} (h : ∀ r ∈ M, nm.size < r.name.size) : (A ++ M ++ B).filter (isRec nm kd) = (A ++ B).filter (isRec nm kd) := by
  have hM : M.filter (isRec nm kd) = [] := List.filter_eq_nil_iff.2 (fun r hr => by rw [isRec_far (h r hr)]; decide)
  rw [List.filter_append, List.filter_append, List.filter_append, hM]
  simp
/-- A shorter chain's names are among a longer one's. -/
theorem chain_le (D : List Rec) : ∀ (n m : Nat) (nm : ByteArray) (t : Int), n ≤ m → ∀ p ∈ (chainP D n nm t).1, p ∈ (chainP D m nm t).1
  | 0, m, nm, t, _ => fun p hp => by
    obtain ⟨l, e, _⟩ := chain_pos D m nm t
    rw [e]
    simp [chainP] at hp
    rw [hp]; exact List.mem_cons_self
  | n + 1, 0, nm, t, h => by omega
  | n + 1, m + 1, nm, t, h => fun p hp => by
    cases hx : nextR D nm with
    | none => rw [chain_none hx] at hp ⊢; exact hp
    | some r =>
      rw [chain_succ hx] at hp ⊢
      rcases List.mem_cons.1 hp with rfl | hp
      · exact List.mem_cons_self
      · exact List.mem_cons_of_mem _ (chain_le D n m r.tg (min t r.ttl) (by omega) p hp)
theorem lastB_mem {l : List ByteArray} (h : l ≠ []) : lastB l ∈ l := by
  unfold lastB
  rw [List.getLastD_eq_getLast?, List.getLast?_eq_some_getLast h]
  exact List.getLast_mem h
theorem chain_ttlfree (D : List Rec) : ∀ (n : Nat) (nm : ByteArray) (t s : Int), (chainP D n nm t).1 = (chainP D n nm s).1
  | 0, nm, t, s => by simp [chainP]
  | n + 1, nm, t, s => by
    cases hx : nextR D nm with
    | none => rw [chain_none hx, chain_none hx]
    | some r => rw [chain_succ hx, chain_succ hx, chain_ttlfree D n r.tg (min t r.ttl) (min s r.ttl)]
/-- Records whose names are longer than all of the chain change nothing. -/
theorem tellP_far {A M B : List Rec} {fl : Int} {nm : ByteArray} {kd s : Int} {k : Nat} (hk : 8 ≤ k) (h : ∀ p ∈ (chainP (A ++ B) k nm s).1, ∀ r ∈ M, p.size < r.name.size) : tellP fl nm kd (A ++ M ++ B) = tellP fl nm kd (A ++ B) := by
  have h8 : ∀ p ∈ (chainP (A ++ B) 8 nm 604800).1, ∀ r ∈ M, p.size < r.name.size := fun p hp => h p (by
    rw [chain_ttlfree (A ++ B) k nm s 604800]; exact chain_le (A ++ B) 8 k nm 604800 hk p hp)
  obtain ⟨l, e, _⟩ := chain_pos (A ++ B) 8 nm 604800
  have hl := h8 _ (lastB_mem (l := (chainP (A ++ B) 8 nm 604800).1) (by rw [e]; simp))
  unfold tellP
  simp only [chain_far 8 h8, filter_far hl]
end Go.Proofs.Ytedmkdjijhflnaa
/- What MatchOthers asks of the steps: the builtin max as one step, slices of a row of records, records appended to a row of one's own wherever they lie, none too. -/
namespace Go.Proofs.Ytedmkdjijhflnaa
open Go.RowKit
set_option linter.unusedVariables false
set_option maxRecDepth 20000
set_option linter.unusedSimpArgs false

theorem run_max (w : World) (t : TypeId) (m n : Int) (ats : Array TypeId) : (Builtin.max_ ats t #[Value.int .i64 m, Value.int .i64 n]).run Try.prog w = .ok (.int .i64 (max m n)) w := by
  by_cases h : m < n
  · rw [show max m n = n by omega]
    simp [Builtin.max_, Builtin.max2, go_sem, h]
  · rw [show max m n = m by omega]
    simp [Builtin.max_, Builtin.max2, go_sem, h]
theorem max_step {ops : Array Oper} {rest : List Oper} {op : Oper} {a : Act} {w : World} {Q : Exit → Act → World → Prop} (hg : op.guard = none) (x y : Operand) {ats : Array TypeId} (ho : op.op = .call { callee := .builtin .max, args := #[x, y], argTypes := ats }) {m n : Int} (hx : a.eval x = .int .i64 m) (hy : a.eval y = .int .i64 n)
    (h : wpList Try.prog ops Q rest (a.put op.dst (.int .i64 (max m n))) w) : wpList Try.prog ops Q (op :: rest) a w := by
  refine wpList_plain hg fun K hK => ?_
  unfold Oper.wp execOp
  simp only [ho, resolve, invoke, builtin, Sem.run_bind, Sem.run_pure, Result.andThen_ok, List.map_toArray, List.map_cons, List.map_nil, hx, hy, run_max]
  exact hK _ _ h
theorem run_slice_toR (ad : Option Addr) (c N hi : Nat) (h2 : hi ≤ c) (w : World) : (Instr.sliceAt 24 (.slice ad N c) none (some (.int .i64 (hi : Int))) none).run Try.prog w = .ok (.slice (if c = 0 then ad else ad.map (fun x => x.add (0 * 23))) hi c) w := by
  obtain ⟨i0, hi0, hz0, hz1, hz2⟩ := info_parts infoR
  have hu : (underlying 24).run Try.prog w = .ok _ w := run_underlying Try.underlying24 w
  have hsz : (sizeOf 44).run Try.prog w = .ok 23 w := by simp [sizeOf, typeInfo, hi0, hz1]
  unfold Instr.sliceAt Instr.slice Instr.sliceBounds
  simp [Sem.run_bind, hu, Result.andThen_ok, hsz, Sem.run_pure, run_sliceBound w .i64 (hi : Int) c _ (by omega) (by omega), Int.toNat_natCast]
theorem run_slice_fromR (ad : Option Addr) (c N lo : Nat) (h1 : lo ≤ N) (h2 : N ≤ c) (w : World) : (Instr.sliceAt 24 (.slice ad N c) (some (.int .i64 (lo : Int))) none none).run Try.prog w = .ok (.slice (if c = lo then ad else ad.map (fun x => x.add (lo * 23))) (N - lo) (c - lo)) w := by
  obtain ⟨i0, hi0, hz0, hz1, hz2⟩ := info_parts infoR
  have hu : (underlying 24).run Try.prog w = .ok _ w := run_underlying Try.underlying24 w
  have hsz : (sizeOf 44).run Try.prog w = .ok 23 w := by simp [sizeOf, typeInfo, hi0, hz1]
  unfold Instr.sliceAt Instr.slice Instr.sliceBounds
  simp [Sem.run_bind, hu, Result.andThen_ok, hsz, Sem.run_pure, run_sliceBound w .i64 (lo : Int) N _ (by omega) (by omega), Int.toNat_natCast, h2]
/-- Records that lie somewhere, or none. -/
def RecsR (w : World) (ad : Option Addr) (ys : List Rec) : Prop := ys = [] ∨ ∃ G o, ad = some ⟨G, o, none⟩ ∧ G < w.heap.size ∧ w.rangeAt G o (flatR ys)
theorem RecsR.below {w w' : World} {ad : Option Addr} {ys : List Rec} (h : RecsR w ad ys) (hb : Below w.heap.size w w') : RecsR w' ad ys := by
  rcases h with h | ⟨G, o, e, hG, hr⟩
  · exact .inl h
  · exact .inr ⟨G, o, e, Nat.lt_of_lt_of_le hG hb.size, fun j u hu => (hb.cell (p := ⟨G, o + j, none⟩) hG).trans (hr j u hu)⟩
theorem RecsR.keep {w w' : World} {ad : Option Addr} {ys : List Rec} (h : RecsR w ad ys) (hs : w.heap.size ≤ w'.heap.size) (hk : ∀ x, ad = some x → w'.heap[x.block]? = w.heap[x.block]?) : RecsR w' ad ys := by
  rcases h with h | ⟨G, o, e, hG, hr⟩
  · exact .inl h
  · exact .inr ⟨G, o, e, Nat.lt_of_lt_of_le hG hs, fun j u hu => (World.cell?_of_block (w := w) (a := ⟨G, o + j, none⟩) (by have h := hk _ e; exact h)).trans (hr j u hu)⟩
theorem RecsAt.takeR {w : World} {a : Option Addr} {cap : Nat} {D : List Rec} (h : RecsAt w a cap D) (k : Nat) : RecsR w (if cap = 0 then a else a.map (fun x => x.add (0 * 23))) (D.take k) := by
  rcases (h.take k).2.2.2 with h4 | ⟨g, o, e, hg, hr⟩
  · exact .inl (List.eq_nil_of_length_eq_zero h4)
  · refine .inr ⟨g, o, ?_, hg, hr⟩
    rw [e]
    split
    · rfl
    · simp [Addr.add]
theorem RecsAt.dropR {w : World} {a : Option Addr} {cap : Nat} {D : List Rec} (h : RecsAt w a cap D) (k : Nat) (hk : k ≤ D.length) : RecsR w (if cap = k then a else a.map (fun x => x.add (k * 23))) (D.drop k) := by
  have h16 : All16 D := fun r hr => (h.2.2.1 r hr).1
  by_cases hl : D.length = k
  · exact .inl (List.drop_eq_nil_of_le (by omega))
  · have hc := h.1
    rcases h.2.2.2 with h4 | ⟨g, o, e, hg, hr⟩
    · exact .inl (List.drop_eq_nil_of_le (by omega))
    · refine .inr ⟨g, o + k * 23, ?_, hg, fun j u hu => ?_⟩
      · rw [if_neg (by omega), e]
        show some ((⟨g, o, none⟩ : Addr).add (k * 23)) = _
        unfold Addr.add
        split <;> simp_all
      · have e2 : flatR D = flatR (D.take k) ++ flatR (D.drop k) := by rw [← flatR_append, List.take_append_drop]
        have hlt : (flatR (D.take k)).length = k * 23 := by
          rw [flatR_len _ (fun r hr => h16 r (List.mem_of_mem_take hr)), List.length_take]
          rw [show min k D.length = k by omega]
        have := hr (k * 23 + j) u (by rw [e2, List.getElem?_append_right (by omega), hlt, Nat.add_sub_cancel_left]; exact hu)
        rw [Nat.add_assoc]
        exact this
/-- Records appended wherever they lie; none too. -/
theorem append_recsG {ops : Array Oper} {rest : List Oper} {op : Oper} {a : Act} {w : World} {Q : Exit → Act → World → Prop} {base : Nat} {v : Value} {D : List Rec} (hE : Hid (RowR w base v D)) (s x : Operand) (hgd : op.guard = none) (ho : op.op = .call { callee := .builtin .append, args := #[s, x], argTypes := #[24, 24] })
    (hs : a.eval s = v) {ad : Option Addr} {m c : Nat} (ys : List Rec) (hx : a.eval x = .slice ad m c) (hm : Hid (m = ys.length)) (hr : Hid (RecsR w ad ys)) (hy : Hid (All16 ys)) (hle : Hid (D.length + ys.length ≤ 100000)) (hbase : Hid (base ≤ w.heap.size))
    (h : ∀ v' w', Hid (RowR w' base v' (D ++ ys)) → Hid (w.grownBy w' v.ownBlock) → wpList Try.prog ops Q rest (a.put op.dst v') w') : wpList Try.prog ops Q (op :: rest) a w := by
  rcases hr.out with hys | ⟨G, o, e, _, h3⟩
  · subst hys
    have hm0 : m = 0 := hm.out
    subst hm0
    cases ad with
    | none =>
      obtain ⟨i0, hi0, _⟩ := info_parts infoR
      refine wpList_plain hgd fun K hK => ?_
      have hr2 : (Builtin.append_ #[24, 24] op.type #[v, .slice none 0 c]).run Try.prog w = .ok v w := by
        have ht := Try.underlying24
        rcases hE.out.1.2 with ⟨rfl, _⟩ | ⟨g, cap, cur, rfl, _, _, hnc, _⟩
        · simp [Builtin.append_, run_underlying ht, sizeOf, typeInfo, hi0, Builtin.lenOf, Builtin.firstCells]
        · simp [Builtin.append_, run_underlying ht, sizeOf, typeInfo, hi0, Builtin.lenOf, Builtin.firstCells, hnc, storeCells]
      unfold Oper.wp execOp
      simp only [ho, resolve, invoke, builtin, Sem.run_bind, Sem.run_pure, Result.andThen_ok, List.map_toArray, List.map_cons, List.map_nil, hs, hx, hr2]
      refine hK _ _ (h v w (Lib.hid ?_) (Lib.hid (World.grownBy.refl w _)))
      rw [List.append_nil]
      exact hE.out
    | some p =>
      obtain ⟨i0, hi0, hz0, hz1, hz2⟩ := info_parts infoR
      have hll := hle.out
      simp only [List.length_nil] at hll
      refine wpList_append_own_at w hgd s x 24 ho base 44 i0 _ 23 96 Try.underlying24 hi0 hz0 hz1 hz2 rfl (by decide) v D.length (flatR D) hs hE.out.1 p 0 c [] hx rfl (fun j u hu => by cases hu) (fun u hu => by cases hu) (by unfold maxLen; omega) (by omega) hbase.out (fun v' w' h1 h2 _ h4 => ?_)
      refine h v' w' (Lib.hid ⟨?_, ?_⟩) (Lib.hid h2)
      · simpa using h1
      · rw [List.append_nil]; exact hE.out.2
  · subst e
    exact append_recs hE s x hgd ho hs ys hx hm (Lib.hid h3) hy hle hbase (fun v' w' h1 h2 _ => h v' w' h1 h2)
/-- A chain's names are as short as the records'. -/
theorem chain_bound {D : List Rec} {B : Nat} (hD : ∀ r ∈ D, r.tg.size ≤ B) : ∀ (n : Nat) {nm : ByteArray} (t : Int), nm.size ≤ B → ∀ p ∈ (chainP D n nm t).1, p.size ≤ B
  | 0, nm, t, hnm => fun p hp => by simp [chainP] at hp; rw [hp]; exact hnm
  | n + 1, nm, t, hnm => fun p hp => by
    cases h : nextR D nm with
    | none => rw [chain_none h] at hp; simp at hp; rw [hp]; exact hnm
    | some r =>
      rw [chain_succ h] at hp
      rcases List.mem_cons.1 hp with rfl | hp
      · exact hnm
      · exact chain_bound hD n _ (hD r (next_mem h).1) p hp
/-- Records that are made of others, by names longer than a number. -/
def Far (M : Nat) (T : List Rec) : Prop := ∀ r ∈ T, M < r.name.size ∧ r.name.size ≤ 2000000 ∧ r.tg.size ≤ 2000000 ∧ Fit r
theorem Far.snoc {M : Nat} {T : List Rec} {r : Rec} (h : Far M T) (h2 : M < r.name.size ∧ r.name.size ≤ 2000000 ∧ r.tg.size ≤ 2000000 ∧ Fit r) : Far M (T ++ [r]) := fun x hx => by
  rcases List.mem_append.1 hx with hx | hx
  · exact h x hx
  · rw [List.mem_singleton.1 hx]; exact h2
theorem cut_told {L T : List Rec} {k M : Nat} {fl kd : Int} {nm : ByteArray} (hT : Far M T) (hM : ∀ p ∈ (chainP L 20 nm 604800).1, p.size ≤ M) : tellP fl nm kd (([] ++ L.take k ++ T) ++ L.drop k) = tellP fl nm kd L := by
  have e : L.take k ++ L.drop k = L := List.take_append_drop k L
  rw [List.nil_append, tellP_far (k := 20) (s := 604800) (by decide) (by rw [e]; exact fun p hp r hr => Nat.lt_of_le_of_lt (hM p hp) (hT r hr).1), e]
theorem cut_all {L T : List Rec} {k M : Nat} (hL : All2 L) (hT : Far M T) : All2 (([] ++ L.take k ++ T) ++ L.drop k) := fun r hr => by
  rcases List.mem_append.1 hr with hr | hr
  · rw [List.nil_append] at hr
    rcases List.mem_append.1 hr with hr | hr
    · exact hL r (List.mem_of_mem_take hr)
    · exact ⟨(hT r hr).2.1, (hT r hr).2.2.1⟩
  · exact hL r (List.mem_of_mem_drop hr)
theorem cut_fit {L T : List Rec} {k M : Nat} (hL : ∀ r ∈ L, Fit r) (hT : Far M T) : ∀ r ∈ (([] ++ L.take k ++ T) ++ L.drop k), Fit r := fun r hr => by
  rcases List.mem_append.1 hr with hr | hr
  · rw [List.nil_append] at hr
    rcases List.mem_append.1 hr with hr | hr
    · exact hL r (List.mem_of_mem_take hr)
    · exact (hT r hr).2.2.2
  · exact hL r (List.mem_of_mem_drop hr)
theorem cut_len {L T : List Rec} {k : Nat} (hk : k ≤ L.length) : (([] ++ L.take k ++ T) ++ L.drop k).length = L.length + T.length := by
  simp only [List.nil_append, List.length_append, List.length_take, List.length_drop]
  omega
end Go.Proofs.Ytedmkdjijhflnaa

/- Texts that belong together, one behind the other: SpaceOf, SpaceLives, SpaceKit, DoorKit, DoorTabs. -/
import Derived.Test.YtgbajagacmfcmaaGreatDoorB10
import Derived.Test.YtgbajagacmfcmaaGreatDoorRows
import Derived.Test.YtgbajagacmfcmaaGreatDoorTie
import Derived.Test.YtgbajagacmfcmaaGreatDoorCards
import Derived.ProofKit
import Derived.LaidMore
import Derived.OpenShut
import Derived.Below
import Derived.Stop.Joined
import Derived.SevenTiedAt
import Derived.Lib.LaidTab
import Derived.WalkSmall
import Derived.Lib.ItoaNum
import Derived.Shelf.Vars
import Derived.SizedLaws
/- Contract of the landed Map's Of. -/
namespace Go.Proofs.YtgbajagacmfcmaaGreatDoor
open Go.RowKit
set_option linter.unusedVariables false
set_option maxRecDepth 20000

theorem wp_store_entT {op : Oper} {a : Act} {w : World} {K : Act → World → Prop} {Q : Exit → Act → World → Prop} {G : Nat} {g : Int} {bs0 : List Nat} {n0 v0 : Int} (hA : Hid (EntAt w G g bs0 n0 v0)) (x y : Operand) {f : Int} {bs : List Nat} {n v : Int} (hl : Hid (bs.length = 16)) (ho : op.op = .store 47 x y)
    (hx : a.eval x = .pointer (some ⟨G, 0, none⟩)) (hy : a.eval y = entV f bs n v) (h : Hid (EntAt (w.setCells G 0 (entL f bs n v)) G f bs n v) → K (a.put op.dst undef) (w.setCells G 0 (entL f bs n v))) : op.wp Tryz.prog a w K Q :=
  wp_store_mid 47 x y ho G 0 (entL f bs n v).toArray hx hy (by rw [List.size_toArray, entL_len f bs n v hl.out]; exact hA.out.there) (by rw [entT_size, List.size_toArray, entL_len f bs n v hl.out]) (entL_one f bs n v) (h (Lib.hid (hA.out.stored f bs n v hl.out)))
/-- What an Of leaves: its answer, the table with some more steps. -/
def Oft (G : Nat) (es : List Ent) (st : Int) (F : List Nat) (x : Int) (w : World) (e : Ending) (w' : World) : Prop :=
  e = .returned (.int .i64 x) ∧ FindInv G es st F w' ∧ Foot [G] [G] w w'
theorem ofE_ret (es : List Ent) (f : Int) (us : List Nat) (hg : AllGood es) : ∃ (ef : Int) (eb : List Nat) (en ev : Int) (et : Bool), entRet (findE es f us) = .tuple #[entV ef eb en ev, .bool et] ∧ eb.length = 16 ∧ ofE es f us = if et = true then ev else 2 := by
  unfold ofE
  cases h : findE es f us with
  | none => exact ⟨_, _, _, _, _, rfl, rfl, rfl⟩
  | some x => exact ⟨_, _, _, _, _, rfl, (hg x ((findE_best es f us).2 x h).1).1.len, rfl⟩
set_option maxRecDepth 100000 in
set_option maxHeartbeats 2000000 in
theorem mapOf_any (G : Nat) (es : List Ent) (st : Int) (F : List Nat) (f : Int) (us : List Nat) (w : World) (hA : TabAt w G es st F) (h16 : us.length = 16) (hlt : ∀ y ∈ us, y < 256) (h0 : 0 ≤ st) (h1 : st ≤ 800000) :
    Calls Tryz.prog 7 #[.pointer (some ⟨G, 0, none⟩), addrV f us] w (Oft G es st F (ofE es (unmapF f us) (unmapB f us)) w) := by
  have HUM := fun W => Lib.hid (addrUnmap_any f us W h16 hlt)
  have HFD := fun W (h : TabAt W G es st F) => Lib.hid (find_any G es st F (unmapF f us) (unmapB f us) W h (unmap7 f us h16 hlt).1 (unmap7 f us h16 hlt).2 h0 h1)
  have hgd : AllGood es := by obtain ⟨v, rfl, _, hR, _, _⟩ := hA; exact hR.2.1
  obtain ⟨ef, eb, en, ev, et, her, he16, hof⟩ := ofE_ret es (unmapF f us) (unmapB f us) hgd
  obtain ⟨cs, ecs, HP, HB⟩ := addr_boxed f us w h16
  have HA := Lib.hid (hA.below HB.out)
  have HFL := Lib.hid hA.lt.2
  have HGF := Lib.hid hA.lt.1
  have H16 := Lib.hid h16
  have E16 := Lib.hid he16
  have HOF := Lib.hid hof
  rw [ecs]
  generalize ofE es (unmapF f us) (unmapB f us) = R at *
  have HBW : Hid (Below w.heap.size w (w.alloc (.cells cs 24))) := HB
  have HSZ : Hid ((w.alloc (.cells cs 24)).heap.size = w.heap.size + 1) := Lib.hid (by simp)
  have FIN : ∀ (W3 : World) (T : Nat), Hid (FindInv G es st F W3 → Foot [G] [G] w W3 → w.heap.size < T → T < W3.heap.size → Oft G es st F R w (.returned (.int .i64 R)) (W3.setCells T 0 (entL ef eb en ev))) := fun W3 T => Lib.hid (fun ⟨st', h1, h2, h3⟩ hf hT hT2 => by
    have hf3 : Foot [T] [T] W3 (W3.setCells T 0 (entL ef eb en ev)) := foot_cells _ _ _
    have hb3 := hf3.below (B := w.heap.size) (by simp; omega) hf.size
    refine ⟨rfl, ⟨st', h1.keep hb3.size (fun k hk => hb3.block k (HFL.out k hk)), h2, h3⟩, hb3.os.trans hf.os, hb3.tape.trans hf.tape, hb3.output.trans hf.output, Nat.le_trans hf.size hb3.size, fun k hk hn => (hb3.block k hk).trans (hf.keep k hk hn), hf.new⟩)
  clear ecs h16 hlt hA hgd he16 hof HB
  go_enter Tryz.func7, Tryz.ntmps7
  go_upto_region 1 with fail
  generalize (w.alloc (.cells cs 24)) = W at *
  obtain ⟨L, hL⟩ : ∃ L, [(w.heap.size, 0, addrL f us)] = L := ⟨_, rfl⟩
  have HK : Hid (HeldL L W.drew) := Lib.hid (by rw [← hL]; intro y hy; rw [List.mem_singleton.1 hy]; exact HP.out.range)
  have MA : Hid (InL L w.heap.size 0 (addrL f us)) := Lib.hid (fun W h => h.get (by rw [← hL]; simp))
  have HKB : Hid (∀ A B, HeldL L A → w.heap.size < A.heap.size → Below A.heap.size A B → HeldL L B) := Lib.hid (fun A B h hl hb => by
    rw [← hL] at h ⊢; intro y hy; rw [List.mem_singleton.1 hy]
    exact range_belowB (h _ (by simp)) hb hl)
  have HKF : Hid (∀ A B T, HeldL L A → w.heap.size < A.heap.size → T ≠ w.heap.size → Foot [T] [T] A B → HeldL L B) := Lib.hid (fun A B T h hl hn hf => by
    rw [← hL] at h ⊢; intro y hy; rw [List.mem_singleton.1 hy]
    exact range_foot hf (h _ (by simp)) hl (by simpa using fun e => hn e.symm))
  have HGW : Hid (G < w.heap.size) := Lib.hid (HFL.out G HGF.out)
  clear hL
  refine wp_region_noPanic ?_
  refine wp_region_held_drew (S := HeldL L) (by kernel_rfl) HK.out (fun hHeld => ?_)
  refine wpAnyH_take (i := 0) (v := ?_) rfl (by kernel_rfl) (by kernel_rfl) (by kernel_rfl) (fun _ _ _ h => h) (Or.inl ⟨by rfl, ?_⟩) (by assumption) ?_
  rotate_left
  · (intro w hSw; go_simp; try (with_reducible rfl))
  try simp only [Act.put, List.getElem_toArray, List.getElem_cons_zero, List.setIfInBounds_toArray, List.set_cons_zero, List.set_cons_succ]
  refine wpAnyH_take (i := 1) (v := ?_) rfl (by kernel_rfl) (by kernel_rfl) (by kernel_rfl) (fun _ _ _ h => h) (Or.inl ⟨by rfl, ?_⟩) (by assumption) ?_
  rotate_left
  · (intro w hSw; go_simp; try (with_reducible rfl))
  try simp only [Act.put, List.getElem_toArray, List.getElem_cons_zero, List.getElem_cons_succ, List.setIfInBounds_toArray, List.set_cons_zero, List.set_cons_succ]
  refine wpAnyH_take (i := 2) (v := ?_) rfl (by kernel_rfl) (by kernel_rfl) (by kernel_rfl) (fun _ _ _ h => h) (Or.inl ⟨by rfl, ?_⟩) (by assumption) ?_
  rotate_left
  · (intro w hSw; go_simp; try (with_reducible rfl))
  try simp only [Act.put, List.getElem_toArray, List.getElem_cons_zero, List.getElem_cons_succ, List.setIfInBounds_toArray, List.set_cons_zero, List.set_cons_succ]
  refine wpAnyH_take (i := 3) rfl (by kernel_rfl) (by kernel_rfl) (by kernel_rfl) (fun _ _ _ h => h) (yields_addr_l H16 MA (by rfl) _ rfl rfl) (by assumption) ?_
  try simp only [Act.put, List.getElem_toArray, List.getElem_cons_zero, List.getElem_cons_succ, List.setIfInBounds_toArray, List.set_cons_zero, List.set_cons_succ]
  refine wpAnyH_ready (rs := [4, 9]) (by kernel_rfl) (by simp) ?_
  refine AllReadyH.cons rfl (fun K hK => ?_) (AllReadyH.one rfl rfl (fun K hK => ?_))
  · go_simp
    refine (HUM _).out.mono ?_
    rintro e V1 ⟨rfl, hb1⟩
    have HB1 : Hid (Below w.heap.size w V1) := Lib.hid (chain HBW.out ((Below.refl _ _).drew.trans hb1))
    have HT1 := Lib.hid ((HA.out.below (Below.refl _ _).drew).below hb1)
    have HL1 : Hid (w.heap.size < V1.heap.size) := Lib.hid (by have := hb1.size; have := HSZ.out; show w.heap.size < V1.heap.size; have h3 : W.drew.heap.size = W.heap.size := rfl; omega)
    have hS1 := HKB.out _ _ HK.out (by have h3 : W.drew.heap.size = W.heap.size := rfl; have := HSZ.out; omega) hb1
    clear hb1 HUM
    go_wp2_with fail
    refine hK.out _ _ hS1 (fun hHeld1 => ?_)
    clear hK K
    try simp only [Act.put, List.getElem_toArray, List.getElem_cons_zero, List.getElem_cons_succ, List.setIfInBounds_toArray, List.set_cons_zero, List.set_cons_succ]
    refine wpAnyH_ready (rs := [5, 9]) (by kernel_rfl) (by simp) ?_
    refine AllReadyH.cons rfl (fun K hK => ?_) (AllReadyH.one rfl rfl (fun K hK => ?_))
    · go_simp
      refine (HFD _ HT1.out).out.mono ?_
      rintro e V2 ⟨rfl, hi2, hf2⟩
      rw [her]
      have HI : Hid (FindInv G es st F V2) := Lib.hid hi2
      have HF2 := Lib.hid hf2
      clear hi2 hf2
      have hS2 := HKF.out _ _ G hS1 HL1.out (by have := HGW.out; omega) HF2.out
      have HF0 : Hid (Foot [G] [G] w V2) := Lib.hid ((Foot.ofBelow [G] HB1.out).trans HF2.out)
      go_wp2_with fail
      refine hK.out _ _ hS2 (fun hHeld2 => ?_)
      clear hK K
      try simp only [Act.put, List.getElem_toArray, List.getElem_cons_zero, List.getElem_cons_succ, List.setIfInBounds_toArray, List.set_cons_zero, List.set_cons_succ]
      refine wpAnyH_take (i := 6) (v := ?_) rfl (by kernel_rfl) (by kernel_rfl) (by kernel_rfl) (fun _ _ _ h => h) (Or.inl ⟨by rfl, ?_⟩) (by assumption) ?_
      rotate_left
      · (intro w hSw; go_simp; try (with_reducible rfl))
      try simp only [Act.put, List.getElem_toArray, List.getElem_cons_zero, List.getElem_cons_succ, List.setIfInBounds_toArray, List.set_cons_zero, List.set_cons_succ]
      refine wpAnyH_take (i := 7) (v := ?_) rfl (by kernel_rfl) (by kernel_rfl) (by kernel_rfl) (fun _ _ _ h => h) (Or.inl ⟨by rfl, ?_⟩) (by assumption) ?_
      rotate_left
      · (intro w hSw; go_simp; try (with_reducible rfl))
      try simp only [Act.put, List.getElem_toArray, List.getElem_cons_zero, List.getElem_cons_succ, List.setIfInBounds_toArray, List.set_cons_zero, List.set_cons_succ]
      refine wpAnyH_take (i := 8) (v := ?_) rfl (by kernel_rfl) (by kernel_rfl) (by kernel_rfl) (fun _ _ _ h => h) (Or.inl ⟨by rfl, ?_⟩) (by assumption) ?_
      rotate_left
      · (intro w hSw; go_simp; try (with_reducible rfl))
      try simp only [Act.put, List.getElem_toArray, List.getElem_cons_zero, List.getElem_cons_succ, List.setIfInBounds_toArray, List.set_cons_zero, List.set_cons_succ]
      have HL2a : Hid (w.heap.size < V2.heap.size) := Lib.hid (Nat.lt_of_lt_of_le HL1.out HF2.out.size)
      have hba : Below V2.heap.size V2 (V2.alloc (.cells zE 47)) := (Below.refl _ _).alloc (Nat.le_refl _) _
      have HI3 : Hid (FindInv G es st F (V2.alloc (.cells zE 47))) := Lib.hid (by obtain ⟨st', a1, a2, a3⟩ := HI.out; exact ⟨st', a1.below hba, a2, a3⟩)
      have HF3 : Hid (Foot [G] [G] w (V2.alloc (.cells zE 47))) := Lib.hid (HF0.out.trans (Foot.ofBelow [G] hba))
      have HE := Lib.hid (entT_zeroed V2)
      have HTL : Hid (w.heap.size < V2.heap.size) := HL2a
      have HTT : Hid (V2.heap.size < (V2.alloc (.cells zE 47)).heap.size) := Lib.hid (by simp)
      have HL2 : Hid (w.heap.size < (V2.alloc (.cells zE 47)).heap.size) := Lib.hid (by have := HL2a.out; simp; omega)
      have hS3 := HKB.out _ _ hS2 HL2a.out hba
      clear HI hba hS2 hHeld hHeld1 hHeld2 hS1
      refine wpAnyH_ready (rs := [9]) (by kernel_rfl) (by simp) ?_
      refine AllReadyH.one rfl rfl (fun K hK => ?_)
      go_wp2_with fail
      refine hK.out _ _ hS3 (fun hHeld3 => ?_)
      clear hK K
      try simp only [Act.put, List.getElem_toArray, List.getElem_cons_zero, List.getElem_cons_succ, List.setIfInBounds_toArray, List.set_cons_zero, List.set_cons_succ]
      refine wpAnyH_ready (rs := [10]) (by kernel_rfl) (by simp) ?_
      refine AllReadyH.one rfl rfl (fun K hK => ?_)
      refine wp_store_entT HE _ _ E16 rfl rfl rfl (fun HQ => ?_)
      refine hK.out _ _ (HKF.out _ _ _ (by assumption) HL2.out (by have := HTL.out; omega) (foot_cells _ _ _)) (fun hHeld9 => ?_)
      clear hK K
      try simp only [Act.put, List.getElem_toArray, List.getElem_cons_zero, List.getElem_cons_succ]
      refine wpAnyH_take (i := 11) (v := ?_) rfl (by kernel_rfl) (by kernel_rfl) (by kernel_rfl) (fun _ _ _ h => h) (Or.inl ⟨by rfl, ?_⟩) (by assumption) ?_
      rotate_left
      · (intro w hSw; go_simp; try (with_reducible rfl))
      try simp only [Act.put, List.getElem_toArray, List.getElem_cons_zero, List.getElem_cons_succ, List.setIfInBounds_toArray, List.set_cons_zero, List.set_cons_succ]
      refine wpAnyH_done (by kernel_rfl) ?_ _
      refine NoPanic.normal ?_
      have hv := HQ.out.val
      have HO := Lib.hid ((FIN _ _).out HI3.out HF3.out HTL.out HTT.out)
      cases et with
      | true =>
        have ER := HOF.out
        rw [if_pos rfl] at ER
        subst ER
        go_wp2_with fail
        go_ret
        exact HO.out
      | false =>
        have ER := HOF.out
        rw [if_neg (by decide)] at ER
        subst ER
        go_wp2_with fail
        go_ret
        exact HO.out
    · have hba : Below V1.heap.size V1 (V1.alloc (.cells zE 47)) := (Below.refl _ _).alloc (Nat.le_refl _) _
      have hS3 := HKB.out _ _ hS1 HL1.out hba
      have HE := Lib.hid (entT_zeroed V1)
      have HTL : Hid (w.heap.size < V1.heap.size) := HL1
      have HB2 := Lib.hid (chain HB1.out hba)
      have HTT : Hid (V1.heap.size < (V1.alloc (.cells zE 47)).heap.size) := Lib.hid (by simp)
      replace HT1 := Lib.hid (HT1.out.below hba)
      clear hba hS1 hHeld hHeld1 HB1 HL1
      go_wp2_with fail
      refine hK.out _ _ hS3 (fun hHeld3 => ?_)
      clear hK K
      try simp only [Act.put, List.getElem_toArray, List.getElem_cons_zero, List.getElem_cons_succ, List.setIfInBounds_toArray, List.set_cons_zero, List.set_cons_succ]
      generalize (V1.alloc (.cells zE 47)) = X at *
      generalize V1.heap.size = T at *
      refine wpAnyH_ready (rs := [5]) (by kernel_rfl) (by simp) ?_
      refine AllReadyH.cons rfl (fun K hK => ?_) AllReadyH.nil
      go_simp
      refine (HFD _ HT1.out).out.mono ?_
      rintro e V2 ⟨rfl, hi2, hf2⟩
      rw [her]
      have HI : Hid (FindInv G es st F V2) := Lib.hid hi2
      have HF2 := Lib.hid hf2
      clear hi2 hf2
      have hS2 := HKF.out _ _ G hS3 (by have := HTT.out; have := HTL.out; omega) (by have := HGW.out; omega) HF2.out
      have HF : Hid (Foot [G] [G] w V2) := Lib.hid ((Foot.ofBelow [G] HB2.out).trans HF2.out)
      replace HE := Lib.hid (HE.out.same HF2.out.size (HF2.out.keep T HTT.out (by have := HGW.out; have := HTL.out; simp; omega)))
      replace HTT : Hid (T < V2.heap.size) := Lib.hid (Nat.lt_of_lt_of_le HTT.out HF2.out.size)
      have HL2 : Hid (w.heap.size < V2.heap.size) := Lib.hid (by have := HTT.out; have := HTL.out; omega)
      clear HF2 HB2 HT1 hS3 hHeld3
      go_wp2_with fail
      refine hK.out _ _ hS2 (fun hHeld2 => ?_)
      clear hK K
      try simp only [Act.put, List.getElem_toArray, List.getElem_cons_zero, List.getElem_cons_succ, List.setIfInBounds_toArray, List.set_cons_zero, List.set_cons_succ]
      refine wpAnyH_take (i := 6) (v := ?_) rfl (by kernel_rfl) (by kernel_rfl) (by kernel_rfl) (fun _ _ _ h => h) (Or.inl ⟨by rfl, ?_⟩) (by assumption) ?_
      rotate_left
      · (intro w hSw; go_simp; try (with_reducible rfl))
      try simp only [Act.put, List.getElem_toArray, List.getElem_cons_zero, List.getElem_cons_succ, List.setIfInBounds_toArray, List.set_cons_zero, List.set_cons_succ]
      refine wpAnyH_take (i := 7) (v := ?_) rfl (by kernel_rfl) (by kernel_rfl) (by kernel_rfl) (fun _ _ _ h => h) (Or.inl ⟨by rfl, ?_⟩) (by assumption) ?_
      rotate_left
      · (intro w hSw; go_simp; try (with_reducible rfl))
      try simp only [Act.put, List.getElem_toArray, List.getElem_cons_zero, List.getElem_cons_succ, List.setIfInBounds_toArray, List.set_cons_zero, List.set_cons_succ]
      refine wpAnyH_take (i := 8) (v := ?_) rfl (by kernel_rfl) (by kernel_rfl) (by kernel_rfl) (fun _ _ _ h => h) (Or.inl ⟨by rfl, ?_⟩) (by assumption) ?_
      rotate_left
      · (intro w hSw; go_simp; try (with_reducible rfl))
      try simp only [Act.put, List.getElem_toArray, List.getElem_cons_zero, List.getElem_cons_succ, List.setIfInBounds_toArray, List.set_cons_zero, List.set_cons_succ]
      refine wpAnyH_ready (rs := [10]) (by kernel_rfl) (by simp) ?_
      refine AllReadyH.one rfl rfl (fun K hK => ?_)
      refine wp_store_entT HE _ _ E16 rfl rfl rfl (fun HQ => ?_)
      refine hK.out _ _ (HKF.out _ _ _ (by assumption) HL2.out (by have := HTL.out; omega) (foot_cells _ _ _)) (fun hHeld9 => ?_)
      clear hK K
      try simp only [Act.put, List.getElem_toArray, List.getElem_cons_zero, List.getElem_cons_succ]
      refine wpAnyH_take (i := 11) (v := ?_) rfl (by kernel_rfl) (by kernel_rfl) (by kernel_rfl) (fun _ _ _ h => h) (Or.inl ⟨by rfl, ?_⟩) (by assumption) ?_
      rotate_left
      · (intro w hSw; go_simp; try (with_reducible rfl))
      try simp only [Act.put, List.getElem_toArray, List.getElem_cons_zero, List.getElem_cons_succ, List.setIfInBounds_toArray, List.set_cons_zero, List.set_cons_succ]
      refine wpAnyH_done (by kernel_rfl) ?_ _
      refine NoPanic.normal ?_
      have hv := HQ.out.val
      have HO := Lib.hid ((FIN _ _).out HI.out HF.out HTL.out HTT.out)
      cases et with
      | true =>
        have ER := HOF.out
        rw [if_pos rfl] at ER
        subst ER
        go_wp2_with fail
        go_ret
        exact HO.out
      | false =>
        have ER := HOF.out
        rw [if_neg (by decide)] at ER
        subst ER
        go_wp2_with fail
        go_ret
        exact HO.out
  · have HAD := Lib.hid (HA.out.below (Below.refl _ _).drew)
    have HBD : Hid (Below w.heap.size w W.drew) := Lib.hid HBW.out.drew
    have HZD : Hid (W.drew.heap.size = w.heap.size + 1) := HSZ
    clear HA HBW HSZ HP
    generalize W.drew = V at *
    have hba : Below V.heap.size V (V.alloc (.cells zE 47)) := (Below.refl _ _).alloc (Nat.le_refl _) _
    have HLW : Hid (w.heap.size < V.heap.size) := Lib.hid (by have := HZD.out; omega)
    have hS0 := HKB.out _ _ HK.out HLW.out hba
    have HE0 := Lib.hid (entT_zeroed V)
    have HTL : Hid (w.heap.size < V.heap.size) := HLW
    have HB0 : Hid (Below w.heap.size w (V.alloc (.cells zE 47))) := Lib.hid (chain HBD.out hba)
    have HT00 : Hid (V.heap.size < (V.alloc (.cells zE 47)).heap.size) := Lib.hid (by simp)
    have HA0 := Lib.hid (HAD.out.below hba)
    clear hba hHeld HK HLW HAD HBD HZD
    go_wp2_with fail
    refine hK.out _ _ hS0 (fun hHeld0 => ?_)
    clear hK K
    try simp only [Act.put, List.getElem_toArray, List.getElem_cons_zero, List.getElem_cons_succ, List.setIfInBounds_toArray, List.set_cons_zero, List.set_cons_succ]
    generalize (V.alloc (.cells zE 47)) = X at *
    generalize V.heap.size = T at *
    refine wpAnyH_ready (rs := [4]) (by kernel_rfl) (by simp) ?_
    refine AllReadyH.cons rfl (fun K hK => ?_) AllReadyH.nil
    go_simp
    refine (HUM _).out.mono ?_
    rintro e V1 ⟨rfl, hb1⟩
    have HB2 : Hid (Below w.heap.size w V1) := Lib.hid (chain HB0.out hb1)
    have HT1 := Lib.hid (HA0.out.below hb1)
    have HL1 : Hid (w.heap.size < V1.heap.size) := Lib.hid (by have := hb1.size; have := HTL.out; have := HT00.out; omega)
    have hS1 := HKB.out _ _ hS0 (by have := HTL.out; have := HT00.out; omega) hb1
    have HE := Lib.hid (HE0.out.below hb1)
    have HTT : Hid (T < V1.heap.size) := Lib.hid (Nat.lt_of_lt_of_le HT00.out hb1.size)
    clear hb1 HUM HB0 HA0 HT00 HE0 hHeld0 hS0
    go_wp2_with fail
    refine hK.out _ _ hS1 (fun hHeld1 => ?_)
    clear hK K
    try simp only [Act.put, List.getElem_toArray, List.getElem_cons_zero, List.getElem_cons_succ, List.setIfInBounds_toArray, List.set_cons_zero, List.set_cons_succ]
    refine wpAnyH_ready (rs := [5]) (by kernel_rfl) (by simp) ?_
    refine AllReadyH.cons rfl (fun K hK => ?_) AllReadyH.nil
    go_simp
    refine (HFD _ HT1.out).out.mono ?_
    rintro e V2 ⟨rfl, hi2, hf2⟩
    rw [her]
    have HI : Hid (FindInv G es st F V2) := Lib.hid hi2
    have HF2 := Lib.hid hf2
    clear hi2 hf2
    have hS2 := HKF.out _ _ G hS1 HL1.out (by have := HGW.out; omega) HF2.out
    have HF : Hid (Foot [G] [G] w V2) := Lib.hid ((Foot.ofBelow [G] HB2.out).trans HF2.out)
    replace HE := Lib.hid (HE.out.same HF2.out.size (HF2.out.keep T HTT.out (by have := HGW.out; have := HTL.out; simp; omega)))
    replace HTT : Hid (T < V2.heap.size) := Lib.hid (Nat.lt_of_lt_of_le HTT.out HF2.out.size)
    have HL2 : Hid (w.heap.size < V2.heap.size) := Lib.hid (by have := HTT.out; have := HTL.out; omega)
    clear HF2 HB2 HT1 hS1 hHeld1
    go_wp2_with fail
    refine hK.out _ _ hS2 (fun hHeld2 => ?_)
    clear hK K
    try simp only [Act.put, List.getElem_toArray, List.getElem_cons_zero, List.getElem_cons_succ, List.setIfInBounds_toArray, List.set_cons_zero, List.set_cons_succ]
    refine wpAnyH_take (i := 6) (v := ?_) rfl (by kernel_rfl) (by kernel_rfl) (by kernel_rfl) (fun _ _ _ h => h) (Or.inl ⟨by rfl, ?_⟩) (by assumption) ?_
    rotate_left
    · (intro w hSw; go_simp; try (with_reducible rfl))
    try simp only [Act.put, List.getElem_toArray, List.getElem_cons_zero, List.getElem_cons_succ, List.setIfInBounds_toArray, List.set_cons_zero, List.set_cons_succ]
    refine wpAnyH_take (i := 7) (v := ?_) rfl (by kernel_rfl) (by kernel_rfl) (by kernel_rfl) (fun _ _ _ h => h) (Or.inl ⟨by rfl, ?_⟩) (by assumption) ?_
    rotate_left
    · (intro w hSw; go_simp; try (with_reducible rfl))
    try simp only [Act.put, List.getElem_toArray, List.getElem_cons_zero, List.getElem_cons_succ, List.setIfInBounds_toArray, List.set_cons_zero, List.set_cons_succ]
    refine wpAnyH_take (i := 8) (v := ?_) rfl (by kernel_rfl) (by kernel_rfl) (by kernel_rfl) (fun _ _ _ h => h) (Or.inl ⟨by rfl, ?_⟩) (by assumption) ?_
    rotate_left
    · (intro w hSw; go_simp; try (with_reducible rfl))
    try simp only [Act.put, List.getElem_toArray, List.getElem_cons_zero, List.getElem_cons_succ, List.setIfInBounds_toArray, List.set_cons_zero, List.set_cons_succ]
    refine wpAnyH_ready (rs := [10]) (by kernel_rfl) (by simp) ?_
    refine AllReadyH.one rfl rfl (fun K hK => ?_)
    refine wp_store_entT HE _ _ E16 rfl rfl rfl (fun HQ => ?_)
    refine hK.out _ _ (HKF.out _ _ _ (by assumption) HL2.out (by have := HTL.out; omega) (foot_cells _ _ _)) (fun hHeld9 => ?_)
    clear hK K
    try simp only [Act.put, List.getElem_toArray, List.getElem_cons_zero, List.getElem_cons_succ]
    refine wpAnyH_take (i := 11) (v := ?_) rfl (by kernel_rfl) (by kernel_rfl) (by kernel_rfl) (fun _ _ _ h => h) (Or.inl ⟨by rfl, ?_⟩) (by assumption) ?_
    rotate_left
    · (intro w hSw; go_simp; try (with_reducible rfl))
    try simp only [Act.put, List.getElem_toArray, List.getElem_cons_zero, List.getElem_cons_succ, List.setIfInBounds_toArray, List.set_cons_zero, List.set_cons_succ]
    refine wpAnyH_done (by kernel_rfl) ?_ _
    refine NoPanic.normal ?_
    have hv := HQ.out.val
    have HO := Lib.hid ((FIN _ _).out HI.out HF.out HTL.out HTT.out)
    cases et with
    | true =>
      have ER := HOF.out
      rw [if_pos rfl] at ER
      subst ER
      go_wp2_with fail
      go_ret
      exact HO.out
    | false =>
      have ER := HOF.out
      rw [if_neg (by decide)] at ER
      subst ER
      go_wp2_with fail
      go_ret
      exact HO.out
end Go.Proofs.YtgbajagacmfcmaaGreatDoor
/- The document's example holds: abatislaw07.lives. -/
namespace Go.Proofs.YtgbajagacmfcmaaGreatDoor
open Go.RowKit
set_option linter.unusedVariables false
set_option maxRecDepth 20000

theorem map_example : ofE (defE 11) (unmapF (mapF 4) (mapB 4 (b4 3232235521))) (unmapB (mapF 4) (mapB 4 (b4 3232235521))) = 1 := by kernel_rfl
theorem map_example_ok : (mapB 4 (b4 3232235521)).length = 16 ∧ ∀ x ∈ mapB 4 (b4 3232235521), x < 256 := by
  have e : mapB 4 (b4 3232235521) = [0, 0, 0, 0, 0, 0, 0, 0, 0, 0, 255, 255, 192, 168, 0, 1] := by kernel_rfl
  rw [e]
  exact ⟨rfl, by decide⟩
set_option maxRecDepth 100000 in
set_option maxHeartbeats 1000000 in
theorem lives7_any (w : World) (ht : Tabs w) : Calls Tryz.prog 10 #[] w fun e w' => e = .returned (.bool true) ∧ Below w.heap.size w w' := by
  have HDE := Lib.hid (default_any w ht)
  have HO4 := fun W => Lib.hid (refOf4_any 3232235521 W (by decide))
  have HMA := fun W => Lib.hid (refMap_any 4 (b4 3232235521) W (b4_len _) (b4_lt _))
  have HOF := fun W G F (h : TabAt W G (defE 11) 0 F) => Lib.hid (mapOf_any G (defE 11) 0 F (mapF 4) (mapB 4 (b4 3232235521)) W h map_example_ok.1 map_example_ok.2 (by decide) (by decide))
  rw [map_example] at HOF
  generalize mapF 4 = mf at *
  generalize mapB 4 (b4 3232235521) = mb at *
  obtain ⟨ab, hab⟩ : ∃ ab, b4 3232235521 = ab := ⟨_, rfl⟩
  rw [hab] at HO4 HMA
  clear ht hab
  generalize defE 11 = es at *
  go_enter Tryz.func10, Tryz.ntmps10
  go_wp2_with fail
  refine HDE.out.mono ?_
  rintro e w1 ⟨G, F, rfl, hT, hF, hb⟩
  have HT := Lib.hid hT
  have HF := Lib.hid hF
  have HB := Lib.hid hb
  clear hT hF hb HDE
  go_wp2_with fail
  refine (HO4 _).out.mono ?_
  rintro e w2 ⟨rfl, hb⟩
  replace HT := Lib.hid (HT.out.below hb)
  replace HB := Lib.hid (chain HB.out hb)
  clear hb HO4
  go_wp2_with fail
  refine (HMA _).out.mono ?_
  rintro e w3 ⟨rfl, hb⟩
  replace HT := Lib.hid (HT.out.below hb)
  replace HB := Lib.hid (chain HB.out hb)
  clear hb HMA
  go_wp2_with fail
  refine (HOF _ G F HT.out).out.mono ?_
  rintro e w4 ⟨rfl, hi, hf⟩
  have HB4 := Lib.hid (HB.out.trans (hf.below (B := w.heap.size) (by have := HF.out G HT.out.lt.1; simpa using this) HB.out.size))
  clear hi hf HOF HB HT
  go_wp2_with fail
  go_ret
  exact ⟨rfl, HB4.out⟩
end Go.Proofs.YtgbajagacmfcmaaGreatDoor
/- What the laws of layer 7 lean on: maps of rows that came in; Of and Len, as the laws call them. -/
namespace Go.Proofs.YtgbajagacmfcmaaGreatDoor
open Go.RowKit
set_option linter.unusedVariables false
set_option maxRecDepth 20000

theorem flatR_app (xs ys : List Raw) : flatR (xs ++ ys) = flatR xs ++ flatR ys := by simp [flatR]
theorem newA_take (D : List Raw) (k : Nat) (hk : k ≤ D.length) : newA (D.take k) (D.take k).length = newA D k := by
  unfold newA
  rw [List.take_length]
theorem mapNew_raws (a : Option Addr) (len cap : Nat) (D : List Raw) (w : World) (h : RawsAt w a len cap D) (k : Nat) (hk : k ≤ len) (hle : k ≤ 900) :
    Calls Tryz.prog 13 #[.slice a k cap] w fun e w' => ∃ G F, e = .returned (.pointer (some ⟨G, 0, none⟩)) ∧ TabAt w' G (newA D k) 0 F ∧ (∀ j ∈ F, w.heap.size ≤ j) ∧ Below w.heap.size w w' := by
  obtain ⟨hc1, hc2, hl, hok, hrow⟩ := h
  by_cases h0 : k = 0
  · subst h0
    exact mapNew_nil a cap w
  · rcases hrow with h | ⟨g, o, rfl, hr, hg⟩
    · omega
    · have hlk : (D.take k).length = k := by rw [List.length_take]; omega
      have := mapNew_some g o cap (D.take k) w (fun j u hu => hr j u (by
        show (flatR D)[j]? = some u
        have hj := (List.getElem?_eq_some_iff.1 hu).1
        rw [← List.take_append_drop k D, flatR_app, List.getElem?_append_left hj]
        exact hu)) hg (fun r hr => hok r (List.mem_of_mem_take hr)) (by omega)
      rw [newA_take D k (by omega), hlk] at this
      exact this
theorem mapLen_any (G : Nat) (es : List Ent) (st : Int) (F : List Nat) (w : World) (h : TabAt w G es st F) :
    Calls Tryz.prog 9 #[.pointer (some ⟨G, 0, none⟩)] w fun e w' => e = .returned (.int .i64 (es.length : Int)) ∧ w' = w := by
  obtain ⟨v, rfl, hT, hR, _, _⟩ := h
  exact tabLen_any G v st es w hT hR
/-- Of, at a table of few steps. -/
theorem mapOf_few (G : Nat) (es : List Ent) (st : Int) (F : List Nat) (f : Int) (us : List Nat) (w : World) (hA : TabAt w G es st F) (h16 : us.length = 16) (hlt : ∀ y ∈ us, y < 256) (h0 : 0 ≤ st) (h1 : st ≤ 700000) (hle : es.length ≤ 1000) :
    Calls Tryz.prog 7 #[.pointer (some ⟨G, 0, none⟩), addrV f us] w fun e w' => e = .returned (.int .i64 (ofE es (unmapF f us) (unmapB f us))) ∧ (∃ st', TabAt w' G es st' F ∧ 0 ≤ st' ∧ st' ≤ st + 1419) ∧ Foot [G] [G] w w' :=
  (mapOf_any G es st F f us w hA h16 hlt h0 (by omega)).mono fun e w' ⟨h2, ⟨st', h3, h4, h5⟩, h6⟩ => ⟨h2, ⟨st', h3, by omega, by have := bl_small hle; omega⟩, h6⟩
theorem HeldL.foot {L : List (Nat × Nat × List Value)} {F F' : List Nat} {w w' : World} (h : HeldL L w) (hf : Foot F F' w w') (hl : ∀ x ∈ L, x.1 < w.heap.size ∧ x.1 ∉ F) : HeldL L w' := fun x hx => range_foot hf (h x hx) (hl x hx).1 (hl x hx).2
theorem HeldL.below {L : List (Nat × Nat × List Value)} {w w' : World} (h : HeldL L w) (hb : Below w.heap.size w w') (hl : ∀ x ∈ L, x.1 < w.heap.size) : HeldL L w' := fun x hx => range_belowB (h x hx) hb (hl x hx)
end Go.Proofs.YtgbajagacmfcmaaGreatDoor
/- What a tied card over strconv's three tables gives a walk: the table of powers of ten, in whatever later world. -/
namespace Go.Proofs.YtgbajagacmfcmaaGreatDoor
open Go.ChangeShapes Go.WideShapes Go.ChangeAt Go.RowKit
set_option linter.unusedVariables false
set_option maxRecDepth 20000

theorem gPow : Tryz.prog.globalNamed "internal/strconv.uint64pow10" = some 1 := by kernel_rfl
theorem tPow : (Tryz.prog.globals[1]?).map (·.type) = some 137 := by kernel_rfl
theorem dPow : (Rows.laid_internal_strconv_uint64pow10 : DataW Unit) = Lib.tabData .u64 Lib.pow10Tab := by kernel_rfl
theorem of_laid {W : World} (L) (hL : L = [("math/bits.deBruijn32tab", Rows.laid_math_bits_deBruijn32tab), ("math/bits.deBruijn64tab", Rows.laid_math_bits_deBruijn64tab), ("internal/strconv.uint64pow10", Rows.laid_internal_strconv_uint64pow10)]) (h : laidMetH Tryz.prog L W) :
    ∀ w', Below W.heap.size W w' → Lib.TabIs Tryz.prog w' "internal/strconv.uint64pow10" .u64 Lib.pow10Tab := by
  subst hL
  rw [MakeChecks.laidMetH_plain _ _ _ (by kernel_rfl)] at h
  obtain ⟨ps, ⟨g0, t0, cs0, f0, p0, q0, hg0, ht0, hv0, hd0, ⟨g1, t1, cs1, f1, p1, q1, hg1, ht1, hv1, hd1, ⟨g2, t2, cs2, f2, p2, q2, hg2, ht2, hv2, hd2, _, _⟩, _⟩, _⟩, _, _⟩ := h
  obtain rfl := Option.some.inj (gPow.symm.trans hg2)
  obtain rfl := Option.some.inj (tPow.symm.trans ht2)
  rw [dPow] at hd2
  have hcs := Lib.cells_of_tab Tryz.underlying137 Tryz.underlying123 (by kernel_rfl) (by kernel_rfl) hd2
  have htab : Lib.TabIs Tryz.prog W "internal/strconv.uint64pow10" .u64 Lib.pow10Tab := by
    unfold Lib.TabIs
    rw [hv2, ← hcs]
  intro w' hb
  have hc := htab.cell gPow 0 (by rw [Lib.pow10Tab_length]; decide)
  have hlt : 1 < W.heap.size := by
    rcases Nat.lt_or_ge 1 W.heap.size with h | h
    · exact h
    · simp [World.cell?, Array.getElem?_eq_none h] at hc
  exact var?_below hb gPow hlt htab
end Go.Proofs.YtgbajagacmfcmaaGreatDoor
/- What a tied card over three tables of the library, and the world's shape, give a walk: the tables' cells, and that MaxLen holds some number. -/
namespace Go.Proofs.YtgbajagacmfcmaaGreatDoor
open Go.ChangeShapes Go.WideShapes Go.ChangeAt Go.RowKit
set_option linter.unusedVariables false
set_option maxRecDepth 20000

def bruTab : List Int := [0, 1, 56, 2, 57, 49, 28, 3, 61, 58, 42, 50, 38, 29, 17, 4, 62, 47, 59, 36, 45, 43, 51, 22, 53, 39, 33, 30, 24, 18, 12, 5, 63, 55, 48, 27, 60, 41, 37, 16, 46, 35, 44, 21, 52, 32, 23, 11, 54, 26, 40, 15, 34, 20, 31, 10, 25, 14, 19, 9, 13, 8, 7, 6]
theorem gBru : Tryz.prog.globalNamed "math/bits.deBruijn64tab" = some 3 := by kernel_rfl
theorem tBru : (Tryz.prog.globals[3]?).map (·.type) = some 142 := by kernel_rfl
theorem dBru : (Rows.laid_math_bits_deBruijn64tab : DataW Unit) = Lib.tabData .u8 bruTab := by kernel_rfl
theorem max_of {W : World} (hsh : W.ShapedOpen Tryz.prog) : ∃ m, W.cell? ⟨0, 0, none⟩ = some (.int .i64 m) :=
  cell_of_shapedOpen_int (P := Tryz.prog) (t := 3) (zero := #[.int .i64 0]) hsh (by decide +kernel) (by kernel_rfl) rfl (by kernel_rfl) (by kernel_rfl) Tryz.underlying3
theorem tabs_of {W : World} (L) (hL : L = [("math/bits.deBruijn32tab", Rows.laid_math_bits_deBruijn32tab), ("math/bits.deBruijn64tab", Rows.laid_math_bits_deBruijn64tab), ("internal/strconv.uint64pow10", Rows.laid_internal_strconv_uint64pow10)]) (h : laidMetH Tryz.prog L W) (hsh : W.ShapedOpen Tryz.prog) : Tabs W := by
  refine ⟨of_laid L hL h W (Below.refl _ _), ?_, max_of hsh⟩
  subst hL
  rw [MakeChecks.laidMetH_plain _ _ _ (by kernel_rfl)] at h
  obtain ⟨ps, ⟨g0, t0, cs0, f0, p0, q0, hg0, ht0, hv0, hd0, ⟨g1, t1, cs1, f1, p1, q1, hg1, ht1, hv1, hd1, _, _⟩, _⟩, _, _⟩ := h
  obtain rfl := Option.some.inj (gBru.symm.trans hg1)
  obtain rfl := Option.some.inj (tBru.symm.trans ht1)
  rw [dBru] at hd1
  have hcs := Lib.cells_of_tab Tryz.underlying142 Tryz.underlying5 (by kernel_rfl) (by kernel_rfl) hd1
  have htab : Lib.TabIs Tryz.prog W "math/bits.deBruijn64tab" .u8 bruTab := by
    unfold Lib.TabIs
    rw [hv1, ← hcs]
  exact htab.cell gBru 15 (by decide)

/-- The row's step, with the world's shape handed to the walk. -/
theorem handed_shaped {H : Type} {enc : TypeId × Value → H} {a : Assume} {C : Checked} {os : Os} {f : FuncId} {fn : Func} {s : ChangeSpec} {conds : List PathCond} {apart fresh handsOn again : Bool} {X : World → Array Value → Prop}
    (hX : ∀ (w w' : World) (args : Array Value), w.heap = w'.heap → X w args → X w' args)
    (own : ownKnob C.prog.godebug = none) (started : os.Started) (noInit : C.prog.inits.idxOf? f = none) (hfn : C.prog.funcs[f]? = some fn)
    (witness : ∃ (w : World) (tape : Tape) (i : Input), w.os = os ∧ (w.forCall tape i).Shaped C.prog ∧ i.vars = [] ∧ Input.okWide C.prog (w.forCall tape i) .any w.heap.size f i ∧
      ((s.pre enc C.prog fn conds apart (w.forCall tape i).memory i.args ∧ X (w.forCall tape i).memory i.args) ∧ sizedMet enc C.prog fn (OpenSpec.ofChange s) apart (w.forCall tape i).memory i.args) ∧ a.holds C.prog (lone (Frame.enter C.prog f i.args .normal) [] (w.forCall tape i)))
    (contract : ∀ (W : World) (base : Nat) (args : Array Value) (ds gs : List (DataW H)) (before : List MemPlace),
      (∀ (j : Nat) t v, fn.params[j]? = some t → args[j]? = some v → Value.okWide C.prog W .any base t v) →
      DataW.Whole enc C.prog fn.params.toList s.vars apart W args.toList ds gs before → X W args → W.ShapedOpen C.prog →
      Calls C.prog f args W fun e W' => ∃ v, e = .returned v ∧ s.post enc C.prog fn apart fresh handsOn again W args v W') :
    ReturnsInHanded a C os f .any (fun w args => (s.pre enc C.prog fn conds apart w args ∧ X w args) ∧ sizedMet enc C.prog fn (OpenSpec.ofChange s) apart w args) (s.post enc C.prog fn apart fresh handsOn again) := by
  refine returnsInHanded_of_calls own started noInit witness fun w tape i _ hsh _ hok hpre _ => ?_
  obtain ⟨_, _, _, fn', hfn', _, _, _, _, hval⟩ := hok
  obtain rfl : fn' = fn := Option.some.inj (hfn'.symm.trans hfn)
  obtain ⟨⟨⟨ds, gs, before, hw, _⟩, hx⟩, _⟩ := hpre
  refine (contract _ _ i.args ds gs before hval (DataW.Whole.of_heap (w' := w.forCall tape i) (by rfl) hw) (hX _ _ _ (by rfl) hx) hsh).mono fun e W' ⟨v, he, hp⟩ => ?_
  subst he
  exact ChangeSpec.post_blind hp

/-- An array of groups that came in, as the list of its numbers. -/
theorem groups_of (z0 : List Int) (l0 : z0.length = 8) (w0 : ∀ z ∈ z0, (Lit.int .u16 z).wf = true) : ∃ gs : List Nat, gs.length = 8 ∧ (∀ x ∈ gs, x < 65536) ∧ Value.agg (z0.map (Value.int .u16)).toArray = arr8 gs := by
  refine ⟨z0.map Int.toNat, by simpa using l0, ?_, ?_⟩
  · intro x hx
    obtain ⟨z, hz, rfl⟩ := List.mem_map.1 hx
    have := bounds_u16 (w0 z hz)
    omega
  · unfold arr8
    rw [List.map_map]
    congr 2
    apply List.map_congr_left
    intro z hz
    have := bounds_u16 (w0 z hz)
    show Value.int .u16 z = Value.int .u16 ((z.toNat : Nat) : Int)
    congr 1
    omega
end Go.Proofs.YtgbajagacmfcmaaGreatDoor

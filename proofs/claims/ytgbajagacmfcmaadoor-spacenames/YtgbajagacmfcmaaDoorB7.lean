/- Texts that belong together, one behind the other: CidrMask, CidrMayOwn, TabOwn, TabSet, TabNew, OpenEnts, TabFindMath, RangeKit, RangeLaw, TabAll, TabHaving, TabSeq, TabLike, TabFind. -/
import Derived.Test.YtgbajagacmfcmaaDoorB6
import Derived.RangeFuncCalls
import Derived.RangeFuncSeq
import Derived.RangeFuncIn
import Derived.OrdersIn
import Derived.TacticsIn
import Derived.Deep.RegionHeld3
import Derived.Lib.SliceRun
/- Contract of cidr.Mask. -/
namespace Go.Proofs.YtgbajagacmfcmaaDoor
open Go.RowKit
set_option linter.unusedVariables false
set_option maxRecDepth 20000

theorem PrefAt.at {w : World} {G : Nat} {f : Int} {bs : List Nat} {n m : Int} (h : PrefAt w G f bs n) (e : n = m) : PrefAt w G f bs m := e ▸ h
set_option maxRecDepth 100000 in
set_option maxHeartbeats 1000000 in
theorem cidrMask_any (f : Int) (bs : List Nat) (n : Int) (w : World) (h16 : bs.length = 16) (hlt : ∀ x ∈ bs, x < 256) (hn : (Lit.int .i64 n).wf = true) :
    Calls Tryd.prog 65 #[addrV f bs, .int .i64 n] w fun e w' => e = .returned (prefV f (withL (bitsN f) bs (maskN f n) 0) (maskN f n)) ∧ Below w.heap.size w w' := by
  have H16 := Lib.hid h16
  have HLT := Lib.hid hlt
  have HN := bitsN_le f
  have hmN := maskN_le f n
  have HM := Lib.hid (maskN_max f n)
  have HBI := fun W => Lib.hid (addrBits_any f bs W h16)
  have HBT := fun W (k : Nat) (hk : k ≤ 128) => Lib.hid (addrBit_any f bs (k : Int) W h16 hlt (wf_small (by omega)))
  obtain ⟨cs, ecs, HA, HB⟩ := addr_boxed f bs w h16
  have HR := pref_zeroed (w.alloc (.cells cs 25))
  rw [heap_alloc] at HR
  have HRH := Lib.hid HR
  have HA1 := Lib.hid (HA.out.alloc (.cells zP 27))
  have HB1 := Lib.hid (HB.out.alloc HB.out.size (.cells zP 27))
  rw [ecs]
  have HWL : Hid (∀ k, withL (bitsN f) bs k 0 = withL (bitsN f) bs k 0) := Lib.hid (fun _ => rfl)
  have HBA : Hid (∀ k : Nat, k < bitsN f → bitN f bs (k : Int) = bitA bs k) := Lib.hid (fun k hk => bitN_A f bs k hk)
  have HW0 := Lib.hid (withL_zero (bitsN f) bs)
  generalize maskN f n = m at *
  generalize bitsN f = N at *
  have HLZ : Hid ((List.replicate 16 0).length = 16) := Lib.hid rfl
  have HZP := fun W : World => Lib.hid (pref_zeroed W)
  clear ecs h16 hlt HA HB HR
  go_enter Tryd.func65, Tryd.ntmps65
  go_upto_region 1 with fail
  generalize ((w.alloc (.cells cs 25)).alloc (.cells zP 27)) = W at *
  go_cut [5] from 7 (fun s5 wx => ∃ G : Nat, s5 = .pointer (some ⟨G, 0, none⟩) ∧ Hid (w.heap.size + 1 < G) ∧ Hid (PrefAt wx G f (List.replicate 16 0) (m : Int)) ∧ Hid (AddrAt wx w.heap.size f bs) ∧ Hid (PrefAt wx (w.heap.size + 1) 0 (List.replicate 16 0) 0) ∧ Hid (Below w.heap.size w wx))
  case first =>
    obtain ⟨L, hL⟩ : ∃ L, [(w.heap.size, 0, addrL f bs)] = L := ⟨_, rfl⟩
    have HK := Lib.hid (show HeldR L w W by rw [← hL]; exact (HeldR.nil HB1.out).addr HA1.out)
    have Mt2 := Lib.hid (show InA L w.heap.size f bs from ⟨by rw [← hL]; simp, H16.out⟩)
    have HNE : Hid (∀ R : Nat, w.heap.size < R → ∀ x ∈ L, x.1 ≠ R) := Lib.hid (by rw [← hL]; intro R hR x hx; simp at hx; rcases hx with rfl; simp; omega)
    have Cf := Lib.hid (famR (show InA L w.heap.size f bs from ⟨by rw [← hL]; simp, H16.out⟩) w)
    clear hL
    have C1 : ∀ w', HeldR L w w' → Hid (Calls Tryd.prog 63 #[addrV f bs] w' fun e w'' => e = .returned (.int .i64 ((N : Nat) : Int)) ∧ Below w'.heap.size w' w'') := fun w' h => HBI w'
    clear HBI
    replace HRH := Lib.hid (HRH.out.below (Below.refl _ _).drew)
    replace HA1 := Lib.hid (HA1.out.below (Below.refl _ _).drew)
    refine wp_region_noPanic ?_
    refine wp_region_held_drew (S := HeldR L w) (by kernel_rfl) HK.out.drew (fun hHeld => ?_)
    clear HK
    generalize W.drew = V at *
    refine wpAnyH_take (i := 0) (v := ?_) rfl (by kernel_rfl) (by kernel_rfl) (by kernel_rfl) (fun _ _ _ h => h) (Or.inl ⟨by rfl, ?_⟩) (by assumption) ?_
    rotate_left
    · (intro w hSw; go_simp; try (with_reducible rfl))
    try simp only [Act.put, List.getElem_toArray, List.getElem_cons_zero, List.setIfInBounds_toArray, List.set_cons_zero, List.set_cons_succ]
    refine wpAnyH_take (i := 1) (v := ?_) rfl (by kernel_rfl) (by kernel_rfl) (by kernel_rfl) (fun _ _ _ h => h) (Or.inl ⟨by rfl, ?_⟩) (by assumption) ?_
    rotate_left
    · (intro w hSw; have hc0 := Cf.out w hSw; go_simp; try (with_reducible rfl))
    try simp only [Act.put, List.getElem_toArray, List.getElem_cons_zero, List.getElem_cons_succ, List.setIfInBounds_toArray, List.set_cons_zero, List.set_cons_succ]
    refine wpAnyH_take (i := 2) rfl (by kernel_rfl) (by kernel_rfl) (by kernel_rfl) (fun _ _ _ h => h) (yields_build_fam (by rfl) _ rfl rfl) (by assumption) ?_
    try simp only [Act.put, List.getElem_toArray, List.getElem_cons_zero, List.getElem_cons_succ, List.setIfInBounds_toArray, List.set_cons_zero, List.set_cons_succ]
    refine wpAnyH_take (i := 3) (v := ?_) rfl (by kernel_rfl) (by kernel_rfl) (by kernel_rfl) (fun _ _ _ h => h) (Or.inl ⟨by rfl, ?_⟩) (by assumption) ?_
    rotate_left
    · (intro w hSw; go_simp; try (with_reducible rfl))
    try simp only [Act.put, List.getElem_toArray, List.getElem_cons_zero, List.getElem_cons_succ, List.setIfInBounds_toArray, List.set_cons_zero, List.set_cons_succ]
    refine wpAnyH_take (i := 4) (v := ?_) rfl (by kernel_rfl) (by kernel_rfl) (by kernel_rfl) (fun _ _ _ h => h) (Or.inl ⟨by rfl, ?_⟩) (by assumption) ?_
    rotate_left
    · (intro w hSw; go_simp; try (with_reducible rfl))
    try simp only [Act.put, List.getElem_toArray, List.getElem_cons_zero, List.getElem_cons_succ, List.setIfInBounds_toArray, List.set_cons_zero, List.set_cons_succ]
    refine wpAnyH_take (i := 5) rfl (by kernel_rfl) (by kernel_rfl) (by kernel_rfl) (fun _ _ _ h => h) (yields_addr Mt2 (by rfl) _ rfl rfl) (by assumption) ?_
    try simp only [Act.put, List.getElem_toArray, List.getElem_cons_zero, List.getElem_cons_succ, List.setIfInBounds_toArray, List.set_cons_zero, List.set_cons_succ]
    obtain ⟨z, hz⟩ : ∃ z, (if n < 0 then 0 else n) = z := ⟨_, rfl⟩
    have hz2 : max n 0 = z := by rw [← hz]; split <;> omega
    first | rw [hz] | rw [hz2]
    have HZZ : Hid (z = max n 0) := Lib.hid hz2.symm
    clear hz2
    clear hz
    refine wpAnyH_ready (rs := [6, 9]) (by kernel_rfl) (by simp) ?_
    refine AllReadyH.cons rfl (fun K hK => ?_) (AllReadyH.one rfl rfl (fun K hK => ?_))
    · go_simp
      refine (C1 _ (by assumption)).out.mono ?_
      rintro e wr6 ⟨rfl, hb6⟩
      replace HRH := Lib.hid (HRH.out.below hb6)
      replace HA1 := Lib.hid (HA1.out.below hb6)
      have hS6 := HeldR.next (by assumption) hb6
      clear hb6
      go_wp2_with fail
      refine hK.out _ _ hS6 (fun hHeld => ?_)
      clear hK K
      try simp only [Act.put, List.getElem_toArray, List.getElem_cons_zero, List.getElem_cons_succ, List.setIfInBounds_toArray, List.set_cons_zero, List.set_cons_succ]
      refine wpAnyH_take (i := 7) (v := ?_) rfl (by kernel_rfl) (by kernel_rfl) (by kernel_rfl) (fun _ _ _ h => h) (Or.inl ⟨by rfl, ?_⟩) (by assumption) ?_
      rotate_left
      · (intro w hSw; go_simp; try (with_reducible rfl))
      try simp only [Act.put, List.getElem_toArray, List.getElem_cons_zero, List.getElem_cons_succ, List.setIfInBounds_toArray, List.set_cons_zero, List.set_cons_succ]
      obtain ⟨y, hy⟩ : ∃ y, (if (N : Int) < z then (N : Int) else z) = y := ⟨_, rfl⟩
      have hy2 : min z (N : Int) = y := by rw [← hy]; split <;> omega
      have hy3 : min (N : Int) z = y := by rw [← hy]; split <;> omega
      first | rw [hy] | rw [hy2] | rw [hy3]
      have HYM : Hid (y = (m : Int)) := Lib.hid (by rw [← HM.out, ← HZZ.out, ← hy2])
      clear hy2 hy3
      clear hy
      refine wpAnyH_take (i := 8) rfl (by kernel_rfl) (by kernel_rfl) (by kernel_rfl) (fun _ _ _ h => h) (yields_build_pref HLZ (by rfl) _ _ rfl rfl rfl) (by assumption) ?_
      try simp only [Act.put, List.getElem_toArray, List.getElem_cons_zero, List.getElem_cons_succ, List.setIfInBounds_toArray, List.set_cons_zero, List.set_cons_succ]
      refine wpAnyH_ready (rs := [9]) (by kernel_rfl) (by simp) ?_
      refine AllReadyH.one rfl rfl (fun K hK => ?_)
      go_wp2_with fail
      refine hK.out _ _ (HeldR.next (by assumption) ((Below.refl _ _).alloc (Nat.le_refl _) _)) (fun hHeld => ?_)
      clear hK K
      try simp only [Act.put, List.getElem_toArray, List.getElem_cons_zero, List.getElem_cons_succ, List.setIfInBounds_toArray, List.set_cons_zero, List.set_cons_succ]
      have HZ := HZP wr6
      have GL := HRH.out.addr.lt
      replace HRH := Lib.hid (HRH.out.alloc (.cells zP 27))
      replace HA1 := Lib.hid (HA1.out.alloc (.cells zP 27))
      refine wpAnyH_ready (rs := [10]) (by kernel_rfl) (by simp) ?_
      refine AllReadyH.one rfl rfl (fun K hK => ?_)
      refine wp_store_pref HZ _ _ HLZ rfl rfl rfl (fun HQ => ?_)
      refine hK.out _ _ (HeldR.store (by assumption) _ (by omega) (HNE.out _ (by omega))) (fun hHeld2 => ?_)
      clear hK K
      try simp only [Act.put, List.getElem_toArray, List.getElem_cons_zero, List.getElem_cons_succ]
      refine wpAnyH_done (by kernel_rfl) ?_ _
      refine NoPanic.normal ?_
      go_wp2_with fail
      go_meet
      case rel => exact ⟨wr6.heap.size, rfl, Lib.hid GL, Lib.hid (HQ.out.at HYM.out), Lib.hid (HA1.out.apart (by omega) _), Lib.hid (HRH.out.apart (by omega) _), Lib.hid hHeld2.bel⟩
    · go_wp2_with fail
      refine hK.out _ _ (HeldR.next (by assumption) ((Below.refl _ _).alloc (Nat.le_refl _) _)) (fun hHeld => ?_)
      clear hK K
      try simp only [Act.put, List.getElem_toArray, List.getElem_cons_zero, List.getElem_cons_succ, List.setIfInBounds_toArray, List.set_cons_zero, List.set_cons_succ]
      have HZ := HZP V
      have GL := HRH.out.addr.lt
      replace HRH := Lib.hid (HRH.out.alloc (.cells zP 27))
      replace HA1 := Lib.hid (HA1.out.alloc (.cells zP 27))
      generalize V.heap.size = GV at *
      generalize V.alloc (.cells zP 27) = V2 at *
      refine wpAnyH_ready (rs := [6]) (by kernel_rfl) (by simp) ?_
      refine AllReadyH.cons rfl (fun K hK => ?_) AllReadyH.nil
      go_simp
      refine (C1 _ (by assumption)).out.mono ?_
      rintro e wr6 ⟨rfl, hb6⟩
      replace HRH := Lib.hid (HRH.out.below hb6)
      replace HA1 := Lib.hid (HA1.out.below hb6)
      replace HZ := Lib.hid (HZ.out.below hb6)
      have hS6 := HeldR.next (by assumption) hb6
      clear hb6
      go_wp2_with fail
      refine hK.out _ _ hS6 (fun hHeld => ?_)
      clear hK K
      try simp only [Act.put, List.getElem_toArray, List.getElem_cons_zero, List.getElem_cons_succ, List.setIfInBounds_toArray, List.set_cons_zero, List.set_cons_succ]
      refine wpAnyH_take (i := 7) (v := ?_) rfl (by kernel_rfl) (by kernel_rfl) (by kernel_rfl) (fun _ _ _ h => h) (Or.inl ⟨by rfl, ?_⟩) (by assumption) ?_
      rotate_left
      · (intro w hSw; go_simp; try (with_reducible rfl))
      try simp only [Act.put, List.getElem_toArray, List.getElem_cons_zero, List.getElem_cons_succ, List.setIfInBounds_toArray, List.set_cons_zero, List.set_cons_succ]
      obtain ⟨y, hy⟩ : ∃ y, (if (N : Int) < z then (N : Int) else z) = y := ⟨_, rfl⟩
      have hy2 : min z (N : Int) = y := by rw [← hy]; split <;> omega
      have hy3 : min (N : Int) z = y := by rw [← hy]; split <;> omega
      first | rw [hy] | rw [hy2] | rw [hy3]
      have HYM : Hid (y = (m : Int)) := Lib.hid (by rw [← HM.out, ← HZZ.out, ← hy2])
      clear hy2 hy3
      clear hy
      refine wpAnyH_take (i := 8) rfl (by kernel_rfl) (by kernel_rfl) (by kernel_rfl) (fun _ _ _ h => h) (yields_build_pref HLZ (by rfl) _ _ rfl rfl rfl) (by assumption) ?_
      try simp only [Act.put, List.getElem_toArray, List.getElem_cons_zero, List.getElem_cons_succ, List.setIfInBounds_toArray, List.set_cons_zero, List.set_cons_succ]
      refine wpAnyH_ready (rs := [10]) (by kernel_rfl) (by simp) ?_
      refine AllReadyH.one rfl rfl (fun K hK => ?_)
      refine wp_store_pref HZ _ _ HLZ rfl rfl rfl (fun HQ => ?_)
      refine hK.out _ _ (HeldR.store (by assumption) _ (by omega) (HNE.out _ (by omega))) (fun hHeld2 => ?_)
      clear hK K
      try simp only [Act.put, List.getElem_toArray, List.getElem_cons_zero, List.getElem_cons_succ]
      refine wpAnyH_done (by kernel_rfl) ?_ _
      refine NoPanic.normal ?_
      go_wp2_with fail
      go_meet
      case rel => exact ⟨GV, rfl, Lib.hid GL, Lib.hid (HQ.out.at HYM.out), Lib.hid (HA1.out.apart (by omega) _), Lib.hid (HRH.out.apart (by omega) _), Lib.hid hHeld2.bel⟩
  case rest =>
    obtain ⟨G, rfl, HGG, HP2, HA2, HR2, HB2⟩ := hcut
    clear HA1 HRH HB1 HBI HZP HWL
    have HP3 : Hid (PrefAt wc G f (withL N bs 0 0) (m : Int)) := Lib.hid (by rw [HW0.out]; exact HP2.out)
    have hbits := HP2.out.bits
    clear HP2
    go_wp2_with fail
    go_loopw [18] (fun i wr => ∃ k : Nat, k ≤ m ∧ i = .int .i64 (k : Int) ∧ Hid (PrefAt wr G f (withL N bs k 0) (m : Int)) ∧ Hid (AddrAt wr w.heap.size f bs) ∧ Hid (PrefAt wr (w.heap.size + 1) 0 (List.replicate 16 0) 0) ∧ Hid (Below w.heap.size w wr)) (fun i _ => 128 - (intOf i).toNat)
    case atStart => exact ⟨0, by omega, rfl, HP3, HA2, HR2, HB2⟩
    case round =>
      obtain ⟨k, hk, rfl, HP4, HA4, HR4, HB4⟩ := hrel
      clear HP3 HA2 HR2 HB2 hbits
      have hk128 : k ≤ 128 := by omega
      by_cases hkm : k < m
      · have hd : decide ((k : Int) < (m : Int)) = true := by simp; omega
        go_wp2_with (refine load_addr_g HA4 _ rfl rfl rfl ?_)
        refine (HBT _ k hk128).out.mono ?_
        rintro e w1 ⟨rfl, hb1⟩
        have HA5 := Lib.hid (HA4.out.below hb1)
        have HP5 := Lib.hid (HP4.out.below hb1)
        have HR5 := Lib.hid (HR4.out.below hb1)
        have HB5 := Lib.hid (chain HB4.out hb1)
        clear HA4 HP4 HR4 HB4 hb1
        have HP5a := Lib.hid HP5.out.addr
        rw [HBA.out k (by omega)]
        have hv := bitA_le bs k
        have H1 : Hid (bitA bs k = 1 → setB (withL N bs k 0) k = withL N bs (k + 1) 0) := Lib.hid (with_one N bs k (by omega) HN)
        have H0 : Hid (bitA bs k = 0 → withL N bs k 0 = withL N bs (k + 1) 0) := Lib.hid (with_none N bs k (by omega))
        generalize bitA bs k = v at *
        by_cases hv1 : v = 1
        · subst hv1
          have hd1 : (((1 : Nat) : Int) == 1) = true := by rfl
          have HLW : Hid ((withL N bs (k + 1) 0).length = 16) := Lib.hid (withL_len _ _ _ _)
          have HWB := fun W => Lib.hid (withBit_any f (withL N bs k 0) k W (withL_len _ _ _ _) (withL_lt _ _ _ _ (by decide)) (by omega))
          rw [H1.out rfl] at HWB
          go_wp2_with (refine load_addr_g HP5a _ rfl rfl rfl ?_)
          refine (HWB _).out.mono ?_
          rintro e w2 ⟨rfl, hb2⟩
          have HA6 := Lib.hid (HA5.out.below hb2)
          have HP6 := Lib.hid (HP5.out.below hb2)
          have HR6 := Lib.hid (HR5.out.below hb2)
          have HB6 := Lib.hid (chain HB5.out hb2)
          clear HA5 HP5 HR5 HB5 hb2 HP5a
          go_wp2_with (refine store_pref_addr HP6 _ _ HLW rfl rfl rfl rfl (fun W2 HW2 HP7 => ?_))
          have HG := HGG.out
          go_roundw
          case rel => exact ⟨k + 1, by omega, by go_num, HP7, Lib.hid (by rw [HW2.out]; exact HA6.out.apart (by omega) _), Lib.hid (by rw [HW2.out]; exact HR6.out.apart (by omega) _), Lib.hid (by rw [HW2.out]; exact below_cells (by omega) _ _ _ HB6.out)⟩
          case measure => simp [intOf]; omega
        · obtain rfl : v = 0 := by omega
          rw [H0.out rfl] at HP5
          have hd0 : (((0 : Nat) : Int) == 1) = false := by rfl
          go_wp2_with fail
          go_roundw
          case rel => exact ⟨k + 1, by omega, by go_num, HP5, HA5, HR5, HB5⟩
          case measure => simp [intOf]; omega
      · obtain rfl : k = m := by omega
        have hd : decide ((k : Int) < (k : Int)) = false := by simp
        have HLW : Hid ((withL N bs k 0).length = 16) := Lib.hid (withL_len _ _ _ _)
        go_wp2_with (first | refine load_pref_g HP4 _ rfl rfl rfl ?_ | refine store_pref HR4 _ _ HLW rfl rfl rfl rfl (fun W HW HP => ?_))
        refine bodyPost_ret (v := prefV f (withL N bs k 0) k) (results_pref Tryd.results65 rfl HP.out) rfl ⟨rfl, by rw [HW.out]; exact below_cells (by omega) _ _ _ HB4.out⟩
end Go.Proofs.YtgbajagacmfcmaaDoor
/- Contract of cidr.May. -/
namespace Go.Proofs.YtgbajagacmfcmaaDoor
open Go.RowKit
set_option linter.unusedVariables false
set_option maxRecDepth 20000

set_option maxRecDepth 100000 in
set_option maxHeartbeats 1000000 in
theorem cidrMay_any (f : Int) (ps : List Nat) (n : Int) (w : World) (hp : ps.length = 16) (hlt : ∀ x ∈ ps, x < 256) (hn : (Lit.int .i64 n).wf = true) :
    Calls Tryd.prog 55 #[prefV f ps n] w fun e w' => e = .returned (.bool (mayP f ps n)) ∧ Below w.heap.size w w' := by
  have HP := Lib.hid hp
  have HMK := fun W => Lib.hid (cidrMask_any f ps n W hp hlt hn)
  have HBI := fun W => Lib.hid (addrBits_any f ps W hp)
  have HLR : Hid ((withL (bitsN f) ps (maskN f n) 0).length = 16) := Lib.hid (withL_len _ _ _ _)
  obtain ⟨R, eR⟩ : ∃ R, mayP f ps n = R := ⟨_, rfl⟩
  rw [eR]
  have HE : Hid (decide (0 < bitsN f ∧ ps = withL (bitsN f) ps (maskN f n) 0 ∧ n = (maskN f n : Int)) = R) := Lib.hid (by rw [← eR]; rfl)
  generalize withL (bitsN f) ps (maskN f n) 0 = ms at *
  generalize maskN f n = m at *
  generalize bitsN f = N at *
  obtain ⟨cs, ecs, H1, HB⟩ := pref_boxed f ps n w hp
  rw [ecs]
  clear ecs hp hlt eR
  go_enter Tryd.func55, Tryd.ntmps55
  go_upto_region 1 with fail
  generalize (w.alloc (.cells cs 27)) = W at *
  obtain ⟨L, hL⟩ : ∃ L, [(w.heap.size, 0, prefL f ps n), (w.heap.size, 0, addrL f ps)] = L := ⟨_, rfl⟩
  have HK := Lib.hid (show HeldR L w W by rw [← hL]; exact (HeldR.nil HB.out).pref H1.out)
  have Mp := Lib.hid (show InP L w.heap.size f ps n from ⟨by rw [← hL]; simp, HP.out⟩)
  have Ma := Lib.hid (show InA L w.heap.size f ps from ⟨by rw [← hL]; simp, HP.out⟩)
  have Cn := Lib.hid (bitsR Mp.out w)
  clear hL H1 HB
  have C1 : ∀ w', HeldR L w w' → Hid (Calls Tryd.prog 63 #[addrV f ps] w' fun e w'' => e = .returned (.int .i64 ((N : Nat) : Int)) ∧ Below w'.heap.size w' w'') := fun w' h => HBI w'
  have C2 : ∀ w', HeldR L w w' → Hid (Calls Tryd.prog 65 #[addrV f ps, .int .i64 n] w' fun e w'' => e = .returned (prefV f ms (m : Int)) ∧ Below w'.heap.size w' w'') := fun w' h => HMK w'
  clear HMK HBI
  by_cases h0 : N = 0
  · subst h0
    rw [decide_eq_false (fun h => absurd h.1 (by decide))] at HE
    have hd : decide ((0 : Int) < ((0 : Nat) : Int)) = false := rfl
    refine wp_region_noPanic ?_
    refine wp_region_held_drew (S := HeldR L w) (by kernel_rfl) HK.out.drew (fun hHeld => ?_)
    refine wpAnyH_take (i := 0) (v := ?_) rfl (by kernel_rfl) (by kernel_rfl) (by kernel_rfl) (fun _ _ _ h => h) (Or.inl ⟨by rfl, ?_⟩) (by assumption) ?_
    rotate_left
    · (intro w hSw; go_simp; try (with_reducible rfl))
    try simp only [Act.put, List.getElem_toArray, List.getElem_cons_zero, List.setIfInBounds_toArray, List.set_cons_zero, List.set_cons_succ]
    refine wpAnyH_take (i := 1) rfl (by kernel_rfl) (by kernel_rfl) (by kernel_rfl) (fun _ _ _ h => h) (yields_addr Ma (by rfl) _ rfl rfl) (by assumption) ?_
    try simp only [Act.put, List.getElem_toArray, List.getElem_cons_zero, List.getElem_cons_succ, List.setIfInBounds_toArray, List.set_cons_zero, List.set_cons_succ]
    refine wpAnyH_ready (rs := [2]) (by kernel_rfl) (by simp) ?_
    refine AllReadyH.cons rfl (fun K hK => ?_) AllReadyH.nil
    go_simp
    refine (Calls.heldR (C1 _ (by assumption)).out (by assumption)).mono ?_
    rintro e wr2 ⟨rfl, hS2⟩
    go_wp2_with fail
    refine hK.out _ _ hS2 (fun hHeld => ?_)
    clear hK K
    try simp only [Act.put, List.getElem_toArray, List.getElem_cons_zero, List.getElem_cons_succ, List.setIfInBounds_toArray, List.set_cons_zero, List.set_cons_succ]
    refine wpAnyH_take (i := 3) (v := ?_) rfl (by kernel_rfl) (by kernel_rfl) (by kernel_rfl) (fun _ _ _ h => h) (Or.inl ⟨by rfl, ?_⟩) (by assumption) ?_
    rotate_left
    · (intro w hSw; go_simp; try (with_reducible rfl))
    try simp only [Act.put, List.getElem_toArray, List.getElem_cons_zero, List.getElem_cons_succ, List.setIfInBounds_toArray, List.set_cons_zero, List.set_cons_succ]
    refine wpAnyH_take (i := 4) (v := ?_) rfl (by kernel_rfl) (by kernel_rfl) (by kernel_rfl) (fun _ _ _ h => h) (Or.inl ⟨by rfl, ?_⟩) (by assumption) ?_
    rotate_left
    · (intro w hSw; go_simp; try (with_reducible rfl))
    try simp only [Act.put, List.getElem_toArray, List.getElem_cons_zero, List.getElem_cons_succ, List.setIfInBounds_toArray, List.set_cons_zero, List.set_cons_succ]
    refine wpAnyH_take (i := 5) (v := undef) rfl (by kernel_rfl) (by kernel_rfl) (by kernel_rfl) (fun _ _ _ h => h) (Or.inr ⟨by rfl, rfl⟩) (by assumption) ?_
    try simp only [Act.put, List.getElem_toArray, List.getElem_cons_zero, List.getElem_cons_succ, List.setIfInBounds_toArray, List.set_cons_zero, List.set_cons_succ]
    refine wpAnyH_take (i := 6) (v := undef) rfl (by kernel_rfl) (by kernel_rfl) (by kernel_rfl) (fun _ _ _ h => h) (Or.inr ⟨by rfl, rfl⟩) (by assumption) ?_
    try simp only [Act.put, List.getElem_toArray, List.getElem_cons_zero, List.getElem_cons_succ, List.setIfInBounds_toArray, List.set_cons_zero, List.set_cons_succ]
    refine wpAnyH_take (i := 7) (v := undef) rfl (by kernel_rfl) (by kernel_rfl) (by kernel_rfl) (fun _ _ _ h => h) (Or.inr ⟨by rfl, rfl⟩) (by assumption) ?_
    try simp only [Act.put, List.getElem_toArray, List.getElem_cons_zero, List.getElem_cons_succ, List.setIfInBounds_toArray, List.set_cons_zero, List.set_cons_succ]
    refine wpAnyH_take (i := 8) (v := undef) rfl (by kernel_rfl) (by kernel_rfl) (by kernel_rfl) (fun _ _ _ h => h) (Or.inr ⟨by rfl, rfl⟩) (by assumption) ?_
    try simp only [Act.put, List.getElem_toArray, List.getElem_cons_zero, List.getElem_cons_succ, List.setIfInBounds_toArray, List.set_cons_zero, List.set_cons_succ]
    refine wpAnyH_take (i := 9) (v := undef) rfl (by kernel_rfl) (by kernel_rfl) (by kernel_rfl) (fun _ _ _ h => h) (Or.inr ⟨by rfl, rfl⟩) (by assumption) ?_
    try simp only [Act.put, List.getElem_toArray, List.getElem_cons_zero, List.getElem_cons_succ, List.setIfInBounds_toArray, List.set_cons_zero, List.set_cons_succ]
    refine wpAnyH_take (i := 10) (v := undef) rfl (by kernel_rfl) (by kernel_rfl) (by kernel_rfl) (fun _ _ _ h => h) (Or.inr ⟨by rfl, rfl⟩) (by assumption) ?_
    try simp only [Act.put, List.getElem_toArray, List.getElem_cons_zero, List.getElem_cons_succ, List.setIfInBounds_toArray, List.set_cons_zero, List.set_cons_succ]
    refine wpAnyH_take (i := 11) (v := undef) rfl (by kernel_rfl) (by kernel_rfl) (by kernel_rfl) (fun _ _ _ h => h) (Or.inr ⟨by rfl, rfl⟩) (by assumption) ?_
    try simp only [Act.put, List.getElem_toArray, List.getElem_cons_zero, List.getElem_cons_succ, List.setIfInBounds_toArray, List.set_cons_zero, List.set_cons_succ]
    refine wpAnyH_take (i := 12) (v := ?_) rfl (by kernel_rfl) (by kernel_rfl) (by kernel_rfl) (fun _ _ _ h => h) (Or.inl ⟨by rfl, ?_⟩) (by assumption) ?_
    rotate_left
    · (intro w hSw; go_simp; try (with_reducible rfl))
    try simp only [Act.put, List.getElem_toArray, List.getElem_cons_zero, List.getElem_cons_succ, List.setIfInBounds_toArray, List.set_cons_zero, List.set_cons_succ]
    refine wpAnyH_take (i := 13) (v := ?_) rfl (by kernel_rfl) (by kernel_rfl) (by kernel_rfl) (fun _ _ _ h => h) (Or.inl ⟨by rfl, ?_⟩) (by assumption) ?_
    rotate_left
    · (intro w hSw; go_simp; try (with_reducible rfl))
    try simp only [Act.put, List.getElem_toArray, List.getElem_cons_zero, List.getElem_cons_succ, List.setIfInBounds_toArray, List.set_cons_zero, List.set_cons_succ]
    refine wpAnyH_done (by kernel_rfl) ?_ _
    refine NoPanic.normal ?_
    go_wp2_with fail
    go_ret
    exact ⟨by rw [← HE.out]; rfl, hHeld.bel⟩
  · have hd : decide ((0 : Int) < ((N : Nat) : Int)) = true := by simp; omega
    have hN : 0 < N := by omega
    have gd := guard_pref
    have q1 := fun W => run_eq_pref f f ps ms n (m : Int) W HP.out HLR.out
    rw [show decide (f = f ∧ ps = ms ∧ n = (m : Int)) = R by rw [← HE.out]; exact decide_eq_decide.2 (by simp [hN])] at q1
    refine wp_region_noPanic ?_
    refine wp_region_held_drew (S := HeldR L w) (by kernel_rfl) HK.out.drew (fun hHeld => ?_)
    refine wpAnyH_take (i := 0) (v := ?_) rfl (by kernel_rfl) (by kernel_rfl) (by kernel_rfl) (fun _ _ _ h => h) (Or.inl ⟨by rfl, ?_⟩) (by assumption) ?_
    rotate_left
    · (intro w hSw; go_simp; try (with_reducible rfl))
    try simp only [Act.put, List.getElem_toArray, List.getElem_cons_zero, List.setIfInBounds_toArray, List.set_cons_zero, List.set_cons_succ]
    refine wpAnyH_take (i := 1) rfl (by kernel_rfl) (by kernel_rfl) (by kernel_rfl) (fun _ _ _ h => h) (yields_addr Ma (by rfl) _ rfl rfl) (by assumption) ?_
    try simp only [Act.put, List.getElem_toArray, List.getElem_cons_zero, List.getElem_cons_succ, List.setIfInBounds_toArray, List.set_cons_zero, List.set_cons_succ]
    refine wpAnyH_ready (rs := [2]) (by kernel_rfl) (by simp) ?_
    refine AllReadyH.cons rfl (fun K hK => ?_) AllReadyH.nil
    go_simp
    refine (Calls.heldR (C1 _ (by assumption)).out (by assumption)).mono ?_
    rintro e wr2 ⟨rfl, hS2⟩
    go_wp2_with fail
    refine hK.out _ _ hS2 (fun hHeld => ?_)
    clear hK K
    try simp only [Act.put, List.getElem_toArray, List.getElem_cons_zero, List.getElem_cons_succ, List.setIfInBounds_toArray, List.set_cons_zero, List.set_cons_succ]
    refine wpAnyH_take (i := 3) (v := ?_) rfl (by kernel_rfl) (by kernel_rfl) (by kernel_rfl) (fun _ _ _ h => h) (Or.inl ⟨by rfl, ?_⟩) (by assumption) ?_
    rotate_left
    · (intro w hSw; go_simp; try (with_reducible rfl))
    try simp only [Act.put, List.getElem_toArray, List.getElem_cons_zero, List.getElem_cons_succ, List.setIfInBounds_toArray, List.set_cons_zero, List.set_cons_succ]
    refine wpAnyH_take (i := 4) (v := ?_) rfl (by kernel_rfl) (by kernel_rfl) (by kernel_rfl) (fun _ _ _ h => h) (Or.inl ⟨by rfl, ?_⟩) (by assumption) ?_
    rotate_left
    · (intro w hSw; go_simp; try (with_reducible rfl))
    try simp only [Act.put, List.getElem_toArray, List.getElem_cons_zero, List.getElem_cons_succ, List.setIfInBounds_toArray, List.set_cons_zero, List.set_cons_succ]
    refine wpAnyH_take (i := 5) rfl (by kernel_rfl) (by kernel_rfl) (by kernel_rfl) (fun _ _ _ h => h) (yields_pref Mp (by rfl) _ rfl rfl) (by assumption) ?_
    try simp only [Act.put, List.getElem_toArray, List.getElem_cons_zero, List.getElem_cons_succ, List.setIfInBounds_toArray, List.set_cons_zero, List.set_cons_succ]
    refine wpAnyH_take (i := 6) (v := ?_) rfl (by kernel_rfl) (by kernel_rfl) (by kernel_rfl) (fun _ _ _ h => h) (Or.inl ⟨by rfl, ?_⟩) (by assumption) ?_
    rotate_left
    · (intro w hSw; go_simp; try (with_reducible rfl))
    try simp only [Act.put, List.getElem_toArray, List.getElem_cons_zero, List.getElem_cons_succ, List.setIfInBounds_toArray, List.set_cons_zero, List.set_cons_succ]
    refine wpAnyH_take (i := 7) rfl (by kernel_rfl) (by kernel_rfl) (by kernel_rfl) (fun _ _ _ h => h) (yields_addr Ma (by rfl) _ rfl rfl) (by assumption) ?_
    try simp only [Act.put, List.getElem_toArray, List.getElem_cons_zero, List.getElem_cons_succ, List.setIfInBounds_toArray, List.set_cons_zero, List.set_cons_succ]
    refine wpAnyH_take (i := 8) (v := ?_) rfl (by kernel_rfl) (by kernel_rfl) (by kernel_rfl) (fun _ _ _ h => h) (Or.inl ⟨by rfl, ?_⟩) (by assumption) ?_
    rotate_left
    · (intro w hSw; go_simp; try (with_reducible rfl))
    try simp only [Act.put, List.getElem_toArray, List.getElem_cons_zero, List.getElem_cons_succ, List.setIfInBounds_toArray, List.set_cons_zero, List.set_cons_succ]
    refine wpAnyH_take (i := 9) (v := ?_) rfl (by kernel_rfl) (by kernel_rfl) (by kernel_rfl) (fun _ _ _ h => h) (Or.inl ⟨by rfl, ?_⟩) (by assumption) ?_
    rotate_left
    · (intro w hSw; have hc0 := Cn.out w hSw; go_simp; try (with_reducible rfl))
    try simp only [Act.put, List.getElem_toArray, List.getElem_cons_zero, List.getElem_cons_succ, List.setIfInBounds_toArray, List.set_cons_zero, List.set_cons_succ]
    refine wpAnyH_ready (rs := [10]) (by kernel_rfl) (by simp) ?_
    refine AllReadyH.cons rfl (fun K hK => ?_) AllReadyH.nil
    go_simp
    refine (Calls.heldR (C2 _ (by assumption)).out (by assumption)).mono ?_
    rintro e wr10 ⟨rfl, hS10⟩
    go_wp2_with fail
    refine hK.out _ _ hS10 (fun hHeld => ?_)
    clear hK K
    try simp only [Act.put, List.getElem_toArray, List.getElem_cons_zero, List.getElem_cons_succ, List.setIfInBounds_toArray, List.set_cons_zero, List.set_cons_succ]
    refine wpAnyH_take (i := 11) (v := ?_) rfl (by kernel_rfl) (by kernel_rfl) (by kernel_rfl) (fun _ _ _ h => h) (Or.inl ⟨by rfl, ?_⟩) (by assumption) ?_
    rotate_left
    · (intro w hSw; go_simp; try (with_reducible rfl))
    try simp only [Act.put, List.getElem_toArray, List.getElem_cons_zero, List.getElem_cons_succ, List.setIfInBounds_toArray, List.set_cons_zero, List.set_cons_succ]
    refine wpAnyH_take (i := 12) (v := ?_) rfl (by kernel_rfl) (by kernel_rfl) (by kernel_rfl) (fun _ _ _ h => h) (Or.inl ⟨by rfl, ?_⟩) (by assumption) ?_
    rotate_left
    · (intro w hSw; go_simp; try (with_reducible rfl))
    try simp only [Act.put, List.getElem_toArray, List.getElem_cons_zero, List.getElem_cons_succ, List.setIfInBounds_toArray, List.set_cons_zero, List.set_cons_succ]
    refine wpAnyH_take (i := 13) (v := ?_) rfl (by kernel_rfl) (by kernel_rfl) (by kernel_rfl) (fun _ _ _ h => h) (Or.inl ⟨by rfl, ?_⟩) (by assumption) ?_
    rotate_left
    · (intro w hSw; go_simp; try (with_reducible rfl))
    try simp only [Act.put, List.getElem_toArray, List.getElem_cons_zero, List.getElem_cons_succ, List.setIfInBounds_toArray, List.set_cons_zero, List.set_cons_succ]
    refine wpAnyH_done (by kernel_rfl) ?_ _
    refine NoPanic.normal ?_
    go_wp2_with fail
    go_ret
    exact ⟨rfl, hHeld.bel⟩
end Go.Proofs.YtgbajagacmfcmaaDoor
/- The table: what it keeps; contracts of Set and Drop. -/
namespace Go.Proofs.YtgbajagacmfcmaaDoor
open Go.RowKit
set_option linter.unusedVariables false
set_option maxRecDepth 20000

theorem setCell_one (w : World) (b o : Nat) (u : Value) : w.setCell ⟨b, o, none⟩ u = w.setCells b o [u] := rfl
/-- A value set anew, at its place. -/
theorem rowT_setVal {w : World} {g cap : Nat} {es : List Ent} (hb : Blk w g (cap * 19)) (hc : es.length ≤ cap) (hm : cap ≤ maxLen) (hr : w.rangeAt g 0 (flatE es)) (hg : AllGood es) (hle : es.length ≤ 1000) (i : Nat) (hi : i < es.length) (x : Int) (hx : (Lit.int .i64 x).wf = true) :
    RowT (w.setCell ⟨g, i * 19 + 18, none⟩ (.int .i64 x)) 0 (.slice (some ⟨g, 0, none⟩) es.length cap) (es.take i ++ [⟨es[i].f, es[i].b, es[i].n, x⟩] ++ es.drop (i + 1)) := by
  have hgi := hg _ (List.getElem_mem hi)
  have hlen : (es.take i ++ [(⟨es[i].f, es[i].b, es[i].n, x⟩ : Ent)] ++ es.drop (i + 1)).length = es.length := by simp; omega
  have hgd : AllGood (es.drop (i + 1)) := fun e he => hg e (List.mem_of_mem_drop he)
  have hgt : AllGood (es.take i) := fun e he => hg e (List.mem_of_mem_take he)
  have hft : (flatE (es.take i)).length = i * 19 := by rw [flatE_len _ hgt, List.length_take, Nat.min_eq_left (by omega)]
  have hpl := prefL_len es[i].f es[i].b (es[i].n : Int) hgi.1.len
  rw [setCell_one]
  have := rowT_of (w := w.setCells g (i * 19 + 18) [Value.int .i64 x]) (g := g) (cap := cap) (es := es.take i ++ [⟨es[i].f, es[i].b, es[i].n, x⟩] ++ es.drop (i + 1)) (Blk.setCells g _ _ _ hb) (by omega) hm ?_ (fun e he => by
      rcases List.mem_append.1 he with he | he
      · rcases List.mem_append.1 he with he | he
        · exact hgt e he
        · rw [List.mem_singleton.1 he]; exact ⟨hgi.1, hx⟩
      · exact hgd e he) (by omega)
  · rw [hlen] at this; exact this
  · rw [flatE_append, flatE_append, flatE_single]
    have h1 := World.rangeAt_setCells_apart (cell_take hr i) g (i * 19 + 18) [Value.int .i64 x] (.inr (.inl (by rw [hft]; omega)))
    have h2 := World.rangeAt_setCells_apart (range_pref (range_ent hr hg i hi)) g (i * 19 + 18) [Value.int .i64 x] (.inr (.inl (by rw [hpl]; omega)))
    have h3 := World.rangeAt_setCells_same w g (i * 19 + 18) [Value.int .i64 x] (hb.there _ _ (by simp; omega))
    have h4 := World.rangeAt_setCells_apart (cell_drop hr hg (i + 1) (by omega)) g (i * 19 + 18) [Value.int .i64 x] (.inr (.inr (by simp; omega)))
    refine range_append (range_append h1 ?_) ?_
    · rw [hft, Nat.zero_add]
      show (w.setCells g (i * 19 + 18) [Value.int .i64 x]).rangeAt g (i * 19) (prefL es[i].f es[i].b (es[i].n : Int) ++ [Value.int .i64 x])
      exact range_append h2 (by rw [hpl]; exact h3)
    · rw [List.length_append, hft, Ent.L_len (⟨es[i].f, es[i].b, es[i].n, x⟩ : Ent) hgi.1.len, show 0 + (i * 19 + 19) = (i + 1) * 19 by omega]
      exact h4
/-- The table at G, of entries es, with st steps. -/
def TabAt (w : World) (G : Nat) (es : List Ent) (st : Int) (F : List Nat) : Prop :=
  ∃ v, F = G :: blkL v ∧ Tab w G v st ∧ RowT w 0 v es ∧ SortedE es ∧ ∀ g, v.ownBlock = some g → g ≠ G
theorem mem_blkL {v : Value} {k : Nat} : k ∈ blkL v ↔ v.ownBlock = some k := by unfold blkL; cases v.ownBlock <;> simp [eq_comm]
theorem RowT.same {w w' : World} {base : Nat} {v : Value} {es : List Ent} (h : RowT w base v es) (hk : ∀ g, v.ownBlock = some g → w'.heap[g]? = w.heap[g]?) : RowT w' base v es := by
  obtain ⟨⟨h1, h2⟩, h3⟩ := h
  refine ⟨⟨h1, ?_⟩, h3⟩
  rcases h2 with h2 | ⟨g, cap, cur, e1, e2, e3, e4⟩
  · exact .inl h2
  · exact .inr ⟨g, cap, cur, e1, e2, (hk g (by rw [e1]; rfl)).trans e3, e4⟩
section
variable {w w' : World} {G : Nat} {es : List Ent} {st : Int} {F : List Nat}
theorem TabAt.lt (h : TabAt w G es st F) : G ∈ F ∧ ∀ k ∈ F, k < w.heap.size := by
  obtain ⟨v, rfl, hT, hR, _, _⟩ := h
  refine ⟨by simp, fun k hk => ?_⟩
  rcases List.mem_cons.1 hk with rfl | hk
  · exact hT.lt
  · exact (hR.blockLt k (mem_blkL.1 hk)).2
theorem TabAt.keep (h : TabAt w G es st F) (hs : w.heap.size ≤ w'.heap.size) (hk : ∀ k ∈ F, w'.heap[k]? = w.heap[k]?) : TabAt w' G es st F := by
  obtain ⟨v, rfl, hT, hR, hS, hN⟩ := h
  exact ⟨v, rfl, hT.same hs (hk G (by simp)), hR.same (fun g hg => hk g (List.mem_cons_of_mem _ (mem_blkL.2 hg))), hS, hN⟩
theorem TabAt.below (h : TabAt w G es st F) (hb : Below w.heap.size w w') : TabAt w' G es st F := h.keep hb.size (fun k hk => hb.block k (h.lt.2 k hk))
end
theorem Foot.wide {F F' : List Nat} {w w' : World} {G : Nat} (h : Foot F F' w w') : Foot (G :: F) (G :: F') w w' :=
  ⟨h.os, h.tape, h.output, h.size, fun k hk hn => h.keep k hk (fun e => hn (List.mem_cons_of_mem _ e)), fun k hk => by
    rcases List.mem_cons.1 hk with rfl | hk
    · exact .inl (by simp)
    · rcases h.new k hk with e | e
      · exact .inl (List.mem_cons_of_mem _ e)
      · exact .inr e⟩
theorem Foot.into {F : List Nat} {w w' : World} {G : Nat} (h : Foot [G] [G] w w') (hG : G ∈ F) : Foot F F w w' :=
  ⟨h.os, h.tape, h.output, h.size, fun k hk hn => h.keep k hk (fun e => hn (by rw [List.mem_singleton.1 e]; exact hG)), fun k hk => .inl hk⟩
theorem yields_build_entT {ops : Array Oper} {S : World → Prop} {op : Oper} {a : Act} {f : Int} {bs : List Nat} {n v : Int} (hl : Hid (bs.length = 16)) (hw : Region.wanted op (yielded ops a.tmps) = true) (x y : Operand) (ho : op.op = .build 36 #[(0, x), (1, y)])
    (hx : a.eval x = prefV f bs n) (hy : a.eval y = .int .i64 v) : YieldsIf Tryd.prog ops S op (entV f bs n v) a :=
  .inl ⟨hw, fun w _ => exec_build ho (by
    simp only [List.map_toArray, List.map_cons, List.map_nil]
    rw [hx, hy]; exact built_entT f bs n v hl.out)⟩
theorem wp_build_entST {op : Oper} {a : Act} {w : World} {K : Act → World → Prop} {Q : Exit → Act → World → Prop} {f : Int} {bs : List Nat} {n v : Int} (hl : Hid (bs.length = 16)) (x : Operand) (ho : op.op = .buildSlice 22 1 #[(0, x)])
    (hx : a.eval x = entV f bs n v) (h : ∀ W, Hid (W = w.alloc (.cells (entL f bs n v).toArray 36)) → K (a.put op.dst (.slice (some ⟨w.heap.size, 0, none⟩) 1 1)) W) : op.wp Tryd.prog a w K Q := by
  unfold Oper.wp execOp
  simp only [ho, List.map_toArray, List.map_cons, List.map_nil, hx, Sem.run_bind, run_buildT f bs n v w hl.out, Result.andThen_ok]
  exact h _ (Lib.hid rfl)
end Go.Proofs.YtgbajagacmfcmaaDoor
/- Contract of Table.Set. -/
namespace Go.Proofs.YtgbajagacmfcmaaDoor
open Go.RowKit
set_option linter.unusedVariables false
set_option maxRecDepth 20000

set_option maxRecDepth 100000 in
set_option maxHeartbeats 1000000 in
theorem tabSet_any (G : Nat) (es : List Ent) (st : Int) (F : List Nat) (f : Int) (bs : List Nat) (n x : Int) (w : World) (hA : TabAt w G es st F) (h16 : bs.length = 16) (hlt : ∀ y ∈ bs, y < 256) (hn : (Lit.int .i64 n).wf = true) (hx : (Lit.int .i64 x).wf = true) (hle : es.length ≤ 999) :
    Calls Tryd.prog 38 #[.pointer (some ⟨G, 0, none⟩), prefV f bs n, .int .i64 x] w fun e w' => e = .returned (.int .i64 (if mayP f bs n = true then 0 else 1)) ∧ ∃ F', TabAt w' G (setE es f bs n x) st F' ∧ Foot F F' w w' := by
  have HAA := Lib.hid hA
  obtain ⟨v, rfl, hT, hR, hs, hN⟩ := hA
  have HPL := fun W (h : Below w.heap.size w W) => Lib.hid (place_any G v st es f bs n W (hT.below h) (hR.below h) hs h16 hlt)
  have HMA := fun W => Lib.hid (cidrMay_any f bs n W h16 hlt hn)
  have HGD : Hid (mayP f bs n = true → GoodP f bs n.toNat ∧ n = ((n.toNat : Nat) : Int)) := Lib.hid (mayP_good h16 hlt)
  have HNO : Hid (mayP f bs n = false → setE es f bs n x = es) := Lib.hid (fun h => by unfold setE; rw [if_neg (by rw [h]; decide)])
  have HSN : Hid (mayP f bs n = true → ∀ i, Place es f bs n i false → setE es f bs n x = es.take i ++ [⟨f, bs, n.toNat, x⟩] ++ es.drop i) := Lib.hid (fun hm i hp => set_none x hp hR.2.1 hs h16 hlt hm)
  have HSA : Hid (mayP f bs n = true → ∀ i, Place es f bs n i true → ∃ h : i < es.length, setE es f bs n x = es.take i ++ [⟨es[i].f, es[i].b, es[i].n, x⟩] ++ es.drop (i + 1)) := Lib.hid (fun hm i hp => by
    obtain ⟨h, h0⟩ := hp.isAt hR.2.1 h16
    refine ⟨h, ?_⟩
    unfold isEnt at h0
    obtain ⟨e1, e2, e3⟩ := of_decide_eq_true h0
    rw [set_at x hp hR.2.1 hs h16 hlt hm, e1, e2]
    have : n.toNat = es[i].n := by omega
    rw [this])
  have HSS : Hid (∀ i b, Place es f bs n i b → SortedE (setE es f bs n x)) := Lib.hid (fun i b hp => sorted_set x hp hR.2.1 hs h16 hlt)
  have HTT := Lib.hid (fun W (h : Below w.heap.size w W) => hT.below h)
  have HRR := Lib.hid (fun W (h : Below w.heap.size w W) => hR.below h)
  have HG := Lib.hid hR.2.1
  have HNN := Lib.hid hN
  have H16 := Lib.hid h16
  have HWX := Lib.hid hx
  generalize setE es f bs n x = R at *
  obtain ⟨c, hc⟩ : ∃ c : Int, (if mayP f bs n = true then (0 : Int) else 1) = c := ⟨_, rfl⟩
  rw [hc]
  have HCC := Lib.hid hc
  clear hc
  generalize mayP f bs n = m at *
  obtain ⟨cs, ecs, HP, HB⟩ := pref_boxed f bs n w h16
  rw [ecs]
  clear ecs h16 hlt hT hR hs hN hn hx
  go_enter Tryd.func38, Tryd.ntmps38
  go_upto_region 1 with fail
  generalize (w.alloc (.cells cs 27)) = W at *
  go_wp2_with (refine load_pref_g HP _ rfl rfl rfl ?_)
  refine (HMA _).out.mono ?_
  rintro e w0 ⟨rfl, hb0⟩
  have HB0 := Lib.hid (chain HB.out hb0)
  have HP0 := Lib.hid (HP.out.below hb0)
  clear HP HB hb0 HMA
  cases m with
  | false =>
    have HE := Lib.hid (HNO.out rfl)
    rw [if_neg (by decide)] at HCC
    clear HNO HSN HSA HSS HPL HGD
    go_wp2_with fail
    go_ret
    exact ⟨by rw [← HCC.out]; rfl, _, by rw [HE.out]; exact HAA.out.below HB0.out, Foot.ofBelow _ HB0.out⟩
  | true =>
    rw [if_pos rfl] at HCC
    obtain ⟨hgp, hnn⟩ := HGD.out rfl
    have HGP := Lib.hid hgp
    have HNT := Lib.hid hnn
    clear HNO HGD hgp hnn
    go_wp2_with (refine load_pref_g HP0 _ rfl rfl rfl ?_)
    refine (HPL _ HB0.out).out.mono ?_
    rintro e w1 ⟨i, b, rfl, hp, hb1⟩
    have HP1 := Lib.hid (HP0.out.below hb1)
    have HB1 := Lib.hid (chain HB0.out hb1)
    have HT1 := Lib.hid (HTT.out _ HB1.out)
    have HR1 := Lib.hid (HRR.out _ HB1.out)
    have HSR := Lib.hid (HSS.out i b hp)
    have hile := hp.le
    clear HP0 HB0 hb1 HTT HRR HPL HSS
    cases b with
    | true =>
      obtain ⟨hil, hE⟩ := HSA.out (by trivial) i hp
      have HE := Lib.hid hE
      clear HSN HSA hp hE
      rcases HR1.out.blk with ⟨rfl, rfl⟩ | ⟨g, cap, rfl, _, hb, hcp, hmx, hrg⟩
      · exact absurd hil (by simp)
      · have hcell := HT1.out.row
        have HRS := Lib.hid (rowT_setVal hb hcp hmx hrg HG.out (by omega) i hil x HWX.out)
        have hval := cell_val (range_ent hrg HG.out i hil) (HG.out _ (List.getElem_mem hil)).1.len
        have hfz := (hb.there (i * 19 + 18) 1 (by omega) 0 (by omega)).2
        rw [Nat.add_zero] at hfz
        have hNg : g ≠ G := HNN.out g rfl
        have hb1 : (0 : Int) ≤ (i : Int) := by omega
        have hb2 : (i : Int) < (es.length : Int) := by omega
        have hb3 : i < es.length := hil
        obtain ⟨y, hy⟩ : ∃ y, es[i] = y := ⟨_, rfl⟩
        rw [hy] at hval
        obtain ⟨N, hNn⟩ : ∃ N, es.length = N := ⟨_, rfl⟩
        rw [hNn] at hcell hb2 hb3
        clear hy hNn hrg hcp hb HP1 HR1
        go_wp2_with fail
        go_ret
        have hf3 := foot_cell w1 g (i * 19 + 18) (.int .i64 x)
        refine ⟨by rw [← HCC.out]; rfl, _, ⟨_, rfl, HT1.out.foot hf3 (by simp; omega), by rw [HE.out]; exact HRS.out, HSR.out, fun k hk => HNN.out k hk⟩, ?_⟩
        exact (Foot.ofBelow _ HB1.out).trans (hf3.into (by simp [blkL, Value.ownBlock]))
    | false =>
      have HE := Lib.hid (HSN.out (by trivial) i hp)
      clear HSN HSA hp
      have FIN : ∀ w5 v5, Hid (Tab w5 G v st) → Hid (RowT w5 0 v5 (es.take i ++ [⟨f, bs, n.toNat, x⟩] ++ es.drop i)) → Hid (Foot (blkL v) (blkL v5) w1 w5) → Hid (∀ g, v5.ownBlock = some g → g ≠ G) →
          (Ending.returned (Value.int IntKind.i64 0) = Ending.returned (Value.int IntKind.i64 c) ∧ ∃ F', TabAt (w5.setCell ⟨G, 0, none⟩ v5) G R st F' ∧ Foot (G :: blkL v) F' w (w5.setCell ⟨G, 0, none⟩ v5)) := fun w5 v5 h1 h2 h3 h4 => by
        have hf3 := foot_cell w5 G 0 v5
        refine ⟨by rw [← HCC.out], G :: blkL v5, ⟨v5, rfl, h1.out.setRow v5, ?_, HSR.out, h4.out⟩, ?_⟩
        · rw [HE.out]
          exact h2.out.foot hf3 (fun k hk e => h4.out k hk (by simpa using e))
        · exact ((Foot.ofBelow _ HB1.out).trans (Foot.wide h3.out)).trans (hf3.into (by simp))
      obtain ⟨e5, he5⟩ : ∃ e5 : Ent, (⟨f, bs, n.toNat, x⟩ : Ent) = e5 := ⟨_, rfl⟩
      have HGE : Hid e5.Good := Lib.hid (by rw [← he5]; exact ⟨HGP.out, HWX.out⟩)
      have HEL : Hid (entL f bs n x = e5.L) := Lib.hid (by rw [← he5, Ent.L_eq]; show entL f bs n x = entL f bs ((n.toNat : Nat) : Int) x; rw [← HNT.out])
      rw [he5] at FIN
      clear he5 HE
      have hcell := HT1.out.row
      go_upto_region 6 with fail
      obtain ⟨L, hL⟩ : ∃ L, [(w.heap.size, 0, prefL f bs n)] = L := ⟨_, rfl⟩
      have HK : Hid (HeldL L w1.drew) := Lib.hid (by rw [← hL]; intro x hx; rw [List.mem_singleton.1 hx]; exact HP1.out.range)
      have MP : Hid (InL L w.heap.size 0 (prefL f bs n)) := Lib.hid (fun W h => h.get (by rw [← hL]; simp))
      have HVL : Hid (∀ g, v.ownBlock = some g → g < w.heap.size) := Lib.hid (fun g hg => HAA.out.lt.2 g (List.mem_cons_of_mem _ (mem_blkL.2 hg)))
      have HGL : Hid (G < w.heap.size) := Lib.hid (HAA.out.lt.2 G (by simp))
      have HKN : Hid (∀ W' v5, Foot (blkL v) (blkL v5) w1 W' → HeldL L W') := Lib.hid (fun W' v5 hf => by
        rw [← hL]; intro x hx; rw [List.mem_singleton.1 hx]
        exact range_foot hf HP1.out.range HP1.out.addr.lt (fun e => by have := HVL.out _ (mem_blkL.1 e); omega))
      have HKN : Hid (∀ W' {v5 : Value}, Foot (blkL v) (blkL v5) w1 W' → HeldL L W') := Lib.hid (fun W' v5 hf => HKN.out W' v5 hf)
      have HKG : Hid (∀ W' (v5 : Value), HeldL L W' → HeldL L (W'.setCell ⟨G, 0, none⟩ v5)) := Lib.hid (fun W' v5 h => by
        rw [← hL] at h ⊢; intro x hx; rw [List.mem_singleton.1 hx]
        exact World.rangeAt_setCells_apart (h _ (by simp)) G 0 [v5] (.inl (by have := HGL.out; show w.heap.size ≠ G; omega)))
      have HIN : ∀ V1, Hid (Below w1.heap.size w1 V1) → Hid (V1 = w1.drew.alloc (.cells e5.L.toArray 36) → Calls Tryd.prog 57 #[v, .int .i64 (i : Int), .slice (some ⟨w1.heap.size, 0, none⟩) 1 1] V1 (InsE v (es.take i ++ [e5] ++ es.drop i) V1)) := fun V1 hb => Lib.hid (fun hV => by
        refine insert_any v es i e5 w1.heap.size 1 V1 (HR1.out.below hb.out) hile HGE.out hle ?_ ?_ ?_
        · rw [hV]; exact buildS_new (w := w1.drew) _
        · rw [hV]; exact blk_new w1.drew _ _ (by rw [List.size_toArray]; exact Ent.L_len e5 HGE.out.1.len)
        · intro g hg e
          have h1 := HVL.out g hg
          have h2 := HB1.out.size
          omega)
      clear hL HR1
      generalize (es.take i ++ [e5] ++ es.drop i) = Rn at *
      have hcD : w1.drew.cell? ⟨G, 0, none⟩ = some v := hcell
      refine wp_region_noPanic ?_
      refine wp_region_held_drew (S := HeldL L) (by kernel_rfl) HK.out (fun hHeld => ?_)
      refine wpAnyH_take (i := 0) (v := ?_) rfl (by kernel_rfl) (by kernel_rfl) (by kernel_rfl) (fun _ _ _ h => h) (Or.inl ⟨by rfl, ?_⟩) (by assumption) ?_
      rotate_left
      · (intro w hSw; go_simp; try (with_reducible rfl))
      try simp only [Act.put, List.getElem_toArray, List.getElem_cons_zero, List.setIfInBounds_toArray, List.set_cons_zero, List.set_cons_succ]
      refine wpAnyH_take (i := 1) (v := ?_) rfl (by kernel_rfl) (by kernel_rfl) (by kernel_rfl) (fun _ _ _ h => h) (Or.inl ⟨by rfl, ?_⟩) (by assumption) ?_
      rotate_left
      · (intro w hSw; go_simp; try (with_reducible rfl))
      try simp only [Act.put, List.getElem_toArray, List.getElem_cons_zero, List.getElem_cons_succ, List.setIfInBounds_toArray, List.set_cons_zero, List.set_cons_succ]
      refine wpAnyH_take (i := 2) (v := ?_) rfl (by kernel_rfl) (by kernel_rfl) (by kernel_rfl) (fun _ _ _ h => h) (Or.inl ⟨by rfl, ?_⟩) (by assumption) ?_
      rotate_left
      · (intro w hSw; go_simp; try (with_reducible rfl))
      try simp only [Act.put, List.getElem_toArray, List.getElem_cons_zero, List.getElem_cons_succ, List.setIfInBounds_toArray, List.set_cons_zero, List.set_cons_succ]
      refine wpAnyH_take (i := 3) (v := ?_) rfl (by kernel_rfl) (by kernel_rfl) (by kernel_rfl) (fun _ _ _ h => h) (Or.inl ⟨by rfl, ?_⟩) (by assumption) ?_
      rotate_left
      · (intro w hSw; go_simp; try (with_reducible rfl))
      try simp only [Act.put, List.getElem_toArray, List.getElem_cons_zero, List.getElem_cons_succ, List.setIfInBounds_toArray, List.set_cons_zero, List.set_cons_succ]
      refine wpAnyH_take (i := 5) (v := ?_) rfl (by kernel_rfl) (by kernel_rfl) (by kernel_rfl) (fun _ _ _ h => h) (Or.inl ⟨by rfl, ?_⟩) (by assumption) ?_
      rotate_left
      · (intro w hSw; go_simp; try (with_reducible rfl))
      try simp only [Act.put, List.getElem_toArray, List.getElem_cons_zero, List.getElem_cons_succ, List.setIfInBounds_toArray, List.set_cons_zero, List.set_cons_succ]
      refine wpAnyH_take (i := 6) rfl (by kernel_rfl) (by kernel_rfl) (by kernel_rfl) (fun _ _ _ h => h) (yields_pref_l H16 MP (by rfl) _ rfl rfl) (by assumption) ?_
      try simp only [Act.put, List.getElem_toArray, List.getElem_cons_zero, List.getElem_cons_succ, List.setIfInBounds_toArray, List.set_cons_zero, List.set_cons_succ]
      refine wpAnyH_take (i := 7) (v := ?_) rfl (by kernel_rfl) (by kernel_rfl) (by kernel_rfl) (fun _ _ _ h => h) (Or.inl ⟨by rfl, ?_⟩) (by assumption) ?_
      rotate_left
      · (intro w hSw; go_simp; try (with_reducible rfl))
      try simp only [Act.put, List.getElem_toArray, List.getElem_cons_zero, List.getElem_cons_succ, List.setIfInBounds_toArray, List.set_cons_zero, List.set_cons_succ]
      refine wpAnyH_take (i := 8) rfl (by kernel_rfl) (by kernel_rfl) (by kernel_rfl) (fun _ _ _ h => h) (yields_build_entT H16 (by rfl) _ _ rfl rfl rfl) (by assumption) ?_
      try simp only [Act.put, List.getElem_toArray, List.getElem_cons_zero, List.getElem_cons_succ, List.setIfInBounds_toArray, List.set_cons_zero, List.set_cons_succ]
      refine wpAnyH_ready (rs := [4, 9]) (by kernel_rfl) (by simp) ?_
      refine AllReadyH.cons rfl (fun K hK => ?_) (AllReadyH.one rfl rfl (fun K hK => ?_))
      · rw [if_pos (by rfl)]
        go_wp2_with fail
        refine hK.out _ _ hHeld (fun hHeld0 => ?_)
        clear hK K
        try simp only [Act.put, List.getElem_toArray, List.getElem_cons_zero, List.getElem_cons_succ, List.setIfInBounds_toArray, List.set_cons_zero, List.set_cons_succ]
        refine wpAnyH_ready (rs := [9]) (by kernel_rfl) (by simp) ?_
        refine AllReadyH.one rfl rfl (fun K hK => ?_)
        refine wp_build_entST H16 _ rfl rfl (fun V1 HVE => ?_)
        rw [HEL.out] at HVE
        have HV1 : Hid (Below w1.heap.size w1 V1) := Lib.hid (by rw [HVE.out]; exact (Below.refl _ _).drew.alloc (Nat.le_refl _) _)
        have hS1 := HKN.out V1 (v5 := v) (Foot.ofBelow _ HV1.out)
        refine hK.out _ _ hS1 (fun hHeld1 => ?_)
        clear hK K
        try simp only [Act.put, List.getElem_toArray, List.getElem_cons_zero, List.getElem_cons_succ, List.setIfInBounds_toArray, List.set_cons_zero, List.set_cons_succ]
        refine wpAnyH_ready (rs := [10]) (by kernel_rfl) (by simp) ?_
        refine AllReadyH.cons rfl (fun K hK => ?_) AllReadyH.nil
        go_simp
        refine ((HIN V1 HV1).out HVE.out).mono ?_
        rintro e w5 ⟨v5, rfl, hr5, hf5⟩
        have hfT := (Foot.ofBelow (blkL v) HV1.out).trans hf5
        have HT5 := Lib.hid (HT1.out.foot hfT (fun e => HNN.out G (mem_blkL.1 e) rfl))
        have HR5 := Lib.hid hr5
        have HF5 := Lib.hid hfT
        have HN5 : Hid (∀ g, v5.ownBlock = some g → g ≠ G) := Lib.hid (fun g hg => by
          rcases hfT.new g (mem_blkL.2 hg) with e | e
          · exact HNN.out g (mem_blkL.1 e)
          · have := HT1.out.lt; omega)
        have hS5 := HKN.out w5 hfT
        clear hr5 hf5 hfT HIN
        go_wp2_with fail
        refine hK.out _ _ hS5 (fun hHeld5 => ?_)
        clear hK K
        try simp only [Act.put, List.getElem_toArray, List.getElem_cons_zero, List.getElem_cons_succ, List.setIfInBounds_toArray, List.set_cons_zero, List.set_cons_succ]
        have hc5 := HT5.out.row
        have hf5 := HT5.out.frow
        have HS6 := Lib.hid (HKG.out w5 v5 hS5)
        refine wpAnyH_take (i := 11) (v := ?_) rfl (by kernel_rfl) (by kernel_rfl) (by kernel_rfl) (fun _ _ _ h => h) (Or.inl ⟨by rfl, ?_⟩) (by assumption) ?_
        rotate_left
        · (intro w hSw; go_simp; try (with_reducible rfl))
        try simp only [Act.put, List.getElem_toArray, List.getElem_cons_zero, List.getElem_cons_succ, List.setIfInBounds_toArray, List.set_cons_zero, List.set_cons_succ]
        refine wpAnyH_take (i := 12) (v := ?_) rfl (by kernel_rfl) (by kernel_rfl) (by kernel_rfl) (fun _ _ _ h => h) (Or.inl ⟨by rfl, ?_⟩) (by assumption) ?_
        rotate_left
        · (intro w hSw; go_simp; try (with_reducible rfl))
        try simp only [Act.put, List.getElem_toArray, List.getElem_cons_zero, List.getElem_cons_succ, List.setIfInBounds_toArray, List.set_cons_zero, List.set_cons_succ]
        refine wpAnyH_ready (rs := [13]) (by kernel_rfl) (by simp) ?_
        refine AllReadyH.one rfl rfl (fun K hK => ?_)
        rcases HR5.out.form with ⟨rfl, _⟩ | ⟨g5, cap5, rfl, _⟩
        · go_wp2_with fail
          refine hK.out _ _ HS6.out (fun hHeld6 => ?_)
          clear hK K
          try simp only [Act.put, List.getElem_toArray, List.getElem_cons_zero, List.getElem_cons_succ, List.setIfInBounds_toArray, List.set_cons_zero, List.set_cons_succ]
          refine wpAnyH_done (by kernel_rfl) ?_ _
          refine NoPanic.normal ?_
          go_wp2_with fail
          go_ret
          exact FIN w5 _ HT5 HR5 HF5 HN5
        · go_wp2_with fail
          refine hK.out _ _ HS6.out (fun hHeld6 => ?_)
          clear hK K
          try simp only [Act.put, List.getElem_toArray, List.getElem_cons_zero, List.getElem_cons_succ, List.setIfInBounds_toArray, List.set_cons_zero, List.set_cons_succ]
          refine wpAnyH_done (by kernel_rfl) ?_ _
          refine NoPanic.normal ?_
          go_wp2_with fail
          go_ret
          exact FIN w5 _ HT5 HR5 HF5 HN5
      · skip
        refine wp_build_entST H16 _ rfl rfl (fun V1 HVE => ?_)
        rw [HEL.out] at HVE
        have HV1 : Hid (Below w1.heap.size w1 V1) := Lib.hid (by rw [HVE.out]; exact (Below.refl _ _).drew.alloc (Nat.le_refl _) _)
        have hS1 := HKN.out V1 (v5 := v) (Foot.ofBelow _ HV1.out)
        refine hK.out _ _ hS1 (fun hHeld1 => ?_)
        clear hK K
        try simp only [Act.put, List.getElem_toArray, List.getElem_cons_zero, List.getElem_cons_succ, List.setIfInBounds_toArray, List.set_cons_zero, List.set_cons_succ]
        have hc1 : V1.cell? ⟨G, 0, none⟩ = some v := (HT1.out.below HV1.out).row
        refine wpAnyH_ready (rs := [4]) (by kernel_rfl) (by simp) ?_
        refine AllReadyH.one rfl rfl (fun K hK => ?_)
        go_wp2_with fail
        refine hK.out _ _ hS1 (fun hHeld0 => ?_)
        clear hK K
        try simp only [Act.put, List.getElem_toArray, List.getElem_cons_zero, List.getElem_cons_succ, List.setIfInBounds_toArray, List.set_cons_zero, List.set_cons_succ]
        refine wpAnyH_ready (rs := [10]) (by kernel_rfl) (by simp) ?_
        refine AllReadyH.cons rfl (fun K hK => ?_) AllReadyH.nil
        go_simp
        refine ((HIN V1 HV1).out HVE.out).mono ?_
        rintro e w5 ⟨v5, rfl, hr5, hf5⟩
        have hfT := (Foot.ofBelow (blkL v) HV1.out).trans hf5
        have HT5 := Lib.hid (HT1.out.foot hfT (fun e => HNN.out G (mem_blkL.1 e) rfl))
        have HR5 := Lib.hid hr5
        have HF5 := Lib.hid hfT
        have HN5 : Hid (∀ g, v5.ownBlock = some g → g ≠ G) := Lib.hid (fun g hg => by
          rcases hfT.new g (mem_blkL.2 hg) with e | e
          · exact HNN.out g (mem_blkL.1 e)
          · have := HT1.out.lt; omega)
        have hS5 := HKN.out w5 hfT
        clear hr5 hf5 hfT HIN
        go_wp2_with fail
        refine hK.out _ _ hS5 (fun hHeld5 => ?_)
        clear hK K
        try simp only [Act.put, List.getElem_toArray, List.getElem_cons_zero, List.getElem_cons_succ, List.setIfInBounds_toArray, List.set_cons_zero, List.set_cons_succ]
        have hc5 := HT5.out.row
        have hf5 := HT5.out.frow
        have HS6 := Lib.hid (HKG.out w5 v5 hS5)
        refine wpAnyH_take (i := 11) (v := ?_) rfl (by kernel_rfl) (by kernel_rfl) (by kernel_rfl) (fun _ _ _ h => h) (Or.inl ⟨by rfl, ?_⟩) (by assumption) ?_
        rotate_left
        · (intro w hSw; go_simp; try (with_reducible rfl))
        try simp only [Act.put, List.getElem_toArray, List.getElem_cons_zero, List.getElem_cons_succ, List.setIfInBounds_toArray, List.set_cons_zero, List.set_cons_succ]
        refine wpAnyH_take (i := 12) (v := ?_) rfl (by kernel_rfl) (by kernel_rfl) (by kernel_rfl) (fun _ _ _ h => h) (Or.inl ⟨by rfl, ?_⟩) (by assumption) ?_
        rotate_left
        · (intro w hSw; go_simp; try (with_reducible rfl))
        try simp only [Act.put, List.getElem_toArray, List.getElem_cons_zero, List.getElem_cons_succ, List.setIfInBounds_toArray, List.set_cons_zero, List.set_cons_succ]
        refine wpAnyH_ready (rs := [13]) (by kernel_rfl) (by simp) ?_
        refine AllReadyH.one rfl rfl (fun K hK => ?_)
        rcases HR5.out.form with ⟨rfl, _⟩ | ⟨g5, cap5, rfl, _⟩
        · go_wp2_with fail
          refine hK.out _ _ HS6.out (fun hHeld6 => ?_)
          clear hK K
          try simp only [Act.put, List.getElem_toArray, List.getElem_cons_zero, List.getElem_cons_succ, List.setIfInBounds_toArray, List.set_cons_zero, List.set_cons_succ]
          refine wpAnyH_done (by kernel_rfl) ?_ _
          refine NoPanic.normal ?_
          go_wp2_with fail
          go_ret
          exact FIN w5 _ HT5 HR5 HF5 HN5
        · go_wp2_with fail
          refine hK.out _ _ HS6.out (fun hHeld6 => ?_)
          clear hK K
          try simp only [Act.put, List.getElem_toArray, List.getElem_cons_zero, List.getElem_cons_succ, List.setIfInBounds_toArray, List.set_cons_zero, List.set_cons_succ]
          refine wpAnyH_done (by kernel_rfl) ?_ _
          refine NoPanic.normal ?_
          go_wp2_with fail
          go_ret
          exact FIN w5 _ HT5 HR5 HF5 HN5
end Go.Proofs.YtgbajagacmfcmaaDoor
/- Rows of raw entries; contract of table.New. -/
namespace Go.Proofs.YtgbajagacmfcmaaDoor
open Go.RowKit
set_option linter.unusedVariables false
set_option maxRecDepth 20000

/-- An entry as it is handed in: its prefix may be none that may be. -/
structure Raw where
  f : Int
  b : List Nat
  n : Int
  v : Int
def Raw.L (r : Raw) : List Value := entL r.f r.b r.n r.v
def Raw.Ok (r : Raw) : Prop := r.b.length = 16 ∧ (∀ y ∈ r.b, y < 256) ∧ (Lit.int .i64 r.n).wf = true ∧ (Lit.int .i64 r.v).wf = true
def flatR (rs : List Raw) : List Value := rs.flatMap Raw.L
def AllOk (rs : List Raw) : Prop := ∀ r ∈ rs, r.Ok
theorem Raw.L_len (r : Raw) (h : r.Ok) : r.L.length = 19 := entL_len r.f r.b r.n r.v h.1
theorem flatR_len : ∀ (rs : List Raw), AllOk rs → (flatR rs).length = rs.length * 19
  | [], _ => rfl
  | r :: rs, h => by
    have h1 := Raw.L_len r (h r (by simp))
    have h2 := flatR_len rs (fun x hx => h x (by simp [hx]))
    show (r.L ++ flatR rs).length = _
    rw [List.length_append, h1, h2, List.length_cons]
    omega
theorem flatR_at : ∀ (rs : List Raw), AllOk rs → ∀ k (hk : k < rs.length) j, j < 19 → (flatR rs)[k * 19 + j]? = (rs[k]).L[j]?
  | [], _, k, hk, j, hj => absurd hk (by simp)
  | r :: rs, h, k, hk, j, hj => by
    have h1 := Raw.L_len r (h r (by simp))
    show (r.L ++ flatR rs)[k * 19 + j]? = _
    cases k with
    | zero => rw [Nat.zero_mul, Nat.zero_add, List.getElem?_append_left (by omega)]; rfl
    | succ k =>
      rw [List.getElem?_append_right (by omega), h1, show (k + 1) * 19 + j - 19 = k * 19 + j by omega]
      exact flatR_at rs (fun x hx => h x (by simp [hx])) k (by simpa using hk) j hj
theorem range_raw {w : World} {g : Nat} {rs : List Raw} (h : w.rangeAt g 0 (flatR rs)) (hg : AllOk rs) (k : Nat) (hk : k < rs.length) : w.rangeAt g (k * 19) (entL rs[k].f rs[k].b rs[k].n rs[k].v) := by
  intro j u hu
  have hl := Raw.L_len (rs[k]) (hg _ (List.getElem_mem hk))
  have hj : j < 19 := by
    apply Classical.byContradiction
    intro h2
    rw [List.getElem?_eq_none (by show (rs[k]).L.length ≤ j; omega)] at hu
    cases hu
  have := h (k * 19 + j) u (by rw [flatR_at rs hg k hk j hj]; exact hu)
  rw [Nat.zero_add] at this
  exact this
/-- What there is when entries are set one behind the other. -/
def newE (rs : List Raw) (k : Nat) : List Ent := (rs.take k).foldl (fun es r => setE es r.f r.b r.n r.v) []
theorem newE_succ (rs : List Raw) (k : Nat) (hk : k < rs.length) : newE rs (k + 1) = setE (newE rs k) rs[k].f rs[k].b rs[k].n rs[k].v := foldl_take (fun (es : List Ent) (r : Raw) => setE es r.f r.b r.n r.v) [] rs k hk
theorem newE_len (rs : List Raw) : ∀ k, (newE rs k).length ≤ k
  | 0 => by simp [newE]
  | k + 1 => by
    by_cases hk : k < rs.length
    · rw [newE_succ rs k hk]
      have h1 := setE_len (newE rs k) rs[k].f rs[k].b rs[k].n rs[k].v
      have h2 := newE_len rs k
      omega
    · have : rs.take (k + 1) = rs.take k := by rw [List.take_of_length_le (by omega), List.take_of_length_le (by omega)]
      unfold newE
      rw [this]
      exact Nat.le_trans (newE_len rs k) (Nat.le_succ _)
theorem EntAt.val {w : World} {G : Nat} {f : Int} {bs : List Nat} {n v : Int} (h : EntAt w G f bs n v) : w.cell? ⟨G, 18, none⟩ = some (.int .i64 v) := by
  have := h.range 18 (.int .i64 v) (by unfold entL; rw [List.getElem?_append_right (by rw [prefL_len _ _ _ h.len]; exact Nat.le_refl _), prefL_len _ _ _ h.len]; rfl)
  rw [Nat.zero_add] at this
  exact this
theorem below_newT {w W : World} {f : Int} {bs : List Nat} {n v : Int} (h : Hid (W = (w.alloc (.cells zE 36)).setCells w.heap.size 0 (entL f bs n v))) : Below w.heap.size w W := by
  rw [h.out]; exact below_cells (Nat.le_refl _) _ _ _ ((Below.refl _ _).alloc (Nat.le_refl _) _)
/-- A fresh table of nothing. -/
theorem tab_new (w : World) : TabAt (w.alloc (.cells #[.slice none 0 0, .int .i64 0] 41)) w.heap.size [] 0 [w.heap.size] := by
  have hh : (w.alloc (.cells #[.slice none 0 0, .int .i64 0] 41)).heap[w.heap.size]? = some (.cells #[.slice none 0 0, .int .i64 0] 41) := by show (w.heap.push _)[w.heap.size]? = _; simp
  refine ⟨.slice none 0 0, rfl, ⟨by simp, ?_, ?_, ?_, ?_⟩, RowT.nil _ _, sorted_nil, (fun g hg => by cases hg)⟩
  · rw [cell_of_row _ _ 0 _ _ _ hh]; rfl
  · rw [cell_of_row _ _ 1 _ _ _ hh]; rfl
  · unfold World.frozen?; rw [hh]; rfl
  · unfold World.frozen?; rw [hh]; rfl
end Go.Proofs.YtgbajagacmfcmaaDoor
/- Rows of entries (table.Entry) that came in, opened. -/
namespace Go.Proofs.YtgbajagacmfcmaaDoor
open Go.ChangeShapes Go.WideShapes Go.ChangeAt Go.RowKit
set_option linter.unusedVariables false
set_option maxRecDepth 20000

theorem raw_of_trod {H : Type} {enc : TypeId × Value → H} {W : World} {spare : Nat → Bool} {fuel : Nat} {l : List Value} {x : DataW H × List MemPlace} (hl : l.length = 19)
    (hf : DataW.trod enc Tryd.prog W 0 spare true fuel 36 l = some x) : ∃ r : Raw, l = r.L ∧ r.Ok := by
  have hs := Tryd.underlying36
  obtain ⟨y0, y1, k, _, _, h0, h1⟩ := trod_struct2 hs hf
  have hc1 : Tryd.prog.cellsOf 3 = 1 := by kernel_rfl
  have hc18 : Tryd.prog.cellsOf 27 = 18 := by kernel_rfl
  rw [hc18] at h0
  rw [hc1] at h1
  obtain ⟨f, bs, n, e1, _, l1, b1, n1⟩ := pref_of_trod (by simp; omega) h0
  obtain ⟨v, h2, _, h3⟩ := DataW.trod_int Tryd.underlying3 h1
  refine ⟨⟨f, bs, n, v⟩, ?_, l1, b1, n1, h3⟩
  show l = entL f bs n v
  unfold entL
  have e2 : l = (l.drop 0).take 18 ++ (l.drop 18).take 1 := by
    have : (l.drop 18).take 1 = l.drop 18 := List.take_of_length_le (by simp; omega)
    rw [this, List.drop_zero, List.take_append_drop]
  rw [e2, e1, h2]
/-- A row of raw entries, as a walk reads it. -/
def RawsAt (W : World) (a : Option Addr) (len cap : Nat) (D : List Raw) : Prop := len ≤ cap ∧ cap ≤ maxLen ∧ D.length = len ∧ AllOk D ∧ (len = 0 ∨ ∃ g o, a = some ⟨g, o, none⟩ ∧ W.rangeAt g o (D.flatMap Raw.L) ∧ g < W.heap.size)
theorem open_ents {H : Type} {enc : TypeId × Value → H} {W : World} {spare : Nat → Bool} {a : Option Addr} {len cap : Nat} {d : DataW H} {ps : List MemPlace}
    (h : DataW.Trod enc Tryd.prog W 0 spare true 22 (.slice a len cap) d ps) : ∃ D, RawsAt W a len cap D := by
  obtain ⟨fuel, hf⟩ := h
  obtain ⟨h1, h2, h3⟩ := open_rows Raw.L 19 Raw.Ok Tryd.underlying22 (by kernel_rfl) (by decide) (fun n cs y hl ht => raw_of_trod hl ht) hf
  rcases h3 with h3 | ⟨g, o, D, e, hl, hq, hr, hg⟩
  · exact ⟨[], h1, h2, h3.symm, (fun d hd => absurd hd (by simp)), .inl h3⟩
  · exact ⟨D, h1, h2, hl, fun d hd => (hq d hd).1, .inr ⟨g, o, e, hr, hg⟩⟩
end Go.Proofs.YtgbajagacmfcmaaDoor
/- Plain facts: an address's prefixes, longest first, looked for by halves. -/
namespace Go.Proofs.YtgbajagacmfcmaaDoor
open Go.RowKit
set_option linter.unusedVariables false
set_option maxRecDepth 20000

section
variable {es : List Ent} {f : Int} {us : List Nat}
theorem has_mask {e : Ent} (hg : GoodP e.f e.b e.n) (hu : us.length = 16) : hasB e.f e.b e.n f us = true ↔ (e.n ≤ bitsN f ∧ isEnt f (withL (bitsN f) us e.n 0) (e.n : Int) e = true) := by
  rw [← has_same hg hu]
  unfold hasR isEnt
  rw [decide_eq_true_iff, decide_eq_true_iff]
  have hm : maskN f (e.n : Int) = min e.n (bitsN f) := by unfold maskN; simp
  constructor
  · rintro ⟨h1, h2, h3⟩
    rw [hm] at h2 h3
    have hle : e.n ≤ bitsN f := by omega
    rw [Nat.min_eq_left hle] at h2
    exact ⟨hle, h1, h2, rfl⟩
  · rintro ⟨hle, h1, h2, _⟩
    rw [hm, Nat.min_eq_left hle]
    exact ⟨h1, h2, rfl⟩
theorem mask_lt {b c : Nat} (h : b < c) (hc : c ≤ bitsN f) : cmpP f (withL (bitsN f) us b 0) (b : Int) f (withL (bitsN f) us c 0) (c : Int) < 0 := by
  have hN := bitsN_le f
  have h1 : cmpL (withL (bitsN f) us b 0) (withL (bitsN f) us c 0) ≤ 0 := cmpL_bits (withL_len _ _ _ _) (withL_len _ _ _ _) (withL_lt _ _ _ _ (by decide)) (withL_lt _ _ _ _ (by decide)) (fun i hi => by
    rw [bitA_with _ _ _ _ _ (by decide) hi, bitA_with _ _ _ _ _ (by decide) hi]
    unfold withF
    split
    · split
      · omega
      · rw [if_neg (by omega)]; exact Nat.le_refl _
    · exact Nat.le_refl _)
  unfold cmpP cmpA
  rw [if_pos rfl]
  split
  · unfold sgn3; rw [if_pos (by omega)]; decide
  · omega
theorem ent_mask {b : Nat} {e : Ent} (hg : GoodP e.f e.b e.n) (hu : us.length = 16) (hb : b ≤ bitsN f) (h : isEnt f (withL (bitsN f) us b 0) (b : Int) e = true) : e.n = b ∧ hasB e.f e.b e.n f us = true := by
  have h2 := h
  unfold isEnt at h2
  obtain ⟨e1, e2, e3⟩ := of_decide_eq_true h2
  have hn : e.n = b := by omega
  refine ⟨hn, (has_mask hg hu).2 ⟨by omega, ?_⟩⟩
  rw [hn]; exact h
theorem find_none (hg : AllGood es) (hu : us.length = 16) (h : ∀ e ∈ es, ∀ b, b ≤ bitsN f → isEnt f (withL (bitsN f) us b 0) (b : Int) e = false) : findE es f us = none := by
  cases hf : findE es f us with
  | none => rfl
  | some e =>
    obtain ⟨h1, h2, _⟩ := (findE_best es f us).2 e hf
    obtain ⟨h3, h4⟩ := (has_mask (hg e h1).1 hu).1 h2
    rw [h e h1 e.n h3] at h4
    cases h4
theorem same_ent (hs : SortedE es) (hg : AllGood es) {i j : Nat} (hi : i < es.length) (hj : j < es.length) (h1 : es[i].f = es[j].f) (h2 : es[i].b = es[j].b) (h3 : es[i].n = es[j].n) : i = j := by
  have zero : cmpP es[i].f es[i].b (es[i].n : Int) es[j].f es[j].b (es[j].n : Int) = 0 := (cmpP_zero _ _ _ _ _ _ (hg _ (List.getElem_mem hi)).1.len (hg _ (List.getElem_mem hj)).1.len).2 ⟨h1, h2, by rw [h3]⟩
  rcases Nat.lt_trichotomy i j with h | h | h
  · have := hs i j hi hj h; omega
  · exact h
  · have := hs j i hj hi h
    have h4 := cmpP_neg es[i].f es[i].b (es[i].n : Int) es[j].f es[j].b (es[j].n : Int)
    omega
theorem find_at (hg : AllGood es) (hs : SortedE es) (hu : us.length = 16) {i c : Nat} (hi : i < es.length) (hc : c ≤ bitsN f) (h : isEnt f (withL (bitsN f) us c 0) (c : Int) es[i] = true)
    (hB : ∀ e ∈ es, ∀ b, c < b → b ≤ bitsN f → isEnt f (withL (bitsN f) us b 0) (b : Int) e = false) : findE es f us = some es[i] := by
  obtain ⟨hn, hh⟩ := ent_mask (hg _ (List.getElem_mem hi)).1 hu hc h
  have best := findE_best es f us
  cases hf : findE es f us with
  | none => rw [best.1 hf _ (List.getElem_mem hi)] at hh; cases hh
  | some e =>
    obtain ⟨h1, h2, h3⟩ := best.2 e hf
    have h4 := h3 _ (List.getElem_mem hi) hh
    obtain ⟨h5, h6⟩ := (has_mask (hg e h1).1 hu).1 h2
    have hen : e.n = c := by
      rcases Nat.lt_or_ge c e.n with hlt | hge
      · rw [hB e h1 e.n hlt h5] at h6; cases h6
      · omega
    rw [hen] at h6
    unfold isEnt at h h6
    obtain ⟨a1, a2, a3⟩ := of_decide_eq_true h
    obtain ⟨b1, b2, b3⟩ := of_decide_eq_true h6
    obtain ⟨j, hj, rfl⟩ := List.getElem_of_mem h1
    have := same_ent hs hg hj hi (by rw [a1, b1]) (by rw [a2, b2]) (by omega)
    subst this
    rfl
/-- What is known when the prefixes of b and more bits have been looked for, in the first m entries at last. -/
def Looked (es : List Ent) (f : Int) (us : List Nat) (m b : Nat) : Prop :=
  m ≤ es.length ∧ (∀ j (h : j < es.length), m ≤ j → ∀ c, c < b → c ≤ bitsN f → isEnt f (withL (bitsN f) us c 0) (c : Int) es[j] = false) ∧ (∀ e ∈ es, ∀ c, b ≤ c → c ≤ bitsN f → isEnt f (withL (bitsN f) us c 0) (c : Int) e = false)
theorem looked_all : Looked es f us es.length (bitsN f + 1) := ⟨Nat.le_refl _, fun j h h2 => absurd h2 (by omega), fun e _ c h h2 => absurd h (by omega)⟩
theorem looked_end (hg : AllGood es) (hu : us.length = 16) {m : Nat} (h : Looked es f us m 0) : findE es f us = none := find_none hg hu (fun e he b hb => h.2.2 e he b (Nat.zero_le _) hb)
theorem looked_yes (hg : AllGood es) (hs : SortedE es) (hu : us.length = 16) {m c i : Nat} (h : Looked es f us m (c + 1)) (hc : c ≤ bitsN f) (hp : Place (es.take m) f (withL (bitsN f) us c 0) (c : Int) i true) : ∃ hi : i < es.length, i < m ∧ findE es f us = some es[i] := by
  obtain ⟨hi, h0⟩ := hp.isAt (good_take hg m) (withL_len _ _ _ _)
  rw [List.length_take] at hi
  rw [List.getElem_take] at h0
  exact ⟨by omega, by omega, find_at hg hs hu (by omega) hc h0 (fun e he b hb hb2 => h.2.2 e he b (by omega) hb2)⟩
theorem looked_no (hg : AllGood es) (hs : SortedE es) (hu : us.length = 16) {m c i : Nat} (h : Looked es f us m (c + 1)) (hc : c ≤ bitsN f) (hp : Place (es.take m) f (withL (bitsN f) us c 0) (c : Int) i false) : i ≤ m ∧ Looked es f us i c := by
  have hlm : (es.take m).length = m := by rw [List.length_take]; have := h.1; omega
  have hle := hp.le
  rw [hlm] at hle
  have hno := hp.none (good_take hg m) (sorted_take hs m) (withL_len _ _ _ _)
  have hcc : ∀ j (hj : j < es.length), isEnt f (withL (bitsN f) us c 0) (c : Int) es[j] = false := fun j hj => by
    by_cases hjm : j < m
    · have := hno ((es.take m)[j]'(by omega)) (List.getElem_mem _)
      rw [List.getElem_take] at this
      exact this
    · exact h.2.1 j hj (by omega) c (by omega) hc
  refine ⟨hle, by have := h.1; omega, fun j hj hij b hb hb2 => ?_, fun e he b hb hb2 => ?_⟩
  · by_cases hjm : j < m
    · have h1 := hp.hi j (by omega) hij
      rw [List.getElem_take] at h1
      cases hh : isEnt f (withL (bitsN f) us b 0) (b : Int) es[j] with
      | false => rfl
      | true =>
        exfalso
        unfold isEnt at hh
        obtain ⟨e1, e2, e3⟩ := of_decide_eq_true hh
        unfold cmpE at h1
        rw [e1, e2, e3] at h1
        have := mask_lt (us := us) hb hc
        omega
    · exact h.2.1 j hj (by omega) b (by omega) hb2
  · rcases Nat.lt_or_eq_of_le hb with hlt | rfl
    · exact h.2.2 e he b hlt hb2
    · obtain ⟨j, hj, rfl⟩ := List.getElem_of_mem he
      exact hcc j hj
end
end Go.Proofs.YtgbajagacmfcmaaDoor
/- A range over a function, walked with the plain laws: regions of a round; a range whose rounds all go on; one whose first round returns. -/
namespace Go.Proofs.YtgbajagacmfcmaaDoor
open Go.RowKit
set_option linter.unusedVariables false
set_option maxRecDepth 20000

section
variable {P : Program} {ops : Array Oper} {Q : Exit → Act → World → Prop} {n r : Nat}
theorem rows_in {row : String} {args : Array Value} {w : World} {R : Value → World → Prop} (h : Rows P row args w R) : RowsIn (Fence.wide.inRound r) n P row args w R := fun c cs _ => by
  obtain ⟨v, w', hr, hs⟩ := h c cs
  exact ⟨v, w', hr, stepsIn_wide.2 hs⟩
theorem depth_no : (Fence.wide.inRound r).depth.isSome = true → 1 ≤ n := fun h => by cases h
/-- An operation of a round. -/
theorem op_in {o : Oper} {a : Act} {w : World} {K : Act → World → Prop} (hd : ∀ c, o.op ≠ .defer c) (hq : ¬ LetsOut Q) (h : o.wp P a w K Q ∨ (o.asks P a w ∧ LetsOut Q)) : o.wpIn (Fence.wide.inRound r) n P a w K Q := by
  rcases h with h | ⟨_, h⟩
  · refine ⟨fun _ _ => trivial, ?_⟩
    rw [show o.semAt (Fence.wide.inRound r).round a.eval = execOp a.eval o from Oper.semAt_some r _ _ hd]
    unfold Oper.wp at h
    generalize (execOp a.eval o).run P w = x at *
    cases x with
    | ok y w' =>
      cases y <;> simp only [Oper.upon, Oper.uponIn] at h ⊢ <;> first
        | exact h
        | exact ⟨depth_no, CallsIn.inRound r (callsIn_wide.2 h)⟩
        | exact ⟨depth_no, rows_in h⟩
        | exact h.elim
    | halt y w' => cases y <;> simp only [Oper.upon, Oper.uponIn] at h ⊢ <;> first | exact h | exact h.elim
  · exact absurd h hq
theorem list_in (hq : ¬ LetsOut Q) : ∀ (l : List Oper) (a : Act) (w : World), (∀ o ∈ l, ∀ c, o.op ≠ .defer c) → wpList P ops Q l a w → wpListIn (Fence.wide.inRound r) n P ops Q l a w
  | [], _, _, _, h => h
  | o :: l, a, w, hd, h => by
    unfold wpListIn
    unfold wpList at h
    split
    · rename_i hw
      rw [if_pos hw] at h
      exact Oper.wpIn_mono (fun a w h => list_in hq l a w (fun o ho => hd o (List.mem_cons_of_mem _ ho)) h) (op_in (hd o (by simp)) hq h)
    · rename_i hw
      rw [if_neg hw] at h
      exact ⟨fun _ _ => trivial, list_in hq l _ w (fun o ho => hd o (List.mem_cons_of_mem _ ho)) h⟩
theorem any_in {md : Region.Mode} (hq : ¬ LetsOut Q) (hd : ∀ (i : Nat) (o : Oper), ops[i]? = some o → ∀ c, o.op ≠ .defer c) : ∀ (fuel : Nat) (listed : Array Bool) (a : Act) (w : World), wpAny P md ops Q fuel listed a w → wpAnyIn (Fence.wide.inRound r) n P md ops Q fuel listed a w
  | 0, _, _, _, h => h
  | fuel + 1, listed, a, w, h => by
    refine ⟨h.1, fun i hi => ?_⟩
    have h2 := h.2 i hi
    unfold wpOp at h2
    unfold wpOpIn
    cases ho : ops[i]? with
    | none => rw [ho] at h2; exact any_in hq hd fuel _ a w h2
    | some o =>
      rw [ho] at h2
      simp only at h2 ⊢
      split
      · rename_i hw
        rw [if_pos hw] at h2
        exact Oper.wpIn_mono (fun a w h => any_in hq hd fuel _ a w h) (op_in (hd i o ho) hq h2)
      · rename_i hw
        rw [if_neg hw] at h2
        exact ⟨fun _ _ => trivial, any_in hq hd fuel _ _ w h2⟩
/-- Operations none of which defers. -/
def noDefer (l : List Oper) : Bool := l.all fun o => match o.op with
  | .defer _ => false
  | _ => true
theorem noDefer_spec {l : List Oper} (h : noDefer l = true) : ∀ o ∈ l, ∀ c, o.op ≠ .defer c := fun o ho c e => by
  have := List.all_eq_true.1 h o ho
  rw [e] at this
  cases this
/-- A plain region of a round. -/
theorem round_region {id : Nat} {l : List Oper} {a : Act} {w : World} (hd : noDefer l = true) (hq : ¬ LetsOut Q) (h : wpList P l.toArray Q l a w) : (Code.region id l.toArray false).wpIn (Fence.wide.inRound r) n P Q a w :=
  wpIn_region_lit (list_in hq l a w (noDefer_spec hd) h)
/-- A region of a round that draws its order. -/
theorem round_drawn {id : Nat} {l : List Oper} {a : Act} {w : World} {S : World → Prop} (hm : P.follows .mixedOrders = true) (hd : noDefer l = true) (hq : ¬ LetsOut Q) (hS : S w.drew)
    (h : S w.drew → wpAnyH P .any l.toArray Q S l.toArray.size (Array.replicate l.toArray.size false) a w.drew) : (Code.region id l.toArray true).wpIn (Fence.wide.inRound r) n P Q a w := by
  refine wpIn_region_draw fun t => ?_
  have h1 := any_in (r := r) (n := n) hq (fun i o ho => noDefer_spec hd o (by
    have := Array.mem_of_getElem? ho
    simpa using this)) _ _ _ _ (wpAny_of_held _ _ _ _ (h hS))
  have h2 := wpAnyIn_sound _ t _ _ _ h1
  unfold Region.schedule
  rw [hm]
  exact h2
end
end Go.Proofs.YtgbajagacmfcmaaDoor
/- A range over a function: the law where each round goes on, and the law where the first round returns. -/
namespace Go.Proofs.YtgbajagacmfcmaaDoor
open Go.RowKit
set_option linter.unusedVariables false
set_option maxRecDepth 20000

section
variable {P : Program} {α : Type}
theorem foot_put (W : World) (l : Nat) (o : Obj) : Foot [l] [l] W (W.putObj l o) :=
  ⟨rfl, rfl, rfl, by simp, fun k _ hn => World.putObj_heap_other (fun e => hn (by simp [e])), fun k hk => .inl hk⟩
theorem below_put {W : World} {l n : Nat} (o : Obj) (h : n ≤ l) : Below n W (W.putObj l o) :=
  ⟨rfl, rfl, rfl, by simp, fun k hk => World.putObj_heap_other (by omega)⟩
/-- A call of yield, as an operation of a plain function's walk. -/
theorem yield_step {ops : Array Oper} {rest : List Oper} {o : Oper} {a : Act} {w : World} {Q : Exit → Act → World → Prop} {l : Nat} {v : Value} {ts : Array TypeId} {R : Ending → World → Prop} (hY : YieldAt Fence.wide 0 P l #[v] w R)
    (hw : Region.wanted o (yielded ops a.tmps) = true) (x y : Operand) (ho : o.op = .call { callee := .value x, args := #[y], argTypes := ts })
    (hx : a.eval x = .func (.yield l) #[] #[]) (hy : a.eval y = v) (h : ∀ e w', R e w' → ∃ u, e = .returned u ∧ wpListIn Fence.wide 0 P ops Q rest (a.put o.dst u) w') : wpListIn Fence.wide 0 P ops Q (o :: rest) a w := by
  obtain ⟨fn, tmps, assign, body, hr, hR⟩ := hY
  unfold wpListIn
  rw [if_pos hw]
  refine ⟨fun _ _ => trivial, ?_⟩
  have e : (o.semAt Fence.wide.round a.eval).run P w = .ok (.round l fn tmps assign body) w := by
    show (execOp a.eval o).run P w = _
    unfold execOp
    simp only [ho, resolve, List.map_toArray, List.map_cons, List.map_nil, hx, hy, Sem.run_bind]
    simp [Deferred.ofValue, invoke, hr]
  rw [e, Oper.uponIn_round]
  refine ⟨(fun h => by cases h), hR.mono fun e w' he => ?_⟩
  obtain ⟨u, rfl, hu⟩ := h e w' he
  exact hu
/-- An operation of a plain function's walk, by its plain law. -/
theorem wide_step {ops : Array Oper} {rest : List Oper} {o : Oper} {a : Act} {w : World} {Q : Exit → Act → World → Prop} {v : Value} (hw : Region.wanted o (yielded ops a.tmps) = true) (hr : (execOp a.eval o).run P w = .ok (.value v) w)
    (h : wpListIn Fence.wide 0 P ops Q rest (a.put o.dst v) w) : wpListIn Fence.wide 0 P ops Q (o :: rest) a w := by
  unfold wpListIn
  rw [if_pos hw]
  refine ⟨fun _ _ => trivial, ?_⟩
  rw [show (o.semAt Fence.wide.round a.eval).run P w = .ok (.value v) w from hr, Oper.uponIn_value]
  exact h
/-- What an iterator tells, one by one, where each round goes on and turns but the blocks M. -/
def Tells (P : Program) (gf : Nat) (lb : Array Value) (xs : List α) (enc : α → Value) (M : List Nat) (w : World) : Prop :=
  ∀ (l : Nat) (J : Nat → World → Prop) (W : World), Below w.heap.size w W → (∀ k A B, J k A → Below A.heap.size A B → J k B) →
    (∀ k (hk : k < xs.length) W1, J k W1 → YieldAt Fence.wide 0 P l #[enc xs[k]] W1 fun e W' => e = .returned (.bool true) ∧ J (k + 1) W' ∧ Foot M M W1 W') → J 0 W →
    CallsIn Fence.wide 0 P gf (#[.func (.yield l) #[] #[]] ++ lb) W fun e W' => (∃ v, e = .returned v) ∧ J xs.length W'
/-- The record of a loop. -/
def recOf (fn : FuncId) (a : Act) (ps : Array Tmp) (assign body : Code) (D : Nat) (st : LoopState) (pe : Option Code) : Loop := { state := st, pending := pe, fn, tmps := a.tmps, params := ps, assign, body, defers := D }
theorem zip_one (p : Tmp) (v : Value) (t : Array Value) : (#[p].zip #[v]).foldl (fun tmps (t, a) => tmps.setIfInBounds t a) t = t.setIfInBounds p v := by simp
theorem enter_law {g : Operand} {ps : Array Tmp} {assign body : Code} {Q : Exit → Act → World → Prop} {a : Act} {w : World} {gf : Nat} {lb : Array Value} (hg : a.eval g = .func (.func gf) #[] lb) (eg : ∀ args w, (callFunc gf args).run P w = .ok (.enter gf args) w)
    (h : ∀ fn W1, Below w.heap.size w W1 → W1.heap[w.heap.size + 1]? = some (.loop (recOf fn a ps assign body w.heap.size .ready none)) → W1.heap[w.heap.size]? = some (.deferred (some [])) →
      CallsIn Fence.wide 0 P gf (#[.func (.yield (w.heap.size + 1)) #[] #[]] ++ lb) W1 (rangePost Fence.wide 0 P (w.heap.size + 1) Q { a with defers := [{ target := .collected w.heap.size, args := #[] }] ++ a.defers })) :
    (Code.rangeFunc g ps assign body).wp P Q a w := by
  refine (wpIn_wide (n := 0)).1 (wpIn_rangeFunc fun fn _ => ?_)
  obtain ⟨W1, hW1⟩ : ∃ W1, (w.alloc (.deferred (some []))).alloc (.loop (recOf fn a ps assign body w.heap.size .ready none)) = W1 := ⟨_, rfl⟩
  have hL1 : W1.heap[w.heap.size + 1]? = some (.loop (recOf fn a ps assign body w.heap.size .ready none)) := by
    rw [← hW1]; have := World.alloc_heap_new (w.alloc (.deferred (some []))) (.loop (recOf fn a ps assign body w.heap.size .ready none)); rwa [World.size_alloc] at this
  have hK1 : W1.heap[w.heap.size]? = some (.deferred (some [])) := by
    rw [← hW1]; exact (Below.heap_alloc _ _ _ (by simp)).trans (World.alloc_heap_new w _)
  have hb1 : Below w.heap.size w W1 := by
    rw [← hW1]; exact ((Below.refl _ w).alloc (Nat.le_refl _) _).alloc (by simp) _
  have e1 : (Instr.enterLoop fn a.tmps ps assign body none).run P w = .ok (w.heap.size + 1, [{ target := .collected w.heap.size, args := #[] }]) W1 := by
    rw [← hW1]; exact run_enterLoop_outer _ _ _ _ _
  have e2 : (resolve a.eval (rangeCall g (w.heap.size + 1)) 0).run P W1 = .ok { target := .fn (.func gf) lb, args := #[.func (.yield (w.heap.size + 1)) #[] #[]] } W1 := by
    simp only [resolve, hg]
    simp [go_sem]
  have e3 : (invoke (.fn (.func gf) lb) #[.func (.yield (w.heap.size + 1)) #[] #[]]).run P W1 = .ok (.enter gf (#[.func (.yield (w.heap.size + 1)) #[] #[]] ++ lb)) W1 := by
    simp only [invoke]
    exact eg _ _
  have e4 := h fn W1 hb1 hL1 hK1
  clear hL1 hK1 hb1 hW1 h eg hg
  exact ⟨_, _, W1, _, W1, gf, _, W1, e1, e2, fun _ _ => trivial, e3, (fun h => by cases h), e4⟩
/-- The law where each round goes on. -/
theorem range_each {g : Operand} {p : Tmp} {assign body : Code} {Q : Exit → Act → World → Prop} {a : Act} {w : World} {gf : Nat} {lb : Array Value} (hg : a.eval g = .func (.func gf) #[] lb) (eg : ∀ args w, (callFunc gf args).run P w = .ok (.enter gf args) w)
    (xs : List α) (enc : α → Value) (M : List Nat) (hM : ∀ k ∈ M, k < w.heap.size) (w0 : World) (hseq : Tells P gf lb xs enc M w0) (hb0 : Below w0.heap.size w0 w)
    (I : Nat → World → Prop) (hI : ∀ k A B, I k A → Below w.heap.size A B → I k B) (h0 : I 0 w)
    (hround : ∀ l k (hk : k < xs.length) W, w.heap.size < l → l < W.heap.size → I k W →
      assign.wpIn (Fence.wide.inRound l) 0 P (Exit.then (fun a₁ w₁ => Below W.heap.size W w₁ ∧ ∀ w₂, Foot [l] [l] w₁ w₂ → body.wpIn (Fence.wide.inRound l) 0 P (fun e _ W3 => e = .normal ∧ Foot M M w₂ W3 ∧ I (k + 1) W3) a₁ w₂) (fun _ _ _ => False))
        { tmps := a.tmps.setIfInBounds p (enc xs[k]), defers := [] } W)
    (hdone : ∀ W, I xs.length W → W.heap[w.heap.size]? = some (.deferred (some [])) → Q .normal { a with defers := [{ target := .collected w.heap.size, args := #[] }] ++ a.defers } W) :
    (Code.rangeFunc g #[p] assign body).wp P Q a w := by
  refine enter_law hg eg fun fn W1 hb1 hL1 hK1 => ?_
  obtain ⟨l, hl⟩ : ∃ l, w.heap.size + 1 = l := ⟨_, rfl⟩
  rw [hl] at hL1 ⊢
  obtain ⟨rec, hrec⟩ : ∃ rec, recOf fn a #[p] assign body w.heap.size = rec := ⟨_, rfl⟩
  rw [hrec] at hL1
  refine (hseq l (fun k W => I k W ∧ W.heap[l]? = some (.loop (rec .ready none)) ∧ W.heap[w.heap.size]? = some (.deferred (some []))) W1 (hb0.trans (hb1.mono hb0.size)) ?_ ?_ ⟨hI 0 _ _ h0 hb1, hL1, hK1⟩).mono ?_
  · rintro k A B ⟨h1, h2, h3⟩ hb
    have hlA : l < A.heap.size := (Array.getElem?_eq_some_iff.1 h2).1
    exact ⟨hI k A B h1 (hb.mono (by omega)), (hb.block l hlA).trans h2, (hb.block w.heap.size (by omega)).trans h3⟩
  · rintro k hk W ⟨h1, h2, h3⟩
    have hlW : l < W.heap.size := (Array.getElem?_eq_some_iff.1 h2).1
    have hy := run_yield (P := P) (args := #[enc xs[k]]) h2 (by rw [← hrec]; simp [recOf])
    refine ⟨_, _, _, _, hy, roundIn_of_wpIn trivial ?_⟩
    rw [← hrec]
    show assign.wpIn _ _ _ _ { tmps := (#[p].zip #[_]).foldl _ a.tmps, defers := [] } W
    rw [zip_one]
    refine wpIn_mono (hround l k hk W (by omega) hlW h1) ?_
    rintro e a₁ w₁ he
    cases e with
    | normal =>
      obtain ⟨hb, hbody⟩ := he
      have hl1 : w₁.heap[l]? = some (.loop (rec .ready none)) := (hb.block l hlW).trans h2
      have hk1 : w₁.heap[w.heap.size]? = some (.deferred (some [])) := (hb.block _ (by omega)).trans h3
      have hll : l < w₁.heap.size := (Array.getElem?_eq_some_iff.1 hl1).1
      refine ⟨_, run_beginRound hl1 (by rw [← hrec]; rfl), ?_⟩
      refine wpIn_mono (hbody _ (foot_put w₁ l _)) ?_
      rintro e a₂ W3 ⟨rfl, hf, hi3⟩
      have hlM : l ∉ M := fun e => by have := hM l e; omega
      have hDM : w.heap.size ∉ M := fun e => by have := hM _ e; omega
      have hl3 := (hf.keep l (by simpa using hll) hlM).trans (World.putObj_heap_same hll)
      have hr3 := run_endRound (P := P) (none : Option Code) hl3
      refine ⟨_, _, hr3, rfl, ⟨hI _ _ _ hi3 (below_put _ (by omega)), ?_, ?_⟩, ?_⟩
      · rw [World.putObj_heap_same (Array.getElem?_eq_some_iff.1 hl3).1, ← hrec]; rfl
      · rw [World.putObj_heap_other (by omega), hf.keep _ (by simp; omega) hDM, World.putObj_heap_other (by omega)]; exact hk1
      · refine ⟨?_, ?_, ?_, ?_, fun j hj hn => ?_, fun j hj => .inl hj⟩
        · exact hf.os.trans hb.os
        · exact hf.tape.trans hb.tape
        · exact hf.output.trans hb.output
        · have := hf.size; have := hb.size; simp at *; omega
        · by_cases e : j = l
          · subst e
            rw [World.putObj_heap_same (Array.getElem?_eq_some_iff.1 hl3).1, h2, ← hrec]; rfl
          · rw [World.putObj_heap_other e, hf.keep j (by have := hb.size; simp; omega) hn, World.putObj_heap_other e]
            exact hb.block j hj
    | exit id => exact he.elim
    | goto t => exact he.elim
    | ret => exact he.elim
    | panic c => exact he.elim
    | outgrown => exact he.elim
  · rintro e W2 ⟨⟨v, rfl⟩, hi, h2, h3⟩
    refine ⟨none, _, by have := run_endLoop (P := P) h2 (by rw [← hrec]; simp [recOf]); rw [← hrec] at this; exact this, hdone _ (hI _ _ _ hi (below_put _ (by omega))) ((World.putObj_heap_other (by omega)).trans h3)⟩
/-- What an iterator tells whose first round says 'no more'; it turns the block G alone. -/
def TellsOne (P : Program) (gf : Nat) (lb : Array Value) (best : Option α) (enc : α → Value) (G : Nat) (Inv : World → Prop) (w : World) : Prop :=
  ∀ (l : Nat) (Jx : World → Prop) (W : World), Below w.heap.size w W →
    (∀ x W1, best = some x → Inv W1 → Foot [G] [G] W W1 → YieldAt Fence.wide 0 P l #[enc x] W1 fun e W' => e = .returned (.bool false) ∧ Jx W') →
    CallsIn Fence.wide 0 P gf (#[.func (.yield l) #[] #[]] ++ lb) W fun e W' => (∃ v, e = .returned v) ∧ ((best = none ∧ Inv W' ∧ Foot [G] [G] W W') ∨ (∃ x, best = some x ∧ Jx W'))
/-- The law where the first round returns. -/
theorem range_one {g : Operand} {p : Tmp} {assign body : Code} {Q : Exit → Act → World → Prop} {a : Act} {w : World} {gf : Nat} {lb : Array Value} (hg : a.eval g = .func (.func gf) #[] lb) (eg : ∀ args w, (callFunc gf args).run P w = .ok (.enter gf args) w)
    (best : Option α) (enc : α → Value) (G : Nat) (hG : G < w.heap.size) (Inv : World → Prop) (w0 : World) (hseq : TellsOne P gf lb best enc G Inv w0) (hb0 : Below w0.heap.size w0 w)
    (M : List Nat) (hM : ∀ k ∈ M, k < w.heap.size) (J : World → Prop) (hJ : ∀ A B, J A → Below w.heap.size A B → J B) (hInv : ∀ A B, Inv A → Below w.heap.size A B → Inv B)
    (hround : ∀ l x W, best = some x → w.heap.size < l → l < W.heap.size → Inv W → (∀ j, j < w.heap.size → j ≠ G → W.heap[j]? = w.heap[j]?) → W.os = w.os → W.tape = w.tape → W.output = w.output →
      assign.wpIn (Fence.wide.inRound l) 0 P (Exit.then (fun a₁ w₁ => Below W.heap.size W w₁ ∧ ∀ w₂, Foot [l] [l] w₁ w₂ → body.wpIn (Fence.wide.inRound l) 0 P (fun e _ W3 => e = .ret ∧ Foot M M w₂ W3 ∧ J W3) a₁ w₂) (fun _ _ _ => False))
        { tmps := a.tmps.setIfInBounds p (enc x), defers := [] } W)
    (hdone : ∀ W, best = none → Inv W → (∀ j, j < w.heap.size → j ≠ G → W.heap[j]? = w.heap[j]?) → w.heap.size ≤ W.heap.size → W.os = w.os → W.tape = w.tape → W.output = w.output → W.heap[w.heap.size]? = some (.deferred (some [])) → Q .normal { a with defers := [{ target := .collected w.heap.size, args := #[] }] ++ a.defers } W)
    (hstop : ∀ x W, best = some x → J W → W.heap[w.heap.size]? = some (.deferred (some [])) → Q .ret { a with defers := [{ target := .collected w.heap.size, args := #[] }] ++ a.defers } W) :
    (Code.rangeFunc g #[p] assign body).wp P Q a w := by
  refine enter_law hg eg fun fn W1 hb1 hL1 hK1 => ?_
  obtain ⟨l, hl⟩ : ∃ l, w.heap.size + 1 = l := ⟨_, rfl⟩
  rw [hl] at hL1 ⊢
  obtain ⟨rec, hrec⟩ : ∃ rec, recOf fn a #[p] assign body w.heap.size = rec := ⟨_, rfl⟩
  rw [hrec] at hL1
  have hlW1 : l < W1.heap.size := (Array.getElem?_eq_some_iff.1 hL1).1
  refine (hseq l (fun W => J W ∧ W.heap[l]? = some (.loop (rec .done (some .ret))) ∧ W.heap[w.heap.size]? = some (.deferred (some []))) W1 (hb0.trans (hb1.mono hb0.size)) ?_).mono ?_
  · rintro x W hx hinv hfW
    have h2 := (hfW.keep l hlW1 (by simp; omega)).trans hL1
    have h3 := (hfW.keep _ (by omega) (by simp; omega)).trans hK1
    have hlW : l < W.heap.size := (Array.getElem?_eq_some_iff.1 h2).1
    have hy := run_yield (P := P) (args := #[enc x]) h2 (by rw [← hrec]; simp [recOf])
    refine ⟨_, _, _, _, hy, roundIn_of_wpIn trivial ?_⟩
    rw [← hrec]
    show assign.wpIn _ _ _ _ { tmps := (#[p].zip #[_]).foldl _ a.tmps, defers := [] } W
    rw [zip_one]
    refine wpIn_mono (hround l x W hx (by omega) hlW hinv (fun j hj hn => (hfW.keep j (by omega) (by simpa using hn)).trans (hb1.block j hj)) (hfW.os.trans hb1.os) (hfW.tape.trans hb1.tape) (hfW.output.trans hb1.output)) ?_
    rintro e a₁ w₁ he
    cases e with
    | normal =>
      obtain ⟨hb, hbody⟩ := he
      have hl1 : w₁.heap[l]? = some (.loop (rec .ready none)) := (hb.block l hlW).trans h2
      have hk1 : w₁.heap[w.heap.size]? = some (.deferred (some [])) := (hb.block _ (by omega)).trans h3
      have hll : l < w₁.heap.size := (Array.getElem?_eq_some_iff.1 hl1).1
      refine ⟨_, run_beginRound hl1 (by rw [← hrec]; rfl), ?_⟩
      refine wpIn_mono (hbody _ (foot_put w₁ l _)) ?_
      rintro e a₂ W3 ⟨rfl, hf, hi3⟩
      have hlM : l ∉ M := fun e => by have := hM l e; omega
      have hDM : w.heap.size ∉ M := fun e => by have := hM _ e; omega
      have hl3 := (hf.keep l (by simpa using hll) hlM).trans (World.putObj_heap_same hll)
      have hr3 := run_endRound (P := P) (some Code.ret) hl3
      refine ⟨_, _, hr3, rfl, hJ _ _ hi3 (below_put _ (by omega)), ?_, ?_⟩
      · rw [World.putObj_heap_same (Array.getElem?_eq_some_iff.1 hl3).1, ← hrec]; rfl
      · rw [World.putObj_heap_other (by omega), hf.keep _ (by simp; omega) hDM, World.putObj_heap_other (by omega)]; exact hk1
    | exit id => exact he.elim
    | goto t => exact he.elim
    | ret => exact he.elim
    | panic c => exact he.elim
    | outgrown => exact he.elim
  · rintro e W2 ⟨⟨v, rfl⟩, ⟨hb, hinv, hf⟩ | ⟨x, hx, hj, h2, h3⟩⟩
    · have h2 := (hf.keep l hlW1 (by simp; omega)).trans hL1
      have h3 := (hf.keep _ (by omega) (by simp; omega)).trans hK1
      have hsz := hf.size
      refine ⟨none, _, by have := run_endLoop (P := P) h2 (by rw [← hrec]; simp [recOf]); rw [← hrec] at this; exact this, hdone _ hb (hInv _ _ hinv (below_put _ (by omega))) (fun j hj hn => ?_) (by simp; omega) (hf.os.trans hb1.os) (hf.tape.trans hb1.tape) (hf.output.trans hb1.output) ((World.putObj_heap_other (by omega)).trans h3)⟩
      rw [World.putObj_heap_other (by omega)]
      exact (hf.keep j (by omega) (by simpa using hn)).trans (hb1.block j hj)
    · exact ⟨some .ret, _, by have := run_endLoop (P := P) h2 (by rw [← hrec]; simp [recOf]); rw [← hrec] at this; exact this, wpIn_ret (hstop x _ hx (hJ _ _ hj (below_put _ (by omega))) ((World.putObj_heap_other (by omega)).trans h3))⟩
end
end Go.Proofs.YtgbajagacmfcmaaDoor
/- Contracts of slices.Clone, slices.Values and Table.All: the iterator that All answers. -/
namespace Go.Proofs.YtgbajagacmfcmaaDoor
open Go.RowKit
set_option linter.unusedVariables false
set_option maxRecDepth 20000

def encE (e : Ent) : Value := entV e.f e.b (e.n : Int) e.v
theorem wp_of_listIn {P : Program} {id : Nat} {l : List Oper} {Q : Exit → Act → World → Prop} {a : Act} {w : World} (h : wpListIn Fence.wide 0 P l.toArray Q l a w) : (Code.region id l.toArray false).wp P Q a w :=
  (wpIn_wide (n := 0)).1 (wpIn_region_lit h)
theorem exec_entT {o : Oper} {a : Act} {w : World} {G b : Nat} {f : Int} {bs : List Nat} {n v : Int} (hl : bs.length = 16) (hA : w.rangeAt G b (entL f bs n v)) (x : Operand) (ho : o.op = .load 36 x) (hx : a.eval x = .pointer (some ⟨G, b, none⟩)) :
    (execOp a.eval o).run Tryd.prog w = .ok (.value (entV f bs n v)) w := by
  unfold execOp
  simp only [ho, hx, Sem.run_bind, run_loadAt_mid w G b 36 (entL f bs n v) _ hA Tryd.underlying36 rfl (by rw [entT_size, entL_len f bs n v hl])]
  rfl
end Go.Proofs.YtgbajagacmfcmaaDoor
/- Contract of the iterator that Table.having answers. -/
namespace Go.Proofs.YtgbajagacmfcmaaDoor
open Go.RowKit
set_option linter.unusedVariables false
set_option maxRecDepth 20000

theorem yields_addr_l {ops : Array Oper} {op : Oper} {a : Act} {L : List (Nat × Nat × List Value)} {G o : Nat} {f : Int} {bs : List Nat} (hl : Hid (bs.length = 16)) (hm : Hid (InL L G o (addrL f bs))) (hw : Region.wanted op (yielded ops a.tmps) = true) (x : Operand) (ho : op.op = .load 25 x)
    (hx : a.eval x = .pointer (some ⟨G, o, none⟩)) : YieldsIf Tryd.prog ops (HeldL L) op (addrV f bs) a :=
  yieldsIf_load_mid hw 25 x ho G o hx (addrL f bs) _ (fun w h => hm.out w h) Tryd.underlying25 rfl (by rw [addr_size, addrL_len f bs hl.out])
theorem hold_cmps (G : Nat) (v : Value) (st : Int) (f : Int) (bs : List Nat) (n : Int) (es : List Ent) (hg : AllGood es) (h16 : bs.length = 16) (hlt : ∀ y ∈ bs, y < 256) (h0 : 0 ≤ st) (h1 : st ≤ 900000) : Cmps 66 #[.pointer (some ⟨G, 0, none⟩)] f bs n es [G] (fun c W => Tab W G v (st + (c : Int))) := by
  intro c W e hc he hT
  have hG := hg e he
  have := tabHold_any G v (st + (c : Int)) e.f e.b (e.n : Int) e.v f bs n W hT (by omega) (by omega) hG.1.len h16 hG.1.lt hlt
  exact this.mono fun x w' ⟨h1, h2, h3⟩ => ⟨h1, by show Tab w' G v (st + ((c + 1 : Nat) : Int)); rw [show st + ((c + 1 : Nat) : Int) = st + (c : Int) + 1 by omega]; exact h2, h3⟩
theorem exec_indexT {o : Oper} {a : Act} {w : World} {g m cap i : Nat} (x y : Operand) (ho : o.op = .indexAddr 22 x y) (hx : a.eval x = .slice (some ⟨g, 0, none⟩) m cap) (hy : a.eval y = .int .i64 (i : Int)) (hi : i < m) :
    (execOp a.eval o).run Tryd.prog w = .ok (.value (.pointer (some ⟨g, i * 19, none⟩))) w := by
  have hu := run_underlying Tryd.underlying22 (w := w)
  have hb1 : (0 : Int) ≤ (i : Int) := by omega
  have hb2 : (i : Int) < (m : Int) := by omega
  have hz := sizeT w
  unfold execOp
  simp only [ho, hx, hy]
  go_simp
/-- What is kept while an address is looked for. -/
def FindInv (G : Nat) (es : List Ent) (st : Int) (F : List Nat) (W : World) : Prop := ∃ st', TabAt W G es st' F ∧ st ≤ st' ∧ st' ≤ st + 129 * ((bl es.length : Int) + 1)
set_option maxRecDepth 100000 in
set_option maxHeartbeats 2000000 in
theorem having1_some (G Bt Ba g cap : Nat) (es : List Ent) (st : Int) (f : Int) (us : List Nat) (w : World) (hT : Tab w G (.slice (some ⟨g, 0, none⟩) es.length cap) st) (hR : RowT w 0 (.slice (some ⟨g, 0, none⟩) es.length cap) es) (hs : SortedE es) (hgG : g ≠ G)
    (hBt : w.cell? ⟨Bt, 0, none⟩ = some (.pointer (some ⟨G, 0, none⟩))) (hBa : AddrAt w Ba f us) (hlt : ∀ y ∈ us, y < 256) (htG : Bt ≠ G) (haG : Ba ≠ G) (h0 : 0 ≤ st) (h1 : st ≤ 800000) :
    TellsOne Tryd.prog 62 #[.pointer (some ⟨Bt, 0, none⟩), .pointer (some ⟨Ba, 0, none⟩)] (findE es f us) encE G (FindInv G es st [G, g]) w := by
  intro l Jx W hb hY
  have hBtl : Bt < w.heap.size := World.block_lt_of_cell? w ⟨Bt, 0, none⟩ hBt
  have hle := hR.2.2
  have hcap : es.length ≤ cap := by
    rcases hR.form with ⟨e, _⟩ | ⟨g', cap', e, _, _, h, _⟩
    · cases e
    · cases e; exact h
  have hcm : cap ≤ maxLen := by
    rcases hR.form with ⟨e, _⟩ | ⟨g', cap', e, _, _, _, h, _⟩
    · cases e
    · cases e; exact h
  have hmx : maxLen ≤ 9223372036854775807 := by unfold maxLen; omega
  have HG := Lib.hid hR.2.1
  have HSO := Lib.hid hs
  have H16 := Lib.hid hBa.len
  have HLT := Lib.hid hlt
  have HT0 := Lib.hid (hT.below hb)
  have HR0 := Lib.hid (hR.below hb)
  have HA0 := Lib.hid (hBa.below hb)
  have hbt : W.cell? ⟨Bt, 0, none⟩ = some (.pointer (some ⟨G, 0, none⟩)) := (hb.cell (p := ⟨Bt, 0, none⟩) hBtl).trans hBt
  have HBT := Lib.hid hbt
  have HBTL : Hid (Bt < W.heap.size) := Lib.hid (Nat.lt_of_lt_of_le hBtl hb.size)
  have hrow := HT0.out.row
  have HY := Lib.hid hY
  have HBI := fun W => Lib.hid (addrBits_any f us W hBa.len)
  have HNB := bitsN_le f
  have hblh := Lib.hid (bl_small hle)
  clear hT hR hs hBt hBa hlt hb hY hBtl
  refine callsIn_of_wp Tryd.func62 rfl trivial (wpIn_wide.2 ?_)
  simp only [Tryd.ntmps62, List.size_toArray, List.length_cons, List.length_nil, Nat.reduceAdd, Nat.reduceSub, Array.replicate_succ, Array.replicate_zero, List.push_toArray, List.append_toArray, List.nil_append, List.cons_append]
  go_wp2_with (refine load_addr_g HA0 _ rfl rfl rfl ?_)
  refine (HBI _).out.mono ?_
  rintro e w1 ⟨rfl, hb1⟩
  have HB1 := Lib.hid (Foot.ofBelow [G] hb1)
  have HT1 := Lib.hid (HT0.out.below hb1)
  clear hb1 hrow hbt HBI
  go_wp2_with fail
  have HF0 := Lib.hid HB1.out
  go_loopw [4, 5] (fun s4 s5 wr => ∃ (m b q : Nat), s4 = .slice (some ⟨g, 0, none⟩) m cap ∧ s5 = .int .i64 ((b : Int) - 1) ∧ m ≤ es.length ∧ b ≤ bitsN f + 1 ∧ Hid (Looked es f us m b) ∧ Hid (Tab wr G (.slice (some ⟨g, 0, none⟩) es.length cap) (st + (q : Int))) ∧ Hid (q ≤ (bitsN f + 1 - b) * (bl es.length + 1)) ∧ Hid (Foot [G] [G] W wr)) (fun _ s5 _ => (intOf s5 + 1).toNat)
  case atStart => exact ⟨es.length, bitsN f + 1, 0, rfl, by rw [show ((bitsN f + 1 : Nat) : Int) - 1 = ((bitsN f : Nat) : Int) by omega], Nat.le_refl _, Nat.le_refl _, Lib.hid looked_all, Lib.hid (by rw [show st + ((0 : Nat) : Int) = st by omega]; exact HT1.out), Lib.hid (Nat.zero_le _), HF0⟩
  case round =>
    clear HT1 HB1 HF0
    obtain ⟨m, b, q, rfl, rfl, hml, hbn, HLK, HTr, HQ, HFr⟩ := hrel
    have HINV : Hid (∀ W' (q' : Nat), Tab W' G (.slice (some ⟨g, 0, none⟩) es.length cap) (st + (q' : Int)) → q' ≤ 129 * (bl es.length + 1) → Foot [G] [G] W W' → FindInv G es st [G, g] W') := Lib.hid (fun W' q' ht hq hf => ⟨st + (q' : Int), ⟨_, rfl, ht, HR0.out.foot hf (fun k hk => by cases hk; simp; omega), HSO.out, fun k hk => by cases hk; exact hgG⟩, by omega, by omega⟩)
    by_cases hb0 : b = 0
    · subst hb0
      have hd : decide ((0 : Int) ≤ ((0 : Nat) : Int) - 1) = false := by decide
      have HNONE := Lib.hid (looked_end HG.out H16.out HLK.out)
      have HFI := Lib.hid (HINV.out wr q HTr.out (by have h1 := HQ.out; have h2 : (bitsN f + 1 - 0) * (bl es.length + 1) ≤ 129 * (bl es.length + 1) := Nat.mul_le_mul_right _ (by omega); omega) HFr.out)
      clear HINV HLK HY HTr
      go_wp2_with fail
      go_end0
      exact ⟨⟨_, rfl⟩, .inl ⟨HNONE.out, HFI.out, HFr.out⟩⟩
    · obtain ⟨c, rfl⟩ : ∃ c, b = c + 1 := ⟨b - 1, by omega⟩
      rw [show ((c + 1 : Nat) : Int) - 1 = ((c : Nat) : Int) by omega]
      have hd : decide ((0 : Int) ≤ (c : Int)) = true := by simp
      have hcN : c ≤ bitsN f := by omega
      have hmask : maskN f (c : Int) = c := by unfold maskN; simp; omega
      have HMK : Hid (Calls Tryd.prog 65 #[addrV f us, .int .i64 (c : Int)] wr.drew fun e w' => e = .returned (prefV f (withL (bitsN f) us c 0) (c : Int)) ∧ Below wr.drew.heap.size wr.drew w') := Lib.hid (by
        have := cidrMask_any f us (c : Int) wr.drew H16.out HLT.out (wf_small (by omega))
        rw [hmask] at this
        exact this)
      have HSE : ∀ V, Hid (Below wr.drew.heap.size wr.drew V → Calls Tryd.prog 64 #[.slice (some ⟨g, 0, none⟩) m cap, prefV f (withL (bitsN f) us c 0) (c : Int), .func (.func 66) #[.pointer (some ⟨G, 0, none⟩)] #[]] V fun e w' =>
          ∃ (i : Nat) (t : Bool) (q' : Nat), e = .returned (.tuple #[.int .i64 (i : Int), .bool t]) ∧ Place (es.take m) f (withL (bitsN f) us c 0) (c : Int) i t ∧ Tab w' G (.slice (some ⟨g, 0, none⟩) es.length cap) (st + (q' : Int)) ∧ q' ≤ (bitsN f + 1 - c) * (bl es.length + 1) ∧ Foot [G] [G] W w') := fun V => Lib.hid (fun hbV => by
        have hfV : Foot [G] [G] W V := (HFr.out.trans (Foot.ofBelow _ (Below.refl _ _).drew)).trans (Foot.ofBelow _ hbV)
        have hRV : RowT V 0 (.slice (some ⟨g, 0, none⟩) es.length cap) es := HR0.out.foot hfV (fun k hk => by cases hk; simp; omega)
        have hTV : Tab V G (.slice (some ⟨g, 0, none⟩) es.length cap) (st + (q : Int)) := (HTr.out.below (Below.refl _ _).drew).below hbV
        rcases hRV.form with ⟨e, _⟩ | ⟨g', cap', e, _, hgl, _, _, hrg⟩
        · cases e
        · cases e
          have hlm : (es.take m).length = m := by rw [List.length_take]; omega
          have hq := HQ.out
          have hq2 : (bitsN f + 1 - (c + 1)) * (bl es.length + 1) ≤ 129 * 11 := Nat.mul_le_mul (by omega) (by have := hblh.out; omega)
          have := search_any 66 #[.pointer (some ⟨G, 0, none⟩)] (enters_of Tryd.func66 (by kernel_rfl) rfl) f (withL (bitsN f) us c 0) (c : Int) g cap (es.take m) [G] (fun j V => Tab V G (.slice (some ⟨g, 0, none⟩) es.length cap) (st + (q : Int) + (j : Int))) V (cell_take hrg m) hgl (by simp; omega) (by simp; exact hTV.lt) (by omega) (good_take HG.out m) (sorted_take HSO.out m) (withL_len _ _ _ _) (hold_cmps G _ _ _ _ _ _ (good_take HG.out m) (withL_len _ _ _ _) (withL_lt _ _ _ _ (by decide)) (by omega) (by omega)) (fun j A B h hb => h.below hb) (by show Tab V G _ (st + (q : Int) + ((0 : Nat) : Int)); rw [show st + (q : Int) + ((0 : Nat) : Int) = st + (q : Int) by omega]; exact hTV)
          rw [hlm] at this
          refine this.mono ?_
          rintro e w' ⟨i, t, j, h1, h2, h3, h4, h5⟩
          refine ⟨i, t, q + j, h1, h2, by rw [show st + ((q + j : Nat) : Int) = st + (q : Int) + (j : Int) by omega]; exact h3, ?_, hfV.trans h5⟩
          have h6 := bl_mono es.length m hml
          have h7 : (bitsN f + 1 - c) * (bl es.length + 1) = (bitsN f + 1 - (c + 1)) * (bl es.length + 1) + (bl es.length + 1) := by rw [show bitsN f + 1 - c = (bitsN f + 1 - (c + 1)) + 1 by omega, Nat.succ_mul]
          omega)
      go_upto_region 4 with fail
      obtain ⟨L, hL⟩ : ∃ L, [(Bt, 0, [Value.pointer (some ⟨G, 0, none⟩)]), (Ba, 0, addrL f us)] = L := ⟨_, rfl⟩
      have HKW : Hid (∀ V, Foot [G] [G] W V → HeldL L V) := Lib.hid (fun V hf => by
        rw [← hL]; intro x hx
        simp only [List.mem_cons, List.not_mem_nil, or_false] at hx
        rcases hx with rfl | rfl
        · refine range_foot hf (fun j u hu => ?_) HBTL.out (by simp; exact htG)
          cases j with
          | zero => rw [Nat.add_zero, HBT.out]; exact hu
          | succ j => simp at hu
        · exact range_foot hf HA0.out.range HA0.out.lt (by simp; exact haG))
      have HKD := Lib.hid (HKW.out wr.drew (HFr.out.trans (Foot.ofBelow _ (Below.refl _ _).drew)))
      have MA : Hid (InL L Ba 0 (addrL f us)) := Lib.hid (fun W h => h.get (by rw [← hL]; simp))
      have CP : Hid (∀ w', HeldL L w' → w'.cell? ⟨Bt, 0, none⟩ = some (.pointer (some ⟨G, 0, none⟩))) := Lib.hid (fun w' h => h.get (b := Bt) (o := 0) (cs := [Value.pointer (some ⟨G, 0, none⟩)]) (by rw [← hL]; simp) 0 _ rfl)
      clear hL hmask
      refine wp_region_noPanic ?_
      refine wp_region_held_drew (S := HeldL L) (by kernel_rfl) HKD.out (fun hHeld => ?_)
      refine wpAnyH_take (i := 0) (v := ?_) rfl (by kernel_rfl) (by kernel_rfl) (by kernel_rfl) (fun _ _ _ h => h) (Or.inl ⟨by rfl, ?_⟩) (by assumption) ?_
      rotate_left
      · (intro w hSw; go_simp; try (with_reducible rfl))
      try simp only [Act.put, List.getElem_toArray, List.getElem_cons_zero, List.setIfInBounds_toArray, List.set_cons_zero, List.set_cons_succ]
      refine wpAnyH_take (i := 1) rfl (by kernel_rfl) (by kernel_rfl) (by kernel_rfl) (fun _ _ _ h => h) (yields_addr_l H16 MA (by rfl) _ rfl rfl) (by assumption) ?_
      try simp only [Act.put, List.getElem_toArray, List.getElem_cons_zero, List.getElem_cons_succ, List.setIfInBounds_toArray, List.set_cons_zero, List.set_cons_succ]
      refine wpAnyH_take (i := 2) (v := ?_) rfl (by kernel_rfl) (by kernel_rfl) (by kernel_rfl) (fun _ _ _ h => h) (Or.inl ⟨by rfl, ?_⟩) (by assumption) ?_
      rotate_left
      · (intro w hSw; go_simp; try (with_reducible rfl))
      try simp only [Act.put, List.getElem_toArray, List.getElem_cons_zero, List.getElem_cons_succ, List.setIfInBounds_toArray, List.set_cons_zero, List.set_cons_succ]
      refine wpAnyH_take (i := 4) (v := ?_) rfl (by kernel_rfl) (by kernel_rfl) (by kernel_rfl) (fun _ _ _ h => h) (Or.inl ⟨by rfl, ?_⟩) (by assumption) ?_
      rotate_left
      · (intro w hSw; have hc0 := CP.out w hSw; go_simp; try (with_reducible rfl))
      try simp only [Act.put, List.getElem_toArray, List.getElem_cons_zero, List.getElem_cons_succ, List.setIfInBounds_toArray, List.set_cons_zero, List.set_cons_succ]
      refine wpAnyH_take (i := 5) (v := ?_) rfl (by kernel_rfl) (by kernel_rfl) (by kernel_rfl) (fun _ _ _ h => h) (Or.inl ⟨by rfl, ?_⟩) (by assumption) ?_
      rotate_left
      · (intro w hSw; go_simp; try (with_reducible rfl))
      try simp only [Act.put, List.getElem_toArray, List.getElem_cons_zero, List.getElem_cons_succ, List.setIfInBounds_toArray, List.set_cons_zero, List.set_cons_succ]
      refine wpAnyH_ready (rs := [3]) (by kernel_rfl) (by simp) ?_
      refine AllReadyH.cons rfl (fun K hK => ?_) AllReadyH.nil
      go_simp
      refine HMK.out.mono ?_
      rintro e V ⟨rfl, hbV⟩
      have HBV := Lib.hid hbV
      have hSV := HKW.out V ((HFr.out.trans (Foot.ofBelow _ (Below.refl _ _).drew)).trans (Foot.ofBelow _ hbV))
      clear hbV HMK
      go_wp2_with fail
      refine hK.out _ _ hSV (fun hHeldV => ?_)
      clear hK K
      try simp only [Act.put, List.getElem_toArray, List.getElem_cons_zero, List.getElem_cons_succ, List.setIfInBounds_toArray, List.set_cons_zero, List.set_cons_succ]
      refine wpAnyH_ready (rs := [6]) (by kernel_rfl) (by simp) ?_
      refine AllReadyH.cons rfl (fun K hK => ?_) AllReadyH.nil
      go_simp
      refine ((HSE V).out HBV.out).mono ?_
      rintro e w6 ⟨i, t, q6, rfl, hp6, hT6, hq6, hf6⟩
      have HP6 := Lib.hid hp6
      have HT6 := Lib.hid hT6
      have HQ6 := Lib.hid hq6
      have HF6 := Lib.hid hf6
      have hS6 := HKW.out w6 hf6
      clear hp6 hT6 hq6 hf6 HSE
      go_wp2_with fail
      refine hK.out _ _ hS6 (fun hHeld6 => ?_)
      clear hK K
      try simp only [Act.put, List.getElem_toArray, List.getElem_cons_zero, List.getElem_cons_succ, List.setIfInBounds_toArray, List.set_cons_zero, List.set_cons_succ]
      refine wpAnyH_take (i := 7) (v := ?_) rfl (by kernel_rfl) (by kernel_rfl) (by kernel_rfl) (fun _ _ _ h => h) (Or.inl ⟨by rfl, ?_⟩) (by assumption) ?_
      rotate_left
      · (intro w hSw; go_simp; try (with_reducible rfl))
      try simp only [Act.put, List.getElem_toArray, List.getElem_cons_zero, List.getElem_cons_succ, List.setIfInBounds_toArray, List.set_cons_zero, List.set_cons_succ]
      refine wpAnyH_take (i := 8) (v := ?_) rfl (by kernel_rfl) (by kernel_rfl) (by kernel_rfl) (fun _ _ _ h => h) (Or.inl ⟨by rfl, ?_⟩) (by assumption) ?_
      rotate_left
      · (intro w hSw; go_simp; try (with_reducible rfl))
      try simp only [Act.put, List.getElem_toArray, List.getElem_cons_zero, List.getElem_cons_succ, List.setIfInBounds_toArray, List.set_cons_zero, List.set_cons_succ]
      refine wpAnyH_take (i := 9) (v := ?_) rfl (by kernel_rfl) (by kernel_rfl) (by kernel_rfl) (fun _ _ _ h => h) (Or.inl ⟨by rfl, ?_⟩) (by assumption) ?_
      rotate_left
      · (intro w hSw; go_simp; try (with_reducible rfl))
      try simp only [Act.put, List.getElem_toArray, List.getElem_cons_zero, List.getElem_cons_succ, List.setIfInBounds_toArray, List.set_cons_zero, List.set_cons_succ]
      refine wpAnyH_take (i := 10) (v := ?_) rfl (by kernel_rfl) (by kernel_rfl) (by kernel_rfl) (fun _ _ _ h => h) (Or.inl ⟨by rfl, ?_⟩) (by assumption) ?_
      rotate_left
      · (intro w hSw; go_simp; try (with_reducible rfl))
      try simp only [Act.put, List.getElem_toArray, List.getElem_cons_zero, List.getElem_cons_succ, List.setIfInBounds_toArray, List.set_cons_zero, List.set_cons_succ]
      refine wpAnyH_take (i := 11) (v := ?_) rfl (by kernel_rfl) (by kernel_rfl) (by kernel_rfl) (fun _ _ _ h => h) (Or.inl ⟨by rfl, ?_⟩) (by assumption) ?_
      rotate_left
      · (intro w hSw; go_simp; try (with_reducible rfl))
      try simp only [Act.put, List.getElem_toArray, List.getElem_cons_zero, List.getElem_cons_succ, List.setIfInBounds_toArray, List.set_cons_zero, List.set_cons_succ]
      refine wpAnyH_done (by kernel_rfl) ?_ _
      refine NoPanic.normal ?_
      cases t with
      | false =>
        obtain ⟨him, hlk⟩ := looked_no HG.out HSO.out H16.out HLK.out hcN HP6.out
        have HLK2 := Lib.hid hlk
        have hic : (i : Int) ≤ (cap : Int) := by omega
        have hw1 : IntKind.i64.wrap ((c : Int) - 1) = (c : Int) - 1 := by rw [IntKind.wrap_i64]; omega
        clear hlk HP6 HLK HINV HY
        go_wp2_with fail
        go_roundw
        case rel => exact ⟨i, c, q6, rfl, rfl, by omega, by omega, HLK2, HT6, HQ6, HF6⟩
        case measure => simp [intOf]
      | true =>
        obtain ⟨hil, him, hfd⟩ := looked_yes HG.out HSO.out H16.out HLK.out hcN HP6.out
        have HFI := Lib.hid (HINV.out w6 q6 HT6.out (by have h1 := HQ6.out; have h2 : (bitsN f + 1 - c) * (bl es.length + 1) ≤ 129 * (bl es.length + 1) := Nat.mul_le_mul_right _ (by omega); omega) HF6.out)
        have HYY := Lib.hid (HY.out es[i] w6 hfd HFI.out HF6.out)
        have HFD : Hid (∃ x, findE es f us = some x ∧ x = es[i]) := Lib.hid ⟨_, hfd, rfl⟩
        have HRI : Hid (w6.rangeAt g (i * 19) (entL es[i].f es[i].b (es[i].n : Int) es[i].v)) := Lib.hid (by
          have hRV : RowT w6 0 (.slice (some ⟨g, 0, none⟩) es.length cap) es := HR0.out.foot HF6.out (fun k hk => by cases hk; simp; omega)
          rcases hRV.form with ⟨e, _⟩ | ⟨g', cap', e, _, hgl, _, _, hrg⟩
          · cases e
          · cases e; exact range_ent hrg HG.out i hil)
        have HL16 : Hid (es[i].b.length = 16) := Lib.hid (HG.out _ (List.getElem_mem hil)).1.len
        have HENC : Hid (encE es[i] = entV es[i].f es[i].b (es[i].n : Int) es[i].v) := Lib.hid rfl
        rw [HENC.out] at HYY
        obtain ⟨y, hy⟩ : ∃ y, es[i] = y := ⟨_, rfl⟩
        rw [hy] at HYY HRI HL16 HFD
        clear hy hfd HLK HP6 HINV HY HENC
        have hb1 : (0 : Int) ≤ (i : Int) := by omega
        have hb2 : (i : Int) < (m : Int) := by omega
        go_upto_region 5 with fail
        refine wp_of_listIn ?_
        refine wide_step (v := .bool true) rfl rfl ?_
        simp only [Act.put, List.setIfInBounds_toArray, List.set_cons_zero, List.set_cons_succ]
        refine wide_step (v := .bool true) rfl rfl ?_
        simp only [Act.put, List.setIfInBounds_toArray, List.set_cons_zero, List.set_cons_succ]
        refine wide_step (v := .func (.yield l) #[] #[]) rfl rfl ?_
        simp only [Act.put, List.setIfInBounds_toArray, List.set_cons_zero, List.set_cons_succ]
        refine wide_step (v := .slice (some ⟨g, 0, none⟩) m cap) rfl rfl ?_
        simp only [Act.put, List.setIfInBounds_toArray, List.set_cons_zero, List.set_cons_succ]
        refine wide_step (v := .int .i64 (i : Int)) rfl rfl ?_
        simp only [Act.put, List.setIfInBounds_toArray, List.set_cons_zero, List.set_cons_succ]
        refine wide_step (v := .pointer (some ⟨g, i * 19, none⟩)) rfl (exec_indexT _ _ rfl rfl rfl him) ?_
        simp only [Act.put, List.setIfInBounds_toArray, List.set_cons_zero, List.set_cons_succ]
        refine wide_step (v := entV y.f y.b (y.n : Int) y.v) rfl (exec_entT HL16.out HRI.out _ rfl rfl) ?_
        simp only [Act.put, List.setIfInBounds_toArray, List.set_cons_zero, List.set_cons_succ]
        refine yield_step HYY.out rfl _ _ rfl rfl rfl ?_
        rintro e w7 ⟨rfl, hj7⟩
        refine ⟨_, rfl, ?_⟩
        have HJ7 := Lib.hid hj7
        clear hj7 HYY
        simp only [Act.put, List.setIfInBounds_toArray, List.set_cons_zero, List.set_cons_succ]
        refine wide_step (v := .bool true) rfl rfl ?_
        simp only [Act.put, List.setIfInBounds_toArray, List.set_cons_zero, List.set_cons_succ]
        refine wide_step (v := .bool true) rfl rfl ?_
        simp only [Act.put, List.setIfInBounds_toArray, List.set_cons_zero, List.set_cons_succ]
        refine wpListIn_nil ?_
        go_wp2_with fail
        refine bodyPost_ret (results_none rfl _ _ _) rfl ?_
        obtain ⟨x, hx, _⟩ := HFD.out
        exact ⟨⟨_, rfl⟩, .inr ⟨x, hx, HJ7.out⟩⟩
end Go.Proofs.YtgbajagacmfcmaaDoor
/- Contracts of slices.Clone and Table.All. -/
namespace Go.Proofs.YtgbajagacmfcmaaDoor
open Go.RowKit
set_option linter.unusedVariables false
set_option maxRecDepth 20000

theorem run_build0 (w : World) : (Instr.buildSlice 22 0 #[]).run Tryd.prog w = .ok (.slice (some ⟨w.heap.size, 0, none⟩) 0 0) (w.alloc (.cells #[] 36)) := by
  have hu : (underlying 22).run Tryd.prog w = .ok _ w := run_underlying Tryd.underlying22 w
  have hnr : ∀ cs : Array Value, (newRow 36 cs).run Tryd.prog w = .ok ⟨w.heap.size, 0, none⟩ (w.alloc (.cells cs 36)) := fun cs => by simp [newRow]
  unfold Instr.buildSlice
  simp [Sem.run_bind, hu, hnr, Instr.fill]
  rw [show Array.map (fun _ => (default : Value)) (Array.range 0) = #[] from Array.eq_empty_of_size_eq_zero (by simp)]
theorem build_step0 {ops : Array Oper} {rest : List Oper} {op : Oper} {a : Act} {w : World} {Q : Exit → Act → World → Prop} (hg : op.guard = none) (ho : op.op = .buildSlice 22 0 #[])
    (h : ∀ W, Hid (W = w.alloc (.cells #[] 36)) → wpList Tryd.prog ops Q rest (a.put op.dst (.slice (some ⟨w.heap.size, 0, none⟩) 0 0)) W) : wpList Tryd.prog ops Q (op :: rest) a w := by
  refine wpList_plain hg fun K hK => ?_
  unfold Oper.wp execOp
  simp only [ho, List.map_toArray, List.map_nil, Sem.run_bind, run_build0 w, Result.andThen_ok]
  exact hK _ _ (h _ (Lib.hid rfl))
theorem rowT_empty (w : World) : RowT (w.alloc (.cells #[] 36)) w.heap.size (.slice (some ⟨w.heap.size, 0, none⟩) 0 0) [] :=
  ⟨⟨rfl, .inr ⟨w.heap.size, 0, #[], rfl, Nat.le_refl _, by show (w.heap.push _)[w.heap.size]? = _; simp, Nat.le_refl _, Nat.zero_le _, rfl, rfl⟩⟩, (fun e he => by cases he), by decide⟩
end Go.Proofs.YtgbajagacmfcmaaDoor
/- Contract of abatislaw06.like, over the landed table. -/
namespace Go.Proofs.YtgbajagacmfcmaaDoor
open Go.RowKit
set_option linter.unusedVariables false
set_option maxRecDepth 20000

theorem func_equal (w : World) (d k : Nat) (c : Array Value) : (Op.equalIn (d + 1) 92 (.func (.func k) #[] c) .nilFunc).run Tryd.prog w = .ok false w := by
  simp [Op.equalIn, run_underlying Tryd.underlying92]
theorem func_not_nil (w : World) (k : Nat) (c : Array Value) : (binOp .eql 92 (.func (.func k) #[] c) .nilFunc).run Tryd.prog w = .ok (.bool false) w := by
  have := func_equal w 9999 k c
  simp only [binOp, Op.equal, Sem.run_bind]
  rw [show Op.maxDepth = 9999 + 1 from rfl, this]
  rfl
theorem cell1_set {w : World} {b : Nat} {u : Value} {t : TypeId} (h : w.heap[b]? = some (.cells #[u] t)) (x : Value) : (w.setCell ⟨b, 0, none⟩ x).heap[b]? = some (.cells #[x] t) := by
  obtain ⟨hlt, hk⟩ := Array.getElem?_eq_some_iff.1 h
  show (w.heap.modify b _)[b]? = _
  rw [Array.getElem?_eq_getElem (by rw [Array.size_modify]; exact hlt), Array.getElem_modify_self, hk]
  rfl
/-- A result that lies in a cell of bool. -/
theorem results_bool {fn : Func} {t : Tmp} {tmps : Array Value} {W : World} {R : Nat} {b : Bool} (h : fn.results = #[.cell t 4]) (ht : tmps.getD t undef = .pointer (some ⟨R, 0, none⟩)) (hc : W.cell? ⟨R, 0, none⟩ = some (.bool b)) : (results fn tmps).run Tryd.prog W = .ok (.bool b) W := by
  have hl : (loadVar 4 ⟨R, 0, none⟩).run Tryd.prog W = .ok (.bool b) W := by
    simp [go_sem, hc]
  rw [Array.getD_eq_getD_getElem?] at ht
  simp [results, h, ht, asAddr, hl]
end Go.Proofs.YtgbajagacmfcmaaDoor
/- Contract of Table.Find. -/
namespace Go.Proofs.YtgbajagacmfcmaaDoor
open Go.RowKit
set_option linter.unusedVariables false
set_option maxRecDepth 20000

set_option maxRecDepth 100000 in
set_option maxHeartbeats 2000000 in
theorem having1_nil (G Bt Ba : Nat) (st : Int) (f : Int) (us : List Nat) (w : World) (hT : Tab w G (.slice none 0 0) st)
    (hBt : w.cell? ⟨Bt, 0, none⟩ = some (.pointer (some ⟨G, 0, none⟩))) (hBa : AddrAt w Ba f us) (hlt : ∀ y ∈ us, y < 256) :
    TellsOne Tryd.prog 62 #[.pointer (some ⟨Bt, 0, none⟩), .pointer (some ⟨Ba, 0, none⟩)] (findE [] f us) encE G (FindInv G [] st [G]) w := by
  intro l Jx W hb hY
  have hBtl : Bt < w.heap.size := World.block_lt_of_cell? w ⟨Bt, 0, none⟩ hBt
  have H16 := Lib.hid hBa.len
  have HLT := Lib.hid hlt
  have HT0 := Lib.hid (hT.below hb)
  have HA0 := Lib.hid (hBa.below hb)
  have hbt : W.cell? ⟨Bt, 0, none⟩ = some (.pointer (some ⟨G, 0, none⟩)) := (hb.cell (p := ⟨Bt, 0, none⟩) hBtl).trans hBt
  have HBT := Lib.hid hbt
  have HBTL : Hid (Bt < W.heap.size) := Lib.hid (Nat.lt_of_lt_of_le hBtl hb.size)
  have hrow := HT0.out.row
  have HBI := fun W => Lib.hid (addrBits_any f us W hBa.len)
  have HNB := bitsN_le f
  clear hT hBt hBa hlt hb hY hBtl
  refine callsIn_of_wp Tryd.func62 rfl trivial (wpIn_wide.2 ?_)
  simp only [Tryd.ntmps62, List.size_toArray, List.length_cons, List.length_nil, Nat.reduceAdd, Nat.reduceSub, Array.replicate_succ, Array.replicate_zero, List.push_toArray, List.append_toArray, List.nil_append, List.cons_append]
  go_wp2_with (refine load_addr_g HA0 _ rfl rfl rfl ?_)
  refine (HBI _).out.mono ?_
  rintro e w1 ⟨rfl, hb1⟩
  have HB1 := Lib.hid hb1
  clear hb1 hrow hbt HBI
  go_wp2_with fail
  go_loopw [4, 5] (fun s4 s5 wr => ∃ (b : Nat), s4 = .slice none 0 0 ∧ s5 = .int .i64 ((b : Int) - 1) ∧ b ≤ bitsN f + 1 ∧ Hid (Below W.heap.size W wr)) (fun _ s5 _ => (intOf s5 + 1).toNat)
  case atStart => exact ⟨bitsN f + 1, rfl, by rw [show ((bitsN f + 1 : Nat) : Int) - 1 = ((bitsN f : Nat) : Int) by omega], Nat.le_refl _, HB1⟩
  case round =>
    clear HB1
    obtain ⟨b, rfl, rfl, hbn, HBr⟩ := hrel
    by_cases hb0 : b = 0
    · subst hb0
      have hd : decide ((0 : Int) ≤ ((0 : Nat) : Int) - 1) = false := by decide
      go_wp2_with fail
      go_end0
      exact ⟨⟨_, rfl⟩, .inl ⟨rfl, ⟨st, ⟨_, rfl, HT0.out.below HBr.out, RowT.nil _ _, sorted_nil, (fun g hg => by cases hg)⟩, by omega, by omega⟩, Foot.ofBelow _ HBr.out⟩⟩
    · obtain ⟨c, rfl⟩ : ∃ c, b = c + 1 := ⟨b - 1, by omega⟩
      rw [show ((c + 1 : Nat) : Int) - 1 = ((c : Nat) : Int) by omega]
      have hd : decide ((0 : Int) ≤ (c : Int)) = true := by simp
      have hmask : maskN f (c : Int) = c := by unfold maskN; simp; omega
      have HMK : Hid (Calls Tryd.prog 65 #[addrV f us, .int .i64 (c : Int)] wr.drew fun e w' => e = .returned (prefV f (withL (bitsN f) us c 0) (c : Int)) ∧ Below wr.drew.heap.size wr.drew w') := Lib.hid (by
        have := cidrMask_any f us (c : Int) wr.drew H16.out HLT.out (wf_small (by omega))
        rw [hmask] at this
        exact this)
      have HSE := fun V => Lib.hid (search_nil (.func (.func 66) #[.pointer (some ⟨G, 0, none⟩)] #[]) f (withL (bitsN f) us c 0) (c : Int) V (withL_len _ _ _ _))
      go_upto_region 4 with fail
      obtain ⟨L, hL⟩ : ∃ L, [(Bt, 0, [Value.pointer (some ⟨G, 0, none⟩)]), (Ba, 0, addrL f us)] = L := ⟨_, rfl⟩
      have HKW : Hid (∀ V, Below W.heap.size W V → HeldL L V) := Lib.hid (fun V hf => by
        rw [← hL]; intro x hx
        simp only [List.mem_cons, List.not_mem_nil, or_false] at hx
        rcases hx with rfl | rfl
        · refine range_belowB (fun j u hu => ?_) hf HBTL.out
          cases j with
          | zero => rw [Nat.add_zero, HBT.out]; exact hu
          | succ j => simp at hu
        · exact range_belowB HA0.out.range hf HA0.out.lt)
      have HKD := Lib.hid (HKW.out wr.drew HBr.out.drew)
      have MA : Hid (InL L Ba 0 (addrL f us)) := Lib.hid (fun W h => h.get (by rw [← hL]; simp))
      have CP : Hid (∀ w', HeldL L w' → w'.cell? ⟨Bt, 0, none⟩ = some (.pointer (some ⟨G, 0, none⟩))) := Lib.hid (fun w' h => h.get (b := Bt) (o := 0) (cs := [Value.pointer (some ⟨G, 0, none⟩)]) (by rw [← hL]; simp) 0 _ rfl)
      clear hL hmask
      refine wp_region_noPanic ?_
      refine wp_region_held_drew (S := HeldL L) (by kernel_rfl) HKD.out (fun hHeld => ?_)
      refine wpAnyH_take (i := 0) (v := ?_) rfl (by kernel_rfl) (by kernel_rfl) (by kernel_rfl) (fun _ _ _ h => h) (Or.inl ⟨by rfl, ?_⟩) (by assumption) ?_
      rotate_left
      · (intro w hSw; go_simp; try (with_reducible rfl))
      try simp only [Act.put, List.getElem_toArray, List.getElem_cons_zero, List.setIfInBounds_toArray, List.set_cons_zero, List.set_cons_succ]
      refine wpAnyH_take (i := 1) rfl (by kernel_rfl) (by kernel_rfl) (by kernel_rfl) (fun _ _ _ h => h) (yields_addr_l H16 MA (by rfl) _ rfl rfl) (by assumption) ?_
      try simp only [Act.put, List.getElem_toArray, List.getElem_cons_zero, List.getElem_cons_succ, List.setIfInBounds_toArray, List.set_cons_zero, List.set_cons_succ]
      refine wpAnyH_take (i := 2) (v := ?_) rfl (by kernel_rfl) (by kernel_rfl) (by kernel_rfl) (fun _ _ _ h => h) (Or.inl ⟨by rfl, ?_⟩) (by assumption) ?_
      rotate_left
      · (intro w hSw; go_simp; try (with_reducible rfl))
      try simp only [Act.put, List.getElem_toArray, List.getElem_cons_zero, List.getElem_cons_succ, List.setIfInBounds_toArray, List.set_cons_zero, List.set_cons_succ]
      refine wpAnyH_take (i := 4) (v := ?_) rfl (by kernel_rfl) (by kernel_rfl) (by kernel_rfl) (fun _ _ _ h => h) (Or.inl ⟨by rfl, ?_⟩) (by assumption) ?_
      rotate_left
      · (intro w hSw; have hc0 := CP.out w hSw; go_simp; try (with_reducible rfl))
      try simp only [Act.put, List.getElem_toArray, List.getElem_cons_zero, List.getElem_cons_succ, List.setIfInBounds_toArray, List.set_cons_zero, List.set_cons_succ]
      refine wpAnyH_take (i := 5) (v := ?_) rfl (by kernel_rfl) (by kernel_rfl) (by kernel_rfl) (fun _ _ _ h => h) (Or.inl ⟨by rfl, ?_⟩) (by assumption) ?_
      rotate_left
      · (intro w hSw; go_simp; try (with_reducible rfl))
      try simp only [Act.put, List.getElem_toArray, List.getElem_cons_zero, List.getElem_cons_succ, List.setIfInBounds_toArray, List.set_cons_zero, List.set_cons_succ]
      refine wpAnyH_ready (rs := [3]) (by kernel_rfl) (by simp) ?_
      refine AllReadyH.cons rfl (fun K hK => ?_) AllReadyH.nil
      go_simp
      refine HMK.out.mono ?_
      rintro e V ⟨rfl, hbV⟩
      have HBV := Lib.hid (HBr.out.drew.trans (hbV.mono HBr.out.size))
      have hSV := HKW.out V HBV.out
      clear hbV HMK
      go_wp2_with fail
      refine hK.out _ _ hSV (fun hHeldV => ?_)
      clear hK K
      try simp only [Act.put, List.getElem_toArray, List.getElem_cons_zero, List.getElem_cons_succ, List.setIfInBounds_toArray, List.set_cons_zero, List.set_cons_succ]
      refine wpAnyH_ready (rs := [6]) (by kernel_rfl) (by simp) ?_
      refine AllReadyH.cons rfl (fun K hK => ?_) AllReadyH.nil
      go_simp
      refine (HSE V).out.mono ?_
      rintro e w6 ⟨rfl, hb6⟩
      have HB6 := Lib.hid (HBV.out.trans (hb6.mono HBV.out.size))
      have hS6 := HKW.out w6 HB6.out
      clear hb6 HSE
      go_wp2_with fail
      refine hK.out _ _ hS6 (fun hHeld6 => ?_)
      clear hK K
      try simp only [Act.put, List.getElem_toArray, List.getElem_cons_zero, List.getElem_cons_succ, List.setIfInBounds_toArray, List.set_cons_zero, List.set_cons_succ]
      refine wpAnyH_take (i := 7) (v := ?_) rfl (by kernel_rfl) (by kernel_rfl) (by kernel_rfl) (fun _ _ _ h => h) (Or.inl ⟨by rfl, ?_⟩) (by assumption) ?_
      rotate_left
      · (intro w hSw; go_simp; try (with_reducible rfl))
      try simp only [Act.put, List.getElem_toArray, List.getElem_cons_zero, List.getElem_cons_succ, List.setIfInBounds_toArray, List.set_cons_zero, List.set_cons_succ]
      refine wpAnyH_take (i := 8) (v := ?_) rfl (by kernel_rfl) (by kernel_rfl) (by kernel_rfl) (fun _ _ _ h => h) (Or.inl ⟨by rfl, ?_⟩) (by assumption) ?_
      rotate_left
      · (intro w hSw; go_simp; try (with_reducible rfl))
      try simp only [Act.put, List.getElem_toArray, List.getElem_cons_zero, List.getElem_cons_succ, List.setIfInBounds_toArray, List.set_cons_zero, List.set_cons_succ]
      refine wpAnyH_take (i := 9) (v := ?_) rfl (by kernel_rfl) (by kernel_rfl) (by kernel_rfl) (fun _ _ _ h => h) (Or.inl ⟨by rfl, ?_⟩) (by assumption) ?_
      rotate_left
      · (intro w hSw; go_simp; try (with_reducible rfl))
      try simp only [Act.put, List.getElem_toArray, List.getElem_cons_zero, List.getElem_cons_succ, List.setIfInBounds_toArray, List.set_cons_zero, List.set_cons_succ]
      refine wpAnyH_take (i := 10) (v := ?_) rfl (by kernel_rfl) (by kernel_rfl) (by kernel_rfl) (fun _ _ _ h => h) (Or.inl ⟨by rfl, ?_⟩) (by assumption) ?_
      rotate_left
      · (intro w hSw; go_simp; try (with_reducible rfl))
      try simp only [Act.put, List.getElem_toArray, List.getElem_cons_zero, List.getElem_cons_succ, List.setIfInBounds_toArray, List.set_cons_zero, List.set_cons_succ]
      refine wpAnyH_take (i := 11) (v := ?_) rfl (by kernel_rfl) (by kernel_rfl) (by kernel_rfl) (fun _ _ _ h => h) (Or.inl ⟨by rfl, ?_⟩) (by assumption) ?_
      rotate_left
      · (intro w hSw; go_simp; try (with_reducible rfl))
      try simp only [Act.put, List.getElem_toArray, List.getElem_cons_zero, List.getElem_cons_succ, List.setIfInBounds_toArray, List.set_cons_zero, List.set_cons_succ]
      refine wpAnyH_done (by kernel_rfl) ?_ _
      refine NoPanic.normal ?_
      have hw1 : IntKind.i64.wrap ((c : Int) - 1) = (c : Int) - 1 := by rw [IntKind.wrap_i64]; omega
      go_wp2_with fail
      go_roundw
      case rel => exact ⟨c, rfl, rfl, by omega, HB6⟩
      case measure => simp [intOf]
set_option maxRecDepth 100000 in
theorem having_any (G : Nat) (f : Int) (us : List Nat) (w : World) (h16 : us.length = 16) :
    Calls Tryd.prog 51 #[.pointer (some ⟨G, 0, none⟩), addrV f us] w fun e w' => e = .returned (.func (.func 62) #[] #[.pointer (some ⟨w.heap.size, 0, none⟩), .pointer (some ⟨w.heap.size + 1, 0, none⟩)]) ∧ w'.cell? ⟨w.heap.size, 0, none⟩ = some (.pointer (some ⟨G, 0, none⟩)) ∧ AddrAt w' (w.heap.size + 1) f us ∧ Below w.heap.size w w' := by
  obtain ⟨W0, hW0⟩ : ∃ W0, w.alloc (.cells #[Value.pointer (some ⟨G, 0, none⟩)] 72) = W0 := ⟨_, rfl⟩
  have hs : W0.heap.size = w.heap.size + 1 := by rw [← hW0]; simp
  obtain ⟨cs, ecs, HA, HB⟩ := addr_boxed f us W0 h16
  have HC : Hid (W0.cell? ⟨w.heap.size, 0, none⟩ = some (.pointer (some ⟨G, 0, none⟩))) := Lib.hid (by rw [← hW0, World.cell?_alloc_new]; rfl)
  have HB0 : Hid (Below w.heap.size w W0) := Lib.hid (by rw [← hW0]; exact (Below.refl _ _).alloc (Nat.le_refl _) _)
  have HC1 : Hid ((W0.alloc (.cells cs 25)).cell? ⟨w.heap.size, 0, none⟩ = some (.pointer (some ⟨G, 0, none⟩))) := Lib.hid ((HB.out.cell (p := ⟨w.heap.size, 0, none⟩) (by rw [hs]; exact Nat.lt_succ_self _)).trans HC.out)
  rw [hs] at HA
  have HB1 := Lib.hid (chain HB0.out HB.out)
  rw [← hW0] at HA HC1 HB1
  rw [ecs]
  clear hW0 hs HB HC HB0 ecs
  go_enter Tryd.func51, Tryd.ntmps51
  go_wp2_with fail
  go_ret
  exact ⟨rfl, HC1.out, HA.out, HB1.out⟩
theorem having_tells {w : World} {G Bt Ba : Nat} {es : List Ent} {st : Int} {F : List Nat} {f : Int} {us : List Nat} (hA : TabAt w G es st F) (hBt : w.cell? ⟨Bt, 0, none⟩ = some (.pointer (some ⟨G, 0, none⟩))) (hBa : AddrAt w Ba f us) (hlt : ∀ y ∈ us, y < 256) (htG : Bt ≠ G) (haG : Ba ≠ G) (h0 : 0 ≤ st) (h1 : st ≤ 800000) :
    TellsOne Tryd.prog 62 #[.pointer (some ⟨Bt, 0, none⟩), .pointer (some ⟨Ba, 0, none⟩)] (findE es f us) encE G (FindInv G es st F) w := by
  obtain ⟨v, rfl, hT, hR, hs, hN⟩ := hA
  rcases hR.form with ⟨rfl, rfl⟩ | ⟨g, cap, rfl, _⟩
  · exact having1_nil G Bt Ba st f us w hT hBt hBa hlt
  · exact having1_some G Bt Ba g cap es st f us w hT hR hs (hN g rfl) hBt hBa hlt htG haG h0 h1
end Go.Proofs.YtgbajagacmfcmaaDoor

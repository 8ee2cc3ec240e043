/- Texts that belong together, one behind the other: CidrMask, CidrMayOwn, CidrNum, CidrParse, CidrHasOwn, CidrLives, CidrPrintOwn, CidrRead, CidrOrder, CidrMasksMath, RefCidrParse, RefCidrHas, CidrLastOwn, CidrCmp, HeldLoad, OpenPref, DoorKit. -/
import Derived.Test.YtpgjkeakhjnckaaDoorB6
import Derived.Test.YtpgjkeakhjnckaaDoorRows
import Derived.Test.YtpgjkeakhjnckaaDoorTie
import Derived.Test.YtpgjkeakhjnckaaDoorCards
import Derived.ProofKit
import Derived.LaidMore
import Derived.OpenShut
import Derived.Below
import Derived.Stop.Joined
import Derived.SevenTiedAt
import Derived.Lib.LaidTab
import Derived.WalkSmall
import Derived.Lib.ItoaNum
/- Contract of cidr.Mask. -/
namespace Go.Proofs.YtpgjkeakhjnckaaDoor
open Go.RowKit
set_option linter.unusedVariables false
set_option maxRecDepth 20000

theorem PrefAt.at {w : World} {G : Nat} {f : Int} {bs : List Nat} {n m : Int} (h : PrefAt w G f bs n) (e : n = m) : PrefAt w G f bs m := e ▸ h
set_option maxRecDepth 100000 in
set_option maxHeartbeats 1000000 in
theorem cidrMask_any (f : Int) (bs : List Nat) (n : Int) (w : World) (h16 : bs.length = 16) (hlt : ∀ x ∈ bs, x < 256) (hn : (Lit.int .i64 n).wf = true) :
    Calls Tryd.prog 10 #[addrV f bs, .int .i64 n] w fun e w' => e = .returned (prefV f (withL (bitsN f) bs (maskN f n) 0) (maskN f n)) ∧ Below w.heap.size w w' := by
  have H16 := Lib.hid h16
  have HLT := Lib.hid hlt
  have HN := bitsN_le f
  have hmN := maskN_le f n
  have HM := Lib.hid (maskN_max f n)
  have HBI := fun W => Lib.hid (addrBits_any f bs W h16)
  have HBT := fun W (k : Nat) (hk : k ≤ 128) => Lib.hid (addrBit_any f bs (k : Int) W h16 hlt (wf_small (by omega)))
  obtain ⟨cs, ecs, HA, HB⟩ := addr_boxed f bs w h16
  have HR := pref_zeroed (w.alloc (.cells cs 24))
  rw [heap_alloc] at HR
  have HRH := Lib.hid HR
  have HA1 := Lib.hid (HA.out.alloc (.cells zP 26))
  have HB1 := Lib.hid (HB.out.alloc HB.out.size (.cells zP 26))
  rw [ecs]
  have HWL : Hid (∀ k, withL (bitsN f) bs k 0 = withL (bitsN f) bs k 0) := Lib.hid (fun _ => rfl)
  have HBA : Hid (∀ k : Nat, k < bitsN f → bitN f bs (k : Int) = bitA bs k) := Lib.hid (fun k hk => bitN_A f bs k hk)
  have HW0 := Lib.hid (withL_zero (bitsN f) bs)
  generalize maskN f n = m at *
  generalize bitsN f = N at *
  have HLZ : Hid ((List.replicate 16 0).length = 16) := Lib.hid rfl
  have HZP := fun W : World => Lib.hid (pref_zeroed W)
  clear ecs h16 hlt HA HB HR
  go_enter Tryd.func10, Tryd.ntmps10
  go_upto_region 1 with fail
  generalize ((w.alloc (.cells cs 24)).alloc (.cells zP 26)) = W at *
  go_cut [5] from 7 (fun s5 wx => ∃ G : Nat, s5 = .pointer (some ⟨G, 0, none⟩) ∧ Hid (w.heap.size + 1 < G) ∧ Hid (PrefAt wx G f (List.replicate 16 0) (m : Int)) ∧ Hid (AddrAt wx w.heap.size f bs) ∧ Hid (PrefAt wx (w.heap.size + 1) 0 (List.replicate 16 0) 0) ∧ Hid (Below w.heap.size w wx))
  case first =>
    obtain ⟨L, hL⟩ : ∃ L, [(w.heap.size, 0, addrL f bs)] = L := ⟨_, rfl⟩
    have HK := Lib.hid (show HeldR L w W by rw [← hL]; exact (HeldR.nil HB1.out).addr HA1.out)
    have Mt2 := Lib.hid (show InA L w.heap.size f bs from ⟨by rw [← hL]; simp, H16.out⟩)
    have HNE : Hid (∀ R : Nat, w.heap.size < R → ∀ x ∈ L, x.1 ≠ R) := Lib.hid (by rw [← hL]; intro R hR x hx; simp at hx; rcases hx with rfl; simp; omega)
    have Cf := Lib.hid (famR (show InA L w.heap.size f bs from ⟨by rw [← hL]; simp, H16.out⟩) w)
    clear hL
    have C1 : ∀ w', HeldR L w w' → Hid (Calls Tryd.prog 34 #[addrV f bs] w' fun e w'' => e = .returned (.int .i64 ((N : Nat) : Int)) ∧ Below w'.heap.size w' w'') := fun w' h => HBI w'
    clear HBI
    replace HRH := Lib.hid (HRH.out.below (Below.refl _ _).drew)
    replace HA1 := Lib.hid (HA1.out.below (Below.refl _ _).drew)
    refine wp_region_noPanic ?_
    refine wp_region_held_drew (S := HeldR L w) (by kernel_rfl) HK.out.drew (fun hHeld => ?_)
    clear HK
    generalize W.drew = V at *
    refine wpAnyH_take (i := 0) (v := ?_) rfl (by kernel_rfl) (by kernel_rfl) (by kernel_rfl) (fun _ _ _ h => h) (Or.inl ⟨by rfl, ?_⟩) (by assumption) ?_
    rotate_left
    · (intro w hSw; go_simp; try (with_reducible rfl))
    try simp only [Act.put, List.getElem_toArray, List.getElem_cons_zero, List.setIfInBounds_toArray, List.set_cons_zero, List.set_cons_succ]
    refine wpAnyH_take (i := 1) (v := ?_) rfl (by kernel_rfl) (by kernel_rfl) (by kernel_rfl) (fun _ _ _ h => h) (Or.inl ⟨by rfl, ?_⟩) (by assumption) ?_
    rotate_left
    · (intro w hSw; have hc0 := Cf.out w hSw; go_simp; try (with_reducible rfl))
    try simp only [Act.put, List.getElem_toArray, List.getElem_cons_zero, List.getElem_cons_succ, List.setIfInBounds_toArray, List.set_cons_zero, List.set_cons_succ]
    refine wpAnyH_take (i := 2) rfl (by kernel_rfl) (by kernel_rfl) (by kernel_rfl) (fun _ _ _ h => h) (yields_build_fam (by rfl) _ rfl rfl) (by assumption) ?_
    try simp only [Act.put, List.getElem_toArray, List.getElem_cons_zero, List.getElem_cons_succ, List.setIfInBounds_toArray, List.set_cons_zero, List.set_cons_succ]
    refine wpAnyH_take (i := 3) (v := ?_) rfl (by kernel_rfl) (by kernel_rfl) (by kernel_rfl) (fun _ _ _ h => h) (Or.inl ⟨by rfl, ?_⟩) (by assumption) ?_
    rotate_left
    · (intro w hSw; go_simp; try (with_reducible rfl))
    try simp only [Act.put, List.getElem_toArray, List.getElem_cons_zero, List.getElem_cons_succ, List.setIfInBounds_toArray, List.set_cons_zero, List.set_cons_succ]
    refine wpAnyH_take (i := 4) (v := ?_) rfl (by kernel_rfl) (by kernel_rfl) (by kernel_rfl) (fun _ _ _ h => h) (Or.inl ⟨by rfl, ?_⟩) (by assumption) ?_
    rotate_left
    · (intro w hSw; go_simp; try (with_reducible rfl))
    try simp only [Act.put, List.getElem_toArray, List.getElem_cons_zero, List.getElem_cons_succ, List.setIfInBounds_toArray, List.set_cons_zero, List.set_cons_succ]
    refine wpAnyH_take (i := 5) rfl (by kernel_rfl) (by kernel_rfl) (by kernel_rfl) (fun _ _ _ h => h) (yields_addr Mt2 (by rfl) _ rfl rfl) (by assumption) ?_
    try simp only [Act.put, List.getElem_toArray, List.getElem_cons_zero, List.getElem_cons_succ, List.setIfInBounds_toArray, List.set_cons_zero, List.set_cons_succ]
    obtain ⟨z, hz⟩ : ∃ z, (if n < 0 then 0 else n) = z := ⟨_, rfl⟩
    have hz2 : max n 0 = z := by rw [← hz]; split <;> omega
    first | rw [hz] | rw [hz2]
    have HZZ : Hid (z = max n 0) := Lib.hid hz2.symm
    clear hz2
    clear hz
    refine wpAnyH_ready (rs := [6, 9]) (by kernel_rfl) (by simp) ?_
    refine AllReadyH.cons rfl (fun K hK => ?_) (AllReadyH.one rfl rfl (fun K hK => ?_))
    · go_simp
      refine (C1 _ (by assumption)).out.mono ?_
      rintro e wr6 ⟨rfl, hb6⟩
      replace HRH := Lib.hid (HRH.out.below hb6)
      replace HA1 := Lib.hid (HA1.out.below hb6)
      have hS6 := HeldR.next (by assumption) hb6
      clear hb6
      go_wp2_with fail
      refine hK.out _ _ hS6 (fun hHeld => ?_)
      clear hK K
      try simp only [Act.put, List.getElem_toArray, List.getElem_cons_zero, List.getElem_cons_succ, List.setIfInBounds_toArray, List.set_cons_zero, List.set_cons_succ]
      refine wpAnyH_take (i := 7) (v := ?_) rfl (by kernel_rfl) (by kernel_rfl) (by kernel_rfl) (fun _ _ _ h => h) (Or.inl ⟨by rfl, ?_⟩) (by assumption) ?_
      rotate_left
      · (intro w hSw; go_simp; try (with_reducible rfl))
      try simp only [Act.put, List.getElem_toArray, List.getElem_cons_zero, List.getElem_cons_succ, List.setIfInBounds_toArray, List.set_cons_zero, List.set_cons_succ]
      obtain ⟨y, hy⟩ : ∃ y, (if (N : Int) < z then (N : Int) else z) = y := ⟨_, rfl⟩
      have hy2 : min z (N : Int) = y := by rw [← hy]; split <;> omega
      have hy3 : min (N : Int) z = y := by rw [← hy]; split <;> omega
      first | rw [hy] | rw [hy2] | rw [hy3]
      have HYM : Hid (y = (m : Int)) := Lib.hid (by rw [← HM.out, ← HZZ.out, ← hy2])
      clear hy2 hy3
      clear hy
      refine wpAnyH_take (i := 8) rfl (by kernel_rfl) (by kernel_rfl) (by kernel_rfl) (fun _ _ _ h => h) (yields_build_pref HLZ (by rfl) _ _ rfl rfl rfl) (by assumption) ?_
      try simp only [Act.put, List.getElem_toArray, List.getElem_cons_zero, List.getElem_cons_succ, List.setIfInBounds_toArray, List.set_cons_zero, List.set_cons_succ]
      refine wpAnyH_ready (rs := [9]) (by kernel_rfl) (by simp) ?_
      refine AllReadyH.one rfl rfl (fun K hK => ?_)
      go_wp2_with fail
      refine hK.out _ _ (HeldR.next (by assumption) ((Below.refl _ _).alloc (Nat.le_refl _) _)) (fun hHeld => ?_)
      clear hK K
      try simp only [Act.put, List.getElem_toArray, List.getElem_cons_zero, List.getElem_cons_succ, List.setIfInBounds_toArray, List.set_cons_zero, List.set_cons_succ]
      have HZ := HZP wr6
      have GL := HRH.out.addr.lt
      replace HRH := Lib.hid (HRH.out.alloc (.cells zP 26))
      replace HA1 := Lib.hid (HA1.out.alloc (.cells zP 26))
      refine wpAnyH_ready (rs := [10]) (by kernel_rfl) (by simp) ?_
      refine AllReadyH.one rfl rfl (fun K hK => ?_)
      refine wp_store_pref HZ _ _ HLZ rfl rfl rfl (fun HQ => ?_)
      refine hK.out _ _ (HeldR.store (by assumption) _ (by omega) (HNE.out _ (by omega))) (fun hHeld2 => ?_)
      clear hK K
      try simp only [Act.put, List.getElem_toArray, List.getElem_cons_zero, List.getElem_cons_succ]
      refine wpAnyH_done (by kernel_rfl) ?_ _
      refine NoPanic.normal ?_
      go_wp2_with fail
      go_meet
      case rel => exact ⟨wr6.heap.size, rfl, Lib.hid GL, Lib.hid (HQ.out.at HYM.out), Lib.hid (HA1.out.apart (by omega) _), Lib.hid (HRH.out.apart (by omega) _), Lib.hid hHeld2.bel⟩
    · go_wp2_with fail
      refine hK.out _ _ (HeldR.next (by assumption) ((Below.refl _ _).alloc (Nat.le_refl _) _)) (fun hHeld => ?_)
      clear hK K
      try simp only [Act.put, List.getElem_toArray, List.getElem_cons_zero, List.getElem_cons_succ, List.setIfInBounds_toArray, List.set_cons_zero, List.set_cons_succ]
      have HZ := HZP V
      have GL := HRH.out.addr.lt
      replace HRH := Lib.hid (HRH.out.alloc (.cells zP 26))
      replace HA1 := Lib.hid (HA1.out.alloc (.cells zP 26))
      generalize V.heap.size = GV at *
      generalize V.alloc (.cells zP 26) = V2 at *
      refine wpAnyH_ready (rs := [6]) (by kernel_rfl) (by simp) ?_
      refine AllReadyH.cons rfl (fun K hK => ?_) AllReadyH.nil
      go_simp
      refine (C1 _ (by assumption)).out.mono ?_
      rintro e wr6 ⟨rfl, hb6⟩
      replace HRH := Lib.hid (HRH.out.below hb6)
      replace HA1 := Lib.hid (HA1.out.below hb6)
      replace HZ := Lib.hid (HZ.out.below hb6)
      have hS6 := HeldR.next (by assumption) hb6
      clear hb6
      go_wp2_with fail
      refine hK.out _ _ hS6 (fun hHeld => ?_)
      clear hK K
      try simp only [Act.put, List.getElem_toArray, List.getElem_cons_zero, List.getElem_cons_succ, List.setIfInBounds_toArray, List.set_cons_zero, List.set_cons_succ]
      refine wpAnyH_take (i := 7) (v := ?_) rfl (by kernel_rfl) (by kernel_rfl) (by kernel_rfl) (fun _ _ _ h => h) (Or.inl ⟨by rfl, ?_⟩) (by assumption) ?_
      rotate_left
      · (intro w hSw; go_simp; try (with_reducible rfl))
      try simp only [Act.put, List.getElem_toArray, List.getElem_cons_zero, List.getElem_cons_succ, List.setIfInBounds_toArray, List.set_cons_zero, List.set_cons_succ]
      obtain ⟨y, hy⟩ : ∃ y, (if (N : Int) < z then (N : Int) else z) = y := ⟨_, rfl⟩
      have hy2 : min z (N : Int) = y := by rw [← hy]; split <;> omega
      have hy3 : min (N : Int) z = y := by rw [← hy]; split <;> omega
      first | rw [hy] | rw [hy2] | rw [hy3]
      have HYM : Hid (y = (m : Int)) := Lib.hid (by rw [← HM.out, ← HZZ.out, ← hy2])
      clear hy2 hy3
      clear hy
      refine wpAnyH_take (i := 8) rfl (by kernel_rfl) (by kernel_rfl) (by kernel_rfl) (fun _ _ _ h => h) (yields_build_pref HLZ (by rfl) _ _ rfl rfl rfl) (by assumption) ?_
      try simp only [Act.put, List.getElem_toArray, List.getElem_cons_zero, List.getElem_cons_succ, List.setIfInBounds_toArray, List.set_cons_zero, List.set_cons_succ]
      refine wpAnyH_ready (rs := [10]) (by kernel_rfl) (by simp) ?_
      refine AllReadyH.one rfl rfl (fun K hK => ?_)
      refine wp_store_pref HZ _ _ HLZ rfl rfl rfl (fun HQ => ?_)
      refine hK.out _ _ (HeldR.store (by assumption) _ (by omega) (HNE.out _ (by omega))) (fun hHeld2 => ?_)
      clear hK K
      try simp only [Act.put, List.getElem_toArray, List.getElem_cons_zero, List.getElem_cons_succ]
      refine wpAnyH_done (by kernel_rfl) ?_ _
      refine NoPanic.normal ?_
      go_wp2_with fail
      go_meet
      case rel => exact ⟨GV, rfl, Lib.hid GL, Lib.hid (HQ.out.at HYM.out), Lib.hid (HA1.out.apart (by omega) _), Lib.hid (HRH.out.apart (by omega) _), Lib.hid hHeld2.bel⟩
  case rest =>
    obtain ⟨G, rfl, HGG, HP2, HA2, HR2, HB2⟩ := hcut
    clear HA1 HRH HB1 HBI HZP HWL
    have HP3 : Hid (PrefAt wc G f (withL N bs 0 0) (m : Int)) := Lib.hid (by rw [HW0.out]; exact HP2.out)
    have hbits := HP2.out.bits
    clear HP2
    go_wp2_with fail
    go_loopw [18] (fun i wr => ∃ k : Nat, k ≤ m ∧ i = .int .i64 (k : Int) ∧ Hid (PrefAt wr G f (withL N bs k 0) (m : Int)) ∧ Hid (AddrAt wr w.heap.size f bs) ∧ Hid (PrefAt wr (w.heap.size + 1) 0 (List.replicate 16 0) 0) ∧ Hid (Below w.heap.size w wr)) (fun i _ => 128 - (intOf i).toNat)
    case atStart => exact ⟨0, by omega, rfl, HP3, HA2, HR2, HB2⟩
    case round =>
      obtain ⟨k, hk, rfl, HP4, HA4, HR4, HB4⟩ := hrel
      clear HP3 HA2 HR2 HB2 hbits
      have hk128 : k ≤ 128 := by omega
      by_cases hkm : k < m
      · have hd : decide ((k : Int) < (m : Int)) = true := by simp; omega
        go_wp2_with (refine load_addr_g HA4 _ rfl rfl rfl ?_)
        refine (HBT _ k hk128).out.mono ?_
        rintro e w1 ⟨rfl, hb1⟩
        have HA5 := Lib.hid (HA4.out.below hb1)
        have HP5 := Lib.hid (HP4.out.below hb1)
        have HR5 := Lib.hid (HR4.out.below hb1)
        have HB5 := Lib.hid (chain HB4.out hb1)
        clear HA4 HP4 HR4 HB4 hb1
        have HP5a := Lib.hid HP5.out.addr
        rw [HBA.out k (by omega)]
        have hv := bitA_le bs k
        have H1 : Hid (bitA bs k = 1 → setB (withL N bs k 0) k = withL N bs (k + 1) 0) := Lib.hid (with_one N bs k (by omega) HN)
        have H0 : Hid (bitA bs k = 0 → withL N bs k 0 = withL N bs (k + 1) 0) := Lib.hid (with_none N bs k (by omega))
        generalize bitA bs k = v at *
        by_cases hv1 : v = 1
        · subst hv1
          have hd1 : (((1 : Nat) : Int) == 1) = true := by rfl
          have HLW : Hid ((withL N bs (k + 1) 0).length = 16) := Lib.hid (withL_len _ _ _ _)
          have HWB := fun W => Lib.hid (withBit_any f (withL N bs k 0) k W (withL_len _ _ _ _) (withL_lt _ _ _ _ (by decide)) (by omega))
          rw [H1.out rfl] at HWB
          go_wp2_with (refine load_addr_g HP5a _ rfl rfl rfl ?_)
          refine (HWB _).out.mono ?_
          rintro e w2 ⟨rfl, hb2⟩
          have HA6 := Lib.hid (HA5.out.below hb2)
          have HP6 := Lib.hid (HP5.out.below hb2)
          have HR6 := Lib.hid (HR5.out.below hb2)
          have HB6 := Lib.hid (chain HB5.out hb2)
          clear HA5 HP5 HR5 HB5 hb2 HP5a
          go_wp2_with (refine store_pref_addr HP6 _ _ HLW rfl rfl rfl rfl (fun W2 HW2 HP7 => ?_))
          have HG := HGG.out
          go_roundw
          case rel => exact ⟨k + 1, by omega, by go_num, HP7, Lib.hid (by rw [HW2.out]; exact HA6.out.apart (by omega) _), Lib.hid (by rw [HW2.out]; exact HR6.out.apart (by omega) _), Lib.hid (by rw [HW2.out]; exact below_cells (by omega) _ _ _ HB6.out)⟩
          case measure => simp [intOf]; omega
        · obtain rfl : v = 0 := by omega
          rw [H0.out rfl] at HP5
          have hd0 : (((0 : Nat) : Int) == 1) = false := by rfl
          go_wp2_with fail
          go_roundw
          case rel => exact ⟨k + 1, by omega, by go_num, HP5, HA5, HR5, HB5⟩
          case measure => simp [intOf]; omega
      · obtain rfl : k = m := by omega
        have hd : decide ((k : Int) < (k : Int)) = false := by simp
        have HLW : Hid ((withL N bs k 0).length = 16) := Lib.hid (withL_len _ _ _ _)
        go_wp2_with (first | refine load_pref_g HP4 _ rfl rfl rfl ?_ | refine store_pref HR4 _ _ HLW rfl rfl rfl rfl (fun W HW HP => ?_))
        refine bodyPost_ret (v := prefV f (withL N bs k 0) k) (results_pref Tryd.results10 rfl HP.out) rfl ⟨rfl, by rw [HW.out]; exact below_cells (by omega) _ _ _ HB4.out⟩
end Go.Proofs.YtpgjkeakhjnckaaDoor
/- Contract of cidr.May. -/
namespace Go.Proofs.YtpgjkeakhjnckaaDoor
open Go.RowKit
set_option linter.unusedVariables false
set_option maxRecDepth 20000

set_option maxRecDepth 100000 in
set_option maxHeartbeats 1000000 in
theorem cidrMay_any (f : Int) (ps : List Nat) (n : Int) (w : World) (hp : ps.length = 16) (hlt : ∀ x ∈ ps, x < 256) (hn : (Lit.int .i64 n).wf = true) :
    Calls Tryd.prog 11 #[prefV f ps n] w fun e w' => e = .returned (.bool (mayP f ps n)) ∧ Below w.heap.size w w' := by
  have HP := Lib.hid hp
  have HMK := fun W => Lib.hid (cidrMask_any f ps n W hp hlt hn)
  have HBI := fun W => Lib.hid (addrBits_any f ps W hp)
  have HLR : Hid ((withL (bitsN f) ps (maskN f n) 0).length = 16) := Lib.hid (withL_len _ _ _ _)
  obtain ⟨R, eR⟩ : ∃ R, mayP f ps n = R := ⟨_, rfl⟩
  rw [eR]
  have HE : Hid (decide (0 < bitsN f ∧ ps = withL (bitsN f) ps (maskN f n) 0 ∧ n = (maskN f n : Int)) = R) := Lib.hid (by rw [← eR]; rfl)
  generalize withL (bitsN f) ps (maskN f n) 0 = ms at *
  generalize maskN f n = m at *
  generalize bitsN f = N at *
  obtain ⟨cs, ecs, H1, HB⟩ := pref_boxed f ps n w hp
  rw [ecs]
  clear ecs hp hlt eR
  go_enter Tryd.func11, Tryd.ntmps11
  go_upto_region 1 with fail
  generalize (w.alloc (.cells cs 26)) = W at *
  obtain ⟨L, hL⟩ : ∃ L, [(w.heap.size, 0, prefL f ps n), (w.heap.size, 0, addrL f ps)] = L := ⟨_, rfl⟩
  have HK := Lib.hid (show HeldR L w W by rw [← hL]; exact (HeldR.nil HB.out).pref H1.out)
  have Mp := Lib.hid (show InP L w.heap.size f ps n from ⟨by rw [← hL]; simp, HP.out⟩)
  have Ma := Lib.hid (show InA L w.heap.size f ps from ⟨by rw [← hL]; simp, HP.out⟩)
  have Cn := Lib.hid (bitsR Mp.out w)
  clear hL H1 HB
  have C1 : ∀ w', HeldR L w w' → Hid (Calls Tryd.prog 34 #[addrV f ps] w' fun e w'' => e = .returned (.int .i64 ((N : Nat) : Int)) ∧ Below w'.heap.size w' w'') := fun w' h => HBI w'
  have C2 : ∀ w', HeldR L w w' → Hid (Calls Tryd.prog 10 #[addrV f ps, .int .i64 n] w' fun e w'' => e = .returned (prefV f ms (m : Int)) ∧ Below w'.heap.size w' w'') := fun w' h => HMK w'
  clear HMK HBI
  by_cases h0 : N = 0
  · subst h0
    rw [decide_eq_false (fun h => absurd h.1 (by decide))] at HE
    have hd : decide ((0 : Int) < ((0 : Nat) : Int)) = false := rfl
    refine wp_region_noPanic ?_
    refine wp_region_held_drew (S := HeldR L w) (by kernel_rfl) HK.out.drew (fun hHeld => ?_)
    refine wpAnyH_take (i := 0) (v := ?_) rfl (by kernel_rfl) (by kernel_rfl) (by kernel_rfl) (fun _ _ _ h => h) (Or.inl ⟨by rfl, ?_⟩) (by assumption) ?_
    rotate_left
    · (intro w hSw; go_simp; try (with_reducible rfl))
    try simp only [Act.put, List.getElem_toArray, List.getElem_cons_zero, List.setIfInBounds_toArray, List.set_cons_zero, List.set_cons_succ]
    refine wpAnyH_take (i := 1) rfl (by kernel_rfl) (by kernel_rfl) (by kernel_rfl) (fun _ _ _ h => h) (yields_addr Ma (by rfl) _ rfl rfl) (by assumption) ?_
    try simp only [Act.put, List.getElem_toArray, List.getElem_cons_zero, List.getElem_cons_succ, List.setIfInBounds_toArray, List.set_cons_zero, List.set_cons_succ]
    refine wpAnyH_ready (rs := [2]) (by kernel_rfl) (by simp) ?_
    refine AllReadyH.cons rfl (fun K hK => ?_) AllReadyH.nil
    go_simp
    refine (Calls.heldR (C1 _ (by assumption)).out (by assumption)).mono ?_
    rintro e wr2 ⟨rfl, hS2⟩
    go_wp2_with fail
    refine hK.out _ _ hS2 (fun hHeld => ?_)
    clear hK K
    try simp only [Act.put, List.getElem_toArray, List.getElem_cons_zero, List.getElem_cons_succ, List.setIfInBounds_toArray, List.set_cons_zero, List.set_cons_succ]
    refine wpAnyH_take (i := 3) (v := ?_) rfl (by kernel_rfl) (by kernel_rfl) (by kernel_rfl) (fun _ _ _ h => h) (Or.inl ⟨by rfl, ?_⟩) (by assumption) ?_
    rotate_left
    · (intro w hSw; go_simp; try (with_reducible rfl))
    try simp only [Act.put, List.getElem_toArray, List.getElem_cons_zero, List.getElem_cons_succ, List.setIfInBounds_toArray, List.set_cons_zero, List.set_cons_succ]
    refine wpAnyH_take (i := 4) (v := ?_) rfl (by kernel_rfl) (by kernel_rfl) (by kernel_rfl) (fun _ _ _ h => h) (Or.inl ⟨by rfl, ?_⟩) (by assumption) ?_
    rotate_left
    · (intro w hSw; go_simp; try (with_reducible rfl))
    try simp only [Act.put, List.getElem_toArray, List.getElem_cons_zero, List.getElem_cons_succ, List.setIfInBounds_toArray, List.set_cons_zero, List.set_cons_succ]
    refine wpAnyH_take (i := 5) (v := undef) rfl (by kernel_rfl) (by kernel_rfl) (by kernel_rfl) (fun _ _ _ h => h) (Or.inr ⟨by rfl, rfl⟩) (by assumption) ?_
    try simp only [Act.put, List.getElem_toArray, List.getElem_cons_zero, List.getElem_cons_succ, List.setIfInBounds_toArray, List.set_cons_zero, List.set_cons_succ]
    refine wpAnyH_take (i := 6) (v := undef) rfl (by kernel_rfl) (by kernel_rfl) (by kernel_rfl) (fun _ _ _ h => h) (Or.inr ⟨by rfl, rfl⟩) (by assumption) ?_
    try simp only [Act.put, List.getElem_toArray, List.getElem_cons_zero, List.getElem_cons_succ, List.setIfInBounds_toArray, List.set_cons_zero, List.set_cons_succ]
    refine wpAnyH_take (i := 7) (v := undef) rfl (by kernel_rfl) (by kernel_rfl) (by kernel_rfl) (fun _ _ _ h => h) (Or.inr ⟨by rfl, rfl⟩) (by assumption) ?_
    try simp only [Act.put, List.getElem_toArray, List.getElem_cons_zero, List.getElem_cons_succ, List.setIfInBounds_toArray, List.set_cons_zero, List.set_cons_succ]
    refine wpAnyH_take (i := 8) (v := undef) rfl (by kernel_rfl) (by kernel_rfl) (by kernel_rfl) (fun _ _ _ h => h) (Or.inr ⟨by rfl, rfl⟩) (by assumption) ?_
    try simp only [Act.put, List.getElem_toArray, List.getElem_cons_zero, List.getElem_cons_succ, List.setIfInBounds_toArray, List.set_cons_zero, List.set_cons_succ]
    refine wpAnyH_take (i := 9) (v := undef) rfl (by kernel_rfl) (by kernel_rfl) (by kernel_rfl) (fun _ _ _ h => h) (Or.inr ⟨by rfl, rfl⟩) (by assumption) ?_
    try simp only [Act.put, List.getElem_toArray, List.getElem_cons_zero, List.getElem_cons_succ, List.setIfInBounds_toArray, List.set_cons_zero, List.set_cons_succ]
    refine wpAnyH_take (i := 10) (v := undef) rfl (by kernel_rfl) (by kernel_rfl) (by kernel_rfl) (fun _ _ _ h => h) (Or.inr ⟨by rfl, rfl⟩) (by assumption) ?_
    try simp only [Act.put, List.getElem_toArray, List.getElem_cons_zero, List.getElem_cons_succ, List.setIfInBounds_toArray, List.set_cons_zero, List.set_cons_succ]
    refine wpAnyH_take (i := 11) (v := undef) rfl (by kernel_rfl) (by kernel_rfl) (by kernel_rfl) (fun _ _ _ h => h) (Or.inr ⟨by rfl, rfl⟩) (by assumption) ?_
    try simp only [Act.put, List.getElem_toArray, List.getElem_cons_zero, List.getElem_cons_succ, List.setIfInBounds_toArray, List.set_cons_zero, List.set_cons_succ]
    refine wpAnyH_take (i := 12) (v := ?_) rfl (by kernel_rfl) (by kernel_rfl) (by kernel_rfl) (fun _ _ _ h => h) (Or.inl ⟨by rfl, ?_⟩) (by assumption) ?_
    rotate_left
    · (intro w hSw; go_simp; try (with_reducible rfl))
    try simp only [Act.put, List.getElem_toArray, List.getElem_cons_zero, List.getElem_cons_succ, List.setIfInBounds_toArray, List.set_cons_zero, List.set_cons_succ]
    refine wpAnyH_take (i := 13) (v := ?_) rfl (by kernel_rfl) (by kernel_rfl) (by kernel_rfl) (fun _ _ _ h => h) (Or.inl ⟨by rfl, ?_⟩) (by assumption) ?_
    rotate_left
    · (intro w hSw; go_simp; try (with_reducible rfl))
    try simp only [Act.put, List.getElem_toArray, List.getElem_cons_zero, List.getElem_cons_succ, List.setIfInBounds_toArray, List.set_cons_zero, List.set_cons_succ]
    refine wpAnyH_done (by kernel_rfl) ?_ _
    refine NoPanic.normal ?_
    go_wp2_with fail
    go_ret
    exact ⟨by rw [← HE.out]; rfl, hHeld.bel⟩
  · have hd : decide ((0 : Int) < ((N : Nat) : Int)) = true := by simp; omega
    have hN : 0 < N := by omega
    have gd := guard_pref
    have q1 := fun W => run_eq_pref f f ps ms n (m : Int) W HP.out HLR.out
    rw [show decide (f = f ∧ ps = ms ∧ n = (m : Int)) = R by rw [← HE.out]; exact decide_eq_decide.2 (by simp [hN])] at q1
    refine wp_region_noPanic ?_
    refine wp_region_held_drew (S := HeldR L w) (by kernel_rfl) HK.out.drew (fun hHeld => ?_)
    refine wpAnyH_take (i := 0) (v := ?_) rfl (by kernel_rfl) (by kernel_rfl) (by kernel_rfl) (fun _ _ _ h => h) (Or.inl ⟨by rfl, ?_⟩) (by assumption) ?_
    rotate_left
    · (intro w hSw; go_simp; try (with_reducible rfl))
    try simp only [Act.put, List.getElem_toArray, List.getElem_cons_zero, List.setIfInBounds_toArray, List.set_cons_zero, List.set_cons_succ]
    refine wpAnyH_take (i := 1) rfl (by kernel_rfl) (by kernel_rfl) (by kernel_rfl) (fun _ _ _ h => h) (yields_addr Ma (by rfl) _ rfl rfl) (by assumption) ?_
    try simp only [Act.put, List.getElem_toArray, List.getElem_cons_zero, List.getElem_cons_succ, List.setIfInBounds_toArray, List.set_cons_zero, List.set_cons_succ]
    refine wpAnyH_ready (rs := [2]) (by kernel_rfl) (by simp) ?_
    refine AllReadyH.cons rfl (fun K hK => ?_) AllReadyH.nil
    go_simp
    refine (Calls.heldR (C1 _ (by assumption)).out (by assumption)).mono ?_
    rintro e wr2 ⟨rfl, hS2⟩
    go_wp2_with fail
    refine hK.out _ _ hS2 (fun hHeld => ?_)
    clear hK K
    try simp only [Act.put, List.getElem_toArray, List.getElem_cons_zero, List.getElem_cons_succ, List.setIfInBounds_toArray, List.set_cons_zero, List.set_cons_succ]
    refine wpAnyH_take (i := 3) (v := ?_) rfl (by kernel_rfl) (by kernel_rfl) (by kernel_rfl) (fun _ _ _ h => h) (Or.inl ⟨by rfl, ?_⟩) (by assumption) ?_
    rotate_left
    · (intro w hSw; go_simp; try (with_reducible rfl))
    try simp only [Act.put, List.getElem_toArray, List.getElem_cons_zero, List.getElem_cons_succ, List.setIfInBounds_toArray, List.set_cons_zero, List.set_cons_succ]
    refine wpAnyH_take (i := 4) (v := ?_) rfl (by kernel_rfl) (by kernel_rfl) (by kernel_rfl) (fun _ _ _ h => h) (Or.inl ⟨by rfl, ?_⟩) (by assumption) ?_
    rotate_left
    · (intro w hSw; go_simp; try (with_reducible rfl))
    try simp only [Act.put, List.getElem_toArray, List.getElem_cons_zero, List.getElem_cons_succ, List.setIfInBounds_toArray, List.set_cons_zero, List.set_cons_succ]
    refine wpAnyH_take (i := 5) rfl (by kernel_rfl) (by kernel_rfl) (by kernel_rfl) (fun _ _ _ h => h) (yields_pref Mp (by rfl) _ rfl rfl) (by assumption) ?_
    try simp only [Act.put, List.getElem_toArray, List.getElem_cons_zero, List.getElem_cons_succ, List.setIfInBounds_toArray, List.set_cons_zero, List.set_cons_succ]
    refine wpAnyH_take (i := 6) (v := ?_) rfl (by kernel_rfl) (by kernel_rfl) (by kernel_rfl) (fun _ _ _ h => h) (Or.inl ⟨by rfl, ?_⟩) (by assumption) ?_
    rotate_left
    · (intro w hSw; go_simp; try (with_reducible rfl))
    try simp only [Act.put, List.getElem_toArray, List.getElem_cons_zero, List.getElem_cons_succ, List.setIfInBounds_toArray, List.set_cons_zero, List.set_cons_succ]
    refine wpAnyH_take (i := 7) rfl (by kernel_rfl) (by kernel_rfl) (by kernel_rfl) (fun _ _ _ h => h) (yields_addr Ma (by rfl) _ rfl rfl) (by assumption) ?_
    try simp only [Act.put, List.getElem_toArray, List.getElem_cons_zero, List.getElem_cons_succ, List.setIfInBounds_toArray, List.set_cons_zero, List.set_cons_succ]
    refine wpAnyH_take (i := 8) (v := ?_) rfl (by kernel_rfl) (by kernel_rfl) (by kernel_rfl) (fun _ _ _ h => h) (Or.inl ⟨by rfl, ?_⟩) (by assumption) ?_
    rotate_left
    · (intro w hSw; go_simp; try (with_reducible rfl))
    try simp only [Act.put, List.getElem_toArray, List.getElem_cons_zero, List.getElem_cons_succ, List.setIfInBounds_toArray, List.set_cons_zero, List.set_cons_succ]
    refine wpAnyH_take (i := 9) (v := ?_) rfl (by kernel_rfl) (by kernel_rfl) (by kernel_rfl) (fun _ _ _ h => h) (Or.inl ⟨by rfl, ?_⟩) (by assumption) ?_
    rotate_left
    · (intro w hSw; have hc0 := Cn.out w hSw; go_simp; try (with_reducible rfl))
    try simp only [Act.put, List.getElem_toArray, List.getElem_cons_zero, List.getElem_cons_succ, List.setIfInBounds_toArray, List.set_cons_zero, List.set_cons_succ]
    refine wpAnyH_ready (rs := [10]) (by kernel_rfl) (by simp) ?_
    refine AllReadyH.cons rfl (fun K hK => ?_) AllReadyH.nil
    go_simp
    refine (Calls.heldR (C2 _ (by assumption)).out (by assumption)).mono ?_
    rintro e wr10 ⟨rfl, hS10⟩
    go_wp2_with fail
    refine hK.out _ _ hS10 (fun hHeld => ?_)
    clear hK K
    try simp only [Act.put, List.getElem_toArray, List.getElem_cons_zero, List.getElem_cons_succ, List.setIfInBounds_toArray, List.set_cons_zero, List.set_cons_succ]
    refine wpAnyH_take (i := 11) (v := ?_) rfl (by kernel_rfl) (by kernel_rfl) (by kernel_rfl) (fun _ _ _ h => h) (Or.inl ⟨by rfl, ?_⟩) (by assumption) ?_
    rotate_left
    · (intro w hSw; go_simp; try (with_reducible rfl))
    try simp only [Act.put, List.getElem_toArray, List.getElem_cons_zero, List.getElem_cons_succ, List.setIfInBounds_toArray, List.set_cons_zero, List.set_cons_succ]
    refine wpAnyH_take (i := 12) (v := ?_) rfl (by kernel_rfl) (by kernel_rfl) (by kernel_rfl) (fun _ _ _ h => h) (Or.inl ⟨by rfl, ?_⟩) (by assumption) ?_
    rotate_left
    · (intro w hSw; go_simp; try (with_reducible rfl))
    try simp only [Act.put, List.getElem_toArray, List.getElem_cons_zero, List.getElem_cons_succ, List.setIfInBounds_toArray, List.set_cons_zero, List.set_cons_succ]
    refine wpAnyH_take (i := 13) (v := ?_) rfl (by kernel_rfl) (by kernel_rfl) (by kernel_rfl) (fun _ _ _ h => h) (Or.inl ⟨by rfl, ?_⟩) (by assumption) ?_
    rotate_left
    · (intro w hSw; go_simp; try (with_reducible rfl))
    try simp only [Act.put, List.getElem_toArray, List.getElem_cons_zero, List.getElem_cons_succ, List.setIfInBounds_toArray, List.set_cons_zero, List.set_cons_succ]
    refine wpAnyH_done (by kernel_rfl) ?_ _
    refine NoPanic.normal ?_
    go_wp2_with fail
    go_ret
    exact ⟨rfl, hHeld.bel⟩
end Go.Proofs.YtpgjkeakhjnckaaDoor
/- Contract of cidr.number. -/
namespace Go.Proofs.YtpgjkeakhjnckaaDoor
open Go.RowKit
set_option linter.unusedVariables false
set_option maxRecDepth 20000

/-- A number without a nought ahead of other digits. -/
def numP (d : ByteArray) : Option Nat := if 1 < d.size ∧ byteOf d 0 = 48 then none else numB d 10
set_option maxRecDepth 100000 in
set_option maxHeartbeats 1000000 in
theorem cidrNumber_any (s : ByteArray) (w : World) (hs : s.size ≤ 1000000) :
    Calls Tryd.prog 41 #[.string s] w fun e w' => e = .returned (numRet (numP s)) ∧ w = w' := by
  have HN := fun W => Lib.hid (number_any s 10 W hs (.inr (.inl rfl)))
  obtain ⟨R, eR⟩ : ∃ R, numP s = R := ⟨_, rfl⟩
  rw [eR]
  have HE : Hid ((if 1 < s.size ∧ byteOf s 0 = 48 then none else numB s 10) = R) := Lib.hid eR
  clear eR
  by_cases h1 : 1 < s.size
  · have hd : decide (1 < (s.size : Int)) = true := by simp; omega
    have hsz : 0 < s.size := by omega
    have hb := byteOf_eq s 0 hsz
    by_cases h48 : byteOf s 0 = 48
    · rw [if_pos ⟨h1, h48⟩] at HE
      have hd2 : (((s[0]'hsz).toNat : Int) == 48) = true := by rw [← hb, h48]; rfl
      clear h48 hb
      go_enter Tryd.func41, Tryd.ntmps41
      go_wp2_with fail
      go_ret2
      exact ⟨by rw [← HE.out]; rfl, rfl⟩
    · rw [if_neg (fun h => h48 h.2)] at HE
      have hd2 : (((s[0]'hsz).toNat : Int) == 48) = false := by rw [← hb]; simp; omega
      clear h48 hb
      go_enter Tryd.func41, Tryd.ntmps41
      go_wp2_with fail
      refine (HN _).out.mono ?_
      rintro e w1 ⟨rfl, rfl⟩
      rw [HE.out]
      unfold numRet
      go_wp2_with fail
      go_ret2
      exact ⟨rfl, rfl⟩
  · have hd : decide (1 < (s.size : Int)) = false := by simp; omega
    rw [if_neg (fun h => h1 h.1)] at HE
    go_enter Tryd.func41, Tryd.ntmps41
    go_wp2_with fail
    refine (HN _).out.mono ?_
    rintro e w1 ⟨rfl, rfl⟩
    rw [HE.out]
    unfold numRet
    go_wp2_with fail
    go_ret2
    exact ⟨rfl, rfl⟩
end Go.Proofs.YtpgjkeakhjnckaaDoor
/- Contracts of cidr.Parse and of the reference's Parse of layer 5. -/
namespace Go.Proofs.YtpgjkeakhjnckaaDoor
open Go.RowKit
set_option linter.unusedVariables false
set_option maxRecDepth 20000

theorem parseA_ok (s : ByteArray) (f : Int) (bs : List Nat) (h : parseA s = some (f, bs)) : bs.length = 16 ∧ ∀ x ∈ bs, x < 256 := by
  unfold parseA at h
  split at h
  · injection h with h
    injection h with h1 h2
    rw [← h2]
    exact ⟨b4_len _, b4_lt _⟩
  · cases hp : parseB s with
    | none => rw [hp] at h; cases h
    | some gs =>
      rw [hp] at h
      injection h with h
      injection h with h1 h2
      obtain ⟨hl, hlt⟩ := parseB_len s gs hp
      rw [← h2]
      exact ⟨by rw [byL_len, hl], byL_lt gs hlt⟩
theorem numP_le (d : ByteArray) (n : Nat) (h : numP d = some n) : n ≤ 1099511627776 := by
  unfold numP numB at h
  split at h
  · cases h
  · split at h
    · cases h
    · exact numTo_le _ _ _ _ h
/-- What is read of two pieces. -/
def pairP (o : Option (Int × List Nat)) (q : Option Nat) : Int × List Nat × Int × Int := match o, q with
  | some (f, bs), some n => if mayP f bs (n : Int) = true then (f, bs, (n : Int), 0) else (0, List.replicate 16 0, 0, 1)
  | _, _ => (0, List.replicate 16 0, 0, 2)
/-- What is read of a text. -/
def parseP (s : ByteArray) : Int × List Nat × Int × Int :=
  if Lib.lastIndexByte s 47 < 0 then (0, List.replicate 16 0, 0, 2)
  else pairP (parseA (s.extract 0 (Lib.lastIndexByte s 47).toNat)) (numP (s.extract ((Lib.lastIndexByte s 47).toNat + 1) s.size))
def prefRet (r : Int × List Nat × Int × Int) : Value := .tuple #[prefV r.1 r.2.1 r.2.2.1, .int .i64 r.2.2.2]
theorem last_range (s : ByteArray) : Lib.lastIndexByte s 47 < 0 ∨ ∃ E : Nat, Lib.lastIndexByte s 47 = (E : Int) ∧ E < s.size := by
  rcases Lib.lastIndexByte_spec s 47 with ⟨h, _⟩ | ⟨i, hi, h, _, _⟩
  · exact .inl (by omega)
  · exact .inr ⟨i, h, by omega⟩
set_option maxRecDepth 100000 in
set_option maxHeartbeats 2000000 in
theorem cidrParse_any (s : ByteArray) (w : World) (hs : s.size ≤ 100000) (ht : Tabs w) :
    Calls Tryd.prog 17 #[.string s] w fun e w' => e = .returned (prefRet (parseP s)) ∧ Below w.heap.size w w' := by
  have HT := Lib.hid ht
  have HLZ : Hid ((List.replicate 16 0).length = 16) := Lib.hid rfl
  have HC := Lib.hid (fun w => Tryd.strings_LastIndexByte s 47 (by omega) w)
  have HR := Lib.hid (pref_zeroed w)
  have HB := Lib.hid ((Below.refl w.heap.size w).alloc (Nat.le_refl _) (.cells zP 26))
  obtain ⟨R, eR⟩ : ∃ R, parseP s = R := ⟨_, rfl⟩
  rw [eR]
  unfold parseP at eR
  rcases last_range s with hq | ⟨E, hq, hE⟩
  · rw [if_pos hq] at eR
    have HE := Lib.hid eR
    clear eR ht
    obtain ⟨q, eq⟩ : ∃ q, Lib.lastIndexByte s 47 = q := ⟨_, rfl⟩
    rw [eq] at hq HC
    have hd : decide (q < 0) = true := by simp [hq]
    clear eq
    go_enter Tryd.func17, Tryd.ntmps17
    go_upto_region 1 with fail
    generalize (w.alloc (.cells zP 26)) = W at *
    go_wp2_with fail
    refine (HC.out _).mono ?_
    rintro e w1 ⟨rfl, rfl⟩
    go_wp2_with (first | refine build_zero rfl rfl ?_ | refine store_pref HR _ _ HLZ rfl rfl rfl rfl (fun W HW HP => ?_))
    refine bodyPost_ret (results_pref2 Tryd.results17 rfl HP.out) rfl ⟨by rw [← HE.out]; rfl, by rw [HW.out]; exact below_cells (Nat.le_refl _) _ _ _ HB.out⟩
  · rw [if_neg (by rw [hq]; omega), hq, Int.toNat_natCast] at eR
    rw [hq] at HC
    have HE := Lib.hid eR
    have hE1 : (E : Int) ≤ (s.size : Int) := by omega
    have hE2 : (E : Int) + 1 ≤ (s.size : Int) := by omega
    have hd : decide ((E : Int) < 0) = false := by simp
    have HA := fun W (h : Tabs W) => Lib.hid (addrParse_any (s.extract 0 E) W (by simp; omega) h)
    have HNB := fun W => Lib.hid (cidrNumber_any (s.extract (E + 1) s.size) W (by simp; omega))
    have HOK := Lib.hid (parseA_ok (s.extract 0 E))
    have HNL := Lib.hid (numP_le (s.extract (E + 1) s.size))
    clear eR ht hq
    go_enter Tryd.func17, Tryd.ntmps17
    go_upto_region 1 with fail
    generalize (w.alloc (.cells zP 26)) = W at *
    go_wp2_with fail
    refine (HC.out _).mono ?_
    rintro e w1 ⟨rfl, rfl⟩
    go_wp2_with fail
    refine (HA _ (HT.out.below HB.out)).out.mono ?_
    rintro e w1 ⟨rfl, hb1⟩
    have HR1 := Lib.hid (HR.out.below hb1)
    have HB1 := Lib.hid (chain HB.out hb1)
    have HZ1 := Lib.hid (addr_zeroed w1)
    clear HR HB hb1 HA HC
    cases ho : parseA (s.extract 0 E) with
    | none =>
      rw [ho] at HE
      have HE2 : Hid (((0 : Int), List.replicate 16 0, (0 : Int), (2 : Int)) = R) := HE
      clear HE ho
      unfold addrRet
      go_upto_region 5 with (refine store_addr HZ1 _ _ HLZ rfl rfl rfl rfl (fun W1 HW1 HO1 => ?_))
      have HR2 := Lib.hid (HR1.out.below (below_newA HW1))
      have HB2 := Lib.hid (chain HB1.out (below_newA HW1))
      generalize w1.heap.size = G1 at *
      clear HR1 HB1 HZ1 HW1
      go_wp2_with fail
      refine (HNB _).out.mono ?_
      rintro e w2 ⟨rfl, rfl⟩
      unfold numRet
      go_wp2_with (first | refine build_zero rfl rfl ?_ | refine store_pref HR2 _ _ HLZ rfl rfl rfl rfl (fun W HW HP => ?_))
      refine bodyPost_ret (results_pref2 Tryd.results17 rfl HP.out) rfl ⟨by rw [← HE2.out]; rfl, by rw [HW.out]; exact below_cells (Nat.le_refl _) _ _ _ HB2.out⟩
    | some fb =>
      obtain ⟨f, bs⟩ := fb
      rw [ho] at HE
      obtain ⟨h16, hlt⟩ := HOK.out f bs ho
      have H16 := Lib.hid h16
      have HLT := Lib.hid hlt
      clear ho HOK h16 hlt
      unfold addrRet
      go_upto_region 5 with (refine store_addr HZ1 _ _ H16 rfl rfl rfl rfl (fun W1 HW1 HO1 => ?_))
      have HR2 := Lib.hid (HR1.out.below (below_newA HW1))
      have HB2 := Lib.hid (chain HB1.out (below_newA HW1))
      generalize w1.heap.size = G1 at *
      clear HR1 HB1 HZ1 HW1
      go_wp2_with fail
      refine (HNB _).out.mono ?_
      rintro e w2 ⟨rfl, rfl⟩
      cases hn : numP (s.extract (E + 1) s.size) with
      | none =>
        rw [hn] at HE
        have HE2 : Hid (((0 : Int), List.replicate 16 0, (0 : Int), (2 : Int)) = R) := HE
        clear HE hn HNL
        rw [show numRet none = .tuple #[.int .i64 ((0 : Nat) : Int), .bool false] from rfl]
        go_wp2_with (first | refine build_zero rfl rfl ?_ | refine store_pref HR2 _ _ HLZ rfl rfl rfl rfl (fun W HW HP => ?_))
        refine bodyPost_ret (results_pref2 Tryd.results17 rfl HP.out) rfl ⟨by rw [← HE2.out]; rfl, by rw [HW.out]; exact below_cells (Nat.le_refl _) _ _ _ HB2.out⟩
      | some n =>
        rw [hn] at HE
        have hnl := HNL.out n hn
        have HM := fun W => Lib.hid (cidrMay_any f bs (n : Int) W H16.out HLT.out (WalkArith.wf_i64 ⟨by omega, by omega⟩))
        have HE2 : Hid ((if mayP f bs (n : Int) = true then (f, bs, (n : Int), 0) else (0, List.replicate 16 0, 0, 1)) = R) := HE
        clear HE hn HNL hnl
        generalize mayP f bs (n : Int) = b at *
        rw [show numRet (some n) = .tuple #[.int .i64 (n : Int), .bool true] from rfl]
        have HZ3 := Lib.hid (pref_zeroed W1)
        go_upto_region 9 with (first | refine load_addr_g HO1 _ rfl rfl rfl ?_ | refine build_pref H16 rfl _ _ rfl rfl rfl ?_ | refine store_pref HZ3 _ _ H16 rfl rfl rfl rfl (fun W3 HW3 HP3 => ?_))
        have HR4 := Lib.hid (HR2.out.below (below_newP HW3))
        have HB4 := Lib.hid (chain HB2.out (below_newP HW3))
        generalize W1.heap.size = G3 at *
        clear HR2 HB2 HZ3 HW3 HO1
        go_wp2_with (refine load_pref_g HP3 _ rfl rfl rfl ?_)
        refine (HM _).out.mono ?_
        rintro e w5 ⟨rfl, hb5⟩
        have HR5 := Lib.hid (HR4.out.below hb5)
        have HP5 := Lib.hid (HP3.out.below hb5)
        have HB5 := Lib.hid (chain HB4.out hb5)
        clear HR4 HP3 HB4 hb5 HM
        cases b with
        | true =>
          rw [if_pos rfl] at HE2
          go_wp2_with (first | refine load_pref_g HP5 _ rfl rfl rfl ?_ | refine store_pref HR5 _ _ H16 rfl rfl rfl rfl (fun W HW HP => ?_))
          refine bodyPost_ret (results_pref2 Tryd.results17 rfl HP.out) rfl ⟨by rw [← HE2.out]; rfl, by rw [HW.out]; exact below_cells (Nat.le_refl _) _ _ _ HB5.out⟩
        | false =>
          rw [if_neg (by decide)] at HE2
          go_wp2_with (first | refine build_zero rfl rfl ?_ | refine store_pref HR5 _ _ HLZ rfl rfl rfl rfl (fun W HW HP => ?_))
          refine bodyPost_ret (results_pref2 Tryd.results17 rfl HP.out) rfl ⟨by rw [← HE2.out]; rfl, by rw [HW.out]; exact below_cells (Nat.le_refl _) _ _ _ HB5.out⟩
end Go.Proofs.YtpgjkeakhjnckaaDoor
/- Contracts of cidr.Has, cidr.Within. -/
namespace Go.Proofs.YtpgjkeakhjnckaaDoor
open Go.RowKit
set_option linter.unusedVariables false
set_option maxRecDepth 20000

set_option maxRecDepth 100000 in
set_option maxHeartbeats 1000000 in
theorem cidrHas_any (f : Int) (ps : List Nat) (n : Int) (g : Int) (us : List Nat) (w : World) (hp : ps.length = 16) (ha : us.length = 16) (hlt : ∀ x ∈ us, x < 256) (hn : (Lit.int .i64 n).wf = true) :
    Calls Tryd.prog 23 #[prefV f ps n, addrV g us] w fun e w' => e = .returned (.bool (hasR f ps n g us)) ∧ Below w.heap.size w w' := by
  have HP := Lib.hid hp
  have HA := Lib.hid ha
  have HMK := fun W => Lib.hid (cidrMask_any g us n W ha hlt hn)
  have HLR : Hid ((withL (bitsN g) us (maskN g n) 0).length = 16) := Lib.hid (withL_len _ _ _ _)
  obtain ⟨R, eR⟩ : ∃ R, hasR f ps n g us = R := ⟨_, rfl⟩
  rw [eR]
  have HE : Hid (decide (f = g ∧ ps = withL (bitsN g) us (maskN g n) 0 ∧ n = (maskN g n : Int)) = R) := Lib.hid (by rw [← eR]; rfl)
  generalize withL (bitsN g) us (maskN g n) 0 = ms at *
  generalize maskN g n = m at *
  obtain ⟨cs, ds, ecs, eds, H1, H2, HB⟩ := pref_addr_boxed f ps n g us w hp ha
  rw [ecs, eds]
  clear ecs eds hp ha hlt eR
  go_enter Tryd.func23, Tryd.ntmps23
  go_upto_region 1 with fail
  generalize ((w.alloc (.cells cs 26)).alloc (.cells ds 24)) = W at *
  obtain ⟨L, hL⟩ : ∃ L, [(w.heap.size, 0, prefL f ps n), (w.heap.size, 0, addrL f ps), (w.heap.size + 1, 0, addrL g us)] = L := ⟨_, rfl⟩
  have HK := Lib.hid (show HeldR L w W by rw [← hL]; exact ((HeldR.nil HB.out).addr H2.out).pref H1.out)
  have Mt2 := Lib.hid (show InP L w.heap.size f ps n from ⟨by rw [← hL]; simp, HP.out⟩)
  have Mt3 := Lib.hid (show InA L (w.heap.size + 1) g us from ⟨by rw [← hL]; simp, HA.out⟩)
  have Cn := Lib.hid (bitsR Mt2.out w)
  clear hL H1 H2 HB
  have C1 : ∀ w', HeldR L w w' → Hid (Calls Tryd.prog 10 #[addrV g us, .int .i64 n] w' fun e w'' => e = .returned (prefV g ms (m : Int)) ∧ Below w'.heap.size w' w'') := fun w' h => HMK w'
  clear HMK
  have gd := guard_pref
  have q1 := fun W => run_eq_pref f g ps ms n (m : Int) W HP.out HLR.out
  rw [HE.out] at q1
  refine wp_region_noPanic ?_
  refine wp_region_held_drew (S := HeldR L w) (by kernel_rfl) HK.out.drew (fun hHeld => ?_)
  refine wpAnyH_take (i := 0) rfl (by kernel_rfl) (by kernel_rfl) (by kernel_rfl) (fun _ _ _ h => h) (yields_pref Mt2 (by rfl) _ rfl rfl) (by assumption) ?_
  try simp only [Act.put, List.getElem_toArray, List.getElem_cons_zero, List.setIfInBounds_toArray, List.set_cons_zero, List.set_cons_succ]
  refine wpAnyH_take (i := 1) rfl (by kernel_rfl) (by kernel_rfl) (by kernel_rfl) (fun _ _ _ h => h) (yields_addr Mt3 (by rfl) _ rfl rfl) (by assumption) ?_
  try simp only [Act.put, List.getElem_toArray, List.getElem_cons_zero, List.getElem_cons_succ, List.setIfInBounds_toArray, List.set_cons_zero, List.set_cons_succ]
  refine wpAnyH_take (i := 2) (v := ?_) rfl (by kernel_rfl) (by kernel_rfl) (by kernel_rfl) (fun _ _ _ h => h) (Or.inl ⟨by rfl, ?_⟩) (by assumption) ?_
  rotate_left
  · (intro w hSw; go_simp; try (with_reducible rfl))
  try simp only [Act.put, List.getElem_toArray, List.getElem_cons_zero, List.getElem_cons_succ, List.setIfInBounds_toArray, List.set_cons_zero, List.set_cons_succ]
  refine wpAnyH_take (i := 3) (v := ?_) rfl (by kernel_rfl) (by kernel_rfl) (by kernel_rfl) (fun _ _ _ h => h) (Or.inl ⟨by rfl, ?_⟩) (by assumption) ?_
  rotate_left
  · (intro w hSw; have hc0 := Cn.out w hSw; go_simp; try (with_reducible rfl))
  try simp only [Act.put, List.getElem_toArray, List.getElem_cons_zero, List.getElem_cons_succ, List.setIfInBounds_toArray, List.set_cons_zero, List.set_cons_succ]
  refine wpAnyH_ready (rs := [4]) (by kernel_rfl) (by simp) ?_
  refine AllReadyH.cons rfl (fun K hK => ?_) AllReadyH.nil
  go_simp
  refine (Calls.heldR (C1 _ (by assumption)).out (by assumption)).mono ?_
  rintro e wr4 ⟨rfl, hS4⟩
  go_wp2_with fail
  refine hK.out _ _ hS4 (fun hHeld => ?_)
  clear hK K
  try simp only [Act.put, List.getElem_toArray, List.getElem_cons_zero, List.getElem_cons_succ, List.setIfInBounds_toArray, List.set_cons_zero, List.set_cons_succ]
  refine wpAnyH_take (i := 5) (v := ?_) rfl (by kernel_rfl) (by kernel_rfl) (by kernel_rfl) (fun _ _ _ h => h) (Or.inl ⟨by rfl, ?_⟩) (by assumption) ?_
  rotate_left
  · (intro w hSw; go_simp; try (with_reducible rfl))
  try simp only [Act.put, List.getElem_toArray, List.getElem_cons_zero, List.getElem_cons_succ, List.setIfInBounds_toArray, List.set_cons_zero, List.set_cons_succ]
  refine wpAnyH_take (i := 6) (v := ?_) rfl (by kernel_rfl) (by kernel_rfl) (by kernel_rfl) (fun _ _ _ h => h) (Or.inl ⟨by rfl, ?_⟩) (by assumption) ?_
  rotate_left
  · (intro w hSw; go_simp; try (with_reducible rfl))
  try simp only [Act.put, List.getElem_toArray, List.getElem_cons_zero, List.getElem_cons_succ, List.setIfInBounds_toArray, List.set_cons_zero, List.set_cons_succ]
  refine wpAnyH_done (by kernel_rfl) ?_ _
  refine NoPanic.normal ?_
  go_wp2_with fail
  go_ret
  exact ⟨rfl, hHeld.bel⟩
set_option maxRecDepth 100000 in
set_option maxHeartbeats 1000000 in
theorem cidrWithin_any (f : Int) (ps : List Nat) (n : Int) (g : Int) (qs : List Nat) (m : Int) (w : World) (hp : ps.length = 16) (hq : qs.length = 16) (hlt : ∀ x ∈ ps, x < 256) (hm : (Lit.int .i64 m).wf = true) :
    Calls Tryd.prog 27 #[prefV f ps n, prefV g qs m] w fun e w' => e = .returned (.bool (withinR f ps n g qs m)) ∧ Below w.heap.size w w' := by
  have HH := fun W => Lib.hid (cidrHas_any g qs m f ps W hq hp hlt hm)
  obtain ⟨R, eR⟩ : ∃ R, withinR f ps n g qs m = R := ⟨_, rfl⟩
  rw [eR]
  have HE : Hid ((decide (m ≤ n) && hasR g qs m f ps) = R) := Lib.hid (by rw [← eR]; rfl)
  generalize hasR g qs m f ps = b at *
  obtain ⟨cs, ds, ecs, eds, H1, H2, HB⟩ := prefs_boxed f ps n g qs m w hp hq
  rw [ecs, eds]
  clear ecs eds hp hq hlt eR
  go_enter Tryd.func27, Tryd.ntmps27
  go_upto_region 1 with fail
  generalize ((w.alloc (.cells cs 26)).alloc (.cells ds 26)) = W at *
  have b1 := H1.out.bits
  have b2 := H2.out.bits
  have H1a := Lib.hid H1.out.addr
  by_cases h : m ≤ n
  · have hd : decide (m ≤ n) = true := by simp [h]
    rw [hd, Bool.true_and] at HE
    go_wp2_with (first | refine load_pref_g H2 _ rfl rfl rfl ?_ | refine load_addr_g H1a _ rfl rfl rfl ?_)
    refine (HH _).out.mono ?_
    rintro e w1 ⟨rfl, hb1⟩
    go_wp2_with fail
    go_ret
    exact ⟨by rw [HE.out]; rfl, chain HB.out hb1⟩
  · have hd : decide (m ≤ n) = false := by simp; omega
    rw [hd, Bool.false_and] at HE
    go_wp2_with fail
    go_ret
    exact ⟨by rw [← HE.out]; rfl, HB.out⟩
end Go.Proofs.YtpgjkeakhjnckaaDoor
/- The document's example of layer 5. -/
namespace Go.Proofs.YtpgjkeakhjnckaaDoor
open Go.RowKit
set_option linter.unusedVariables false
set_option maxRecDepth 20000

theorem example5_parse : parseP (ofL [49, 55, 50, 46, 49, 54, 46, 48, 46, 48, 47, 49, 50]) = (4, b4 2886729728, 12, 0) := by decide +kernel
theorem example5_has : hasR 4 (b4 2886729728) 12 4 (b4 2887778303) = true := by decide +kernel
theorem example5_any (X : ByteArray) (h : X.data.toList = [49, 55, 50, 46, 49, 54, 46, 48, 46, 48, 47, 49, 50]) : parseP X = (4, b4 2886729728, 12, 0) := by
  rw [show X = ofL [49, 55, 50, 46, 49, 54, 46, 48, 46, 48, 47, 49, 50] from eq_ofL h]
  exact example5_parse
set_option maxRecDepth 100000 in
set_option maxHeartbeats 1000000 in
theorem lives5_any (w : World) (ht : Tabs w) :
    Calls Tryd.prog 15 #[] w fun e w' => e = .returned (.bool true) ∧ Below w.heap.size w w' := by
  have HT := Lib.hid ht
  have HX := Lib.hid example5_any
  have HLN := Lib.hid (b4_len 2886729728)
  have HO4 := fun W => Lib.hid (refOf4_any 2887778303 W (by decide))
  have HHS := fun W => Lib.hid (cidrHas_any 4 (b4 2886729728) 12 4 (b4 2887778303) W (b4_len _) (b4_len _) (b4_lt _) (by decide))
  rw [example5_has] at HHS
  generalize b4 2886729728 = B at *
  generalize b4 2887778303 = U at *
  clear ht
  go_enter Tryd.func15, Tryd.ntmps15
  go_wp2_with fail
  refine (cidrParse_any _ w (by decide) HT.out).mono ?_
  rintro e w1 ⟨rfl, hb1⟩
  rw [HX.out _ rfl]
  rw [show prefRet (4, B, 12, 0) = .tuple #[prefV 4 B 12, .int .i64 0] from rfl]
  have HZ1 := Lib.hid (pref_zeroed w1)
  have HB1 := Lib.hid hb1
  clear hb1
  go_upto_region 2 with (refine store_pref HZ1 _ _ HLN rfl rfl rfl rfl (fun W1 HW1 HP1 => ?_))
  have HB2 := Lib.hid (chain HB1.out (below_newP HW1))
  generalize w1.heap.size = G1 at *
  clear HB1 HZ1 HW1
  obtain ⟨L, hL⟩ : ∃ L, [(G1, 0, prefL 4 B 12), (G1, 0, addrL 4 B)] = L := ⟨_, rfl⟩
  have HK := Lib.hid (show HeldR L w W1 by rw [← hL]; exact (HeldR.nil HB2.out).pref HP1.out)
  have Mp := Lib.hid (show InP L G1 4 B 12 from ⟨by rw [← hL]; simp, HLN.out⟩)
  clear hL HP1 HB2
  have C1 : ∀ w', HeldR L w w' → Hid (Calls Tryd.prog 32 #[.int .u32 2887778303] w' fun e w'' => e = .returned (addrV 4 U) ∧ Below w'.heap.size w' w'') := fun w' h => HO4 w'
  have C2 : ∀ w', HeldR L w w' → Hid (Calls Tryd.prog 23 #[prefV 4 B 12, addrV 4 U] w' fun e w'' => e = .returned (.bool true) ∧ Below w'.heap.size w' w'') := fun w' h => HHS w'
  refine wp_region_noPanic ?_
  refine wp_region_held_drew (S := HeldR L w) (by kernel_rfl) HK.out.drew (fun hHeld => ?_)
  refine wpAnyH_take (i := 0) (v := ?_) rfl (by kernel_rfl) (by kernel_rfl) (by kernel_rfl) (fun _ _ _ h => h) (Or.inl ⟨by rfl, ?_⟩) (by assumption) ?_
  rotate_left
  · (intro w hSw; go_simp; try (with_reducible rfl))
  try simp only [Act.put, List.getElem_toArray, List.getElem_cons_zero, List.setIfInBounds_toArray, List.set_cons_zero, List.set_cons_succ]
  refine wpAnyH_take (i := 1) (v := ?_) rfl (by kernel_rfl) (by kernel_rfl) (by kernel_rfl) (fun _ _ _ h => h) (Or.inl ⟨by rfl, ?_⟩) (by assumption) ?_
  rotate_left
  · (intro w hSw; go_simp; try (with_reducible rfl))
  try simp only [Act.put, List.getElem_toArray, List.getElem_cons_zero, List.getElem_cons_succ, List.setIfInBounds_toArray, List.set_cons_zero, List.set_cons_succ]
  refine wpAnyH_take (i := 2) (v := ?_) rfl (by kernel_rfl) (by kernel_rfl) (by kernel_rfl) (fun _ _ _ h => h) (Or.inl ⟨by rfl, ?_⟩) (by assumption) ?_
  rotate_left
  · (intro w hSw; go_simp; try (with_reducible rfl))
  try simp only [Act.put, List.getElem_toArray, List.getElem_cons_zero, List.getElem_cons_succ, List.setIfInBounds_toArray, List.set_cons_zero, List.set_cons_succ]
  refine wpAnyH_take (i := 3) rfl (by kernel_rfl) (by kernel_rfl) (by kernel_rfl) (fun _ _ _ h => h) (yields_pref Mp (by rfl) _ rfl rfl) (by assumption) ?_
  try simp only [Act.put, List.getElem_toArray, List.getElem_cons_zero, List.getElem_cons_succ, List.setIfInBounds_toArray, List.set_cons_zero, List.set_cons_succ]
  refine wpAnyH_ready (rs := [4]) (by kernel_rfl) (by simp) ?_
  refine AllReadyH.cons rfl (fun K hK => ?_) AllReadyH.nil
  go_simp
  refine (Calls.heldR (C1 _ (by assumption)).out (by assumption)).mono ?_
  rintro e wr4 ⟨rfl, hS4⟩
  go_wp2_with fail
  refine hK.out _ _ hS4 (fun hHeld => ?_)
  clear hK K
  try simp only [Act.put, List.getElem_toArray, List.getElem_cons_zero, List.getElem_cons_succ, List.setIfInBounds_toArray, List.set_cons_zero, List.set_cons_succ]
  refine wpAnyH_ready (rs := [5]) (by kernel_rfl) (by simp) ?_
  refine AllReadyH.cons rfl (fun K hK => ?_) AllReadyH.nil
  go_simp
  refine (Calls.heldR (C2 _ (by assumption)).out (by assumption)).mono ?_
  rintro e wr5 ⟨rfl, hS5⟩
  go_wp2_with fail
  refine hK.out _ _ hS5 (fun hHeld => ?_)
  clear hK K
  try simp only [Act.put, List.getElem_toArray, List.getElem_cons_zero, List.getElem_cons_succ, List.setIfInBounds_toArray, List.set_cons_zero, List.set_cons_succ]
  refine wpAnyH_take (i := 6) (v := ?_) rfl (by kernel_rfl) (by kernel_rfl) (by kernel_rfl) (fun _ _ _ h => h) (Or.inl ⟨by rfl, ?_⟩) (by assumption) ?_
  rotate_left
  · (intro w hSw; go_simp; try (with_reducible rfl))
  try simp only [Act.put, List.getElem_toArray, List.getElem_cons_zero, List.getElem_cons_succ, List.setIfInBounds_toArray, List.set_cons_zero, List.set_cons_succ]
  refine wpAnyH_take (i := 7) (v := ?_) rfl (by kernel_rfl) (by kernel_rfl) (by kernel_rfl) (fun _ _ _ h => h) (Or.inl ⟨by rfl, ?_⟩) (by assumption) ?_
  rotate_left
  · (intro w hSw; go_simp; try (with_reducible rfl))
  try simp only [Act.put, List.getElem_toArray, List.getElem_cons_zero, List.getElem_cons_succ, List.setIfInBounds_toArray, List.set_cons_zero]
  refine wpAnyH_done (by kernel_rfl) ?_ _
  refine NoPanic.normal ?_
  go_wp2_with fail
  go_ret
  exact ⟨rfl, hHeld.bel⟩
end Go.Proofs.YtpgjkeakhjnckaaDoor
/- Contracts of cidr.Print and of the reference's Print of layer 5. -/
namespace Go.Proofs.YtpgjkeakhjnckaaDoor
open Go.RowKit
set_option linter.unusedVariables false
set_option maxRecDepth 20000

/-- A prefix's text. -/
def printP (f : Int) (bs : List Nat) (n : Int) : ByteArray := printA f bs ++ ⟨#[47]⟩ ++ ⟨(Lib.itoa n).toArray⟩
theorem itoa_small (n : Nat) (h : n ≤ 128) : (⟨(Lib.itoa (n : Int)).toArray⟩ : ByteArray).size ≤ 10 := by
  have all : ∀ n : Fin 129, (⟨(Lib.itoa (n.val : Int)).toArray⟩ : ByteArray).size ≤ 10 := by decide +kernel
  exact all ⟨n, by omega⟩
set_option maxRecDepth 100000 in
set_option maxHeartbeats 1000000 in
theorem cidrPrint_any (f : Int) (bs : List Nat) (n : Nat) (w : World) (h16 : bs.length = 16) (hlt : ∀ x ∈ bs, x < 256) (hn : n ≤ 128) (ht : Tabs w) :
    Calls Tryd.prog 19 #[prefV f bs (n : Int)] w fun e w' => e = .returned (.string (printP f bs (n : Int))) ∧ Below w.heap.size w w' := by
  have H16 := Lib.hid h16
  have HT := Lib.hid ht
  have HPA := fun W (h : Tabs W) => Lib.hid (addrPrint_any f bs W h16 hlt h)
  have HDE := fun W (h : Tabs W) => Lib.hid (decimal_any (n : Int) W (by omega) (by omega) h.pow)
  obtain ⟨R, eR⟩ : ∃ R, printP f bs (n : Int) = R := ⟨_, rfl⟩
  rw [eR]
  have HE : Hid (printA f bs ++ ⟨#[47]⟩ ++ ⟨(Lib.itoa (n : Int)).toArray⟩ = R) := Lib.hid eR
  have z1 := printA_small f bs h16 hlt
  have z2 := itoa_small n hn
  clear eR ht hlt
  generalize printA f bs = X at *
  generalize (⟨(Lib.itoa (n : Int)).toArray⟩ : ByteArray) = Y at *
  obtain ⟨cs, ecs, H1, HB⟩ := pref_boxed f bs (n : Int) w h16
  rw [ecs]
  clear ecs h16
  go_enter Tryd.func19, Tryd.ntmps19
  go_upto_region 1 with fail
  generalize (w.alloc (.cells cs 26)) = W at *
  obtain ⟨L, hL⟩ : ∃ L, [(w.heap.size, 0, prefL f bs (n : Int)), (w.heap.size, 0, addrL f bs)] = L := ⟨_, rfl⟩
  have HK := Lib.hid (show HeldR L w W by rw [← hL]; exact (HeldR.nil HB.out).pref H1.out)
  have Mp := Lib.hid (show InP L w.heap.size f bs (n : Int) from ⟨by rw [← hL]; simp, H16.out⟩)
  have Ma := Lib.hid (show InA L w.heap.size f bs from ⟨by rw [← hL]; simp, H16.out⟩)
  have Cn := Lib.hid (bitsR Mp.out w)
  clear hL H1 HB
  have C1 : ∀ w', HeldR L w w' → Hid (Calls Tryd.prog 44 #[addrV f bs] w' fun e w'' => e = .returned (.string X) ∧ Below w'.heap.size w' w'') := fun w' h => HPA w' (HT.out.below h.bel)
  have C2 : ∀ w', HeldR L w w' → Hid (Calls Tryd.prog 45 #[.int .i64 (n : Int)] w' fun e w'' => e = .returned (.string Y) ∧ Below w'.heap.size w' w'') := fun w' h => HDE w' (HT.out.below h.bel)
  clear HPA HDE
  have o1 : ¬ 9223372036854775807 < X.size + 1 := by omega
  have o2 : ¬ 9223372036854775807 < X.size + 1 + Y.size := by omega
  refine wp_region_noPanic ?_
  refine wp_region_held_drew (S := HeldR L w) (by kernel_rfl) HK.out.drew (fun hHeld => ?_)
  refine wpAnyH_take (i := 0) (v := ?_) rfl (by kernel_rfl) (by kernel_rfl) (by kernel_rfl) (fun _ _ _ h => h) (Or.inl ⟨by rfl, ?_⟩) (by assumption) ?_
  rotate_left
  · (intro w hSw; go_simp; try (with_reducible rfl))
  try simp only [Act.put, List.getElem_toArray, List.getElem_cons_zero, List.setIfInBounds_toArray, List.set_cons_zero, List.set_cons_succ]
  refine wpAnyH_take (i := 1) rfl (by kernel_rfl) (by kernel_rfl) (by kernel_rfl) (fun _ _ _ h => h) (yields_addr Ma (by rfl) _ rfl rfl) (by assumption) ?_
  try simp only [Act.put, List.getElem_toArray, List.getElem_cons_zero, List.getElem_cons_succ, List.setIfInBounds_toArray, List.set_cons_zero, List.set_cons_succ]
  refine wpAnyH_take (i := 4) (v := ?_) rfl (by kernel_rfl) (by kernel_rfl) (by kernel_rfl) (fun _ _ _ h => h) (Or.inl ⟨by rfl, ?_⟩) (by assumption) ?_
  rotate_left
  · (intro w hSw; go_simp; try (with_reducible rfl))
  try simp only [Act.put, List.getElem_toArray, List.getElem_cons_zero, List.getElem_cons_succ, List.setIfInBounds_toArray, List.set_cons_zero, List.set_cons_succ]
  refine wpAnyH_take (i := 5) (v := ?_) rfl (by kernel_rfl) (by kernel_rfl) (by kernel_rfl) (fun _ _ _ h => h) (Or.inl ⟨by rfl, ?_⟩) (by assumption) ?_
  rotate_left
  · (intro w hSw; have hc0 := Cn.out w hSw; go_simp; try (with_reducible rfl))
  try simp only [Act.put, List.getElem_toArray, List.getElem_cons_zero, List.getElem_cons_succ, List.setIfInBounds_toArray, List.set_cons_zero, List.set_cons_succ]
  refine wpAnyH_ready (rs := [2]) (by kernel_rfl) (by simp) ?_
  refine AllReadyH.cons rfl (fun K hK => ?_) AllReadyH.nil
  go_simp
  refine (Calls.heldR (C1 _ (by assumption)).out (by assumption)).mono ?_
  rintro e wr2 ⟨rfl, hS2⟩
  go_wp2_with fail
  refine hK.out _ _ hS2 (fun hHeld => ?_)
  clear hK K
  try simp only [Act.put, List.getElem_toArray, List.getElem_cons_zero, List.getElem_cons_succ, List.setIfInBounds_toArray, List.set_cons_zero, List.set_cons_succ]
  refine wpAnyH_take (i := 3) (v := ?_) rfl (by kernel_rfl) (by kernel_rfl) (by kernel_rfl) (fun _ _ _ h => h) (Or.inl ⟨by rfl, ?_⟩) (by assumption) ?_
  rotate_left
  · (intro w hSw; go_simp; try (with_reducible rfl))
  try simp only [Act.put, List.getElem_toArray, List.getElem_cons_zero, List.getElem_cons_succ, List.setIfInBounds_toArray, List.set_cons_zero, List.set_cons_succ]
  refine wpAnyH_ready (rs := [6]) (by kernel_rfl) (by simp) ?_
  refine AllReadyH.cons rfl (fun K hK => ?_) AllReadyH.nil
  go_simp
  refine (Calls.heldR (C2 _ (by assumption)).out (by assumption)).mono ?_
  rintro e wr6 ⟨rfl, hS6⟩
  go_wp2_with fail
  refine hK.out _ _ hS6 (fun hHeld => ?_)
  clear hK K
  try simp only [Act.put, List.getElem_toArray, List.getElem_cons_zero, List.getElem_cons_succ, List.setIfInBounds_toArray, List.set_cons_zero, List.set_cons_succ]
  refine wpAnyH_take (i := 7) (v := ?_) rfl (by kernel_rfl) (by kernel_rfl) (by kernel_rfl) (fun _ _ _ h => h) (Or.inl ⟨by rfl, ?_⟩) (by assumption) ?_
  rotate_left
  · (intro w hSw; go_simp; try (with_reducible rfl))
  try simp only [Act.put, List.getElem_toArray, List.getElem_cons_zero, List.getElem_cons_succ, List.setIfInBounds_toArray, List.set_cons_zero, List.set_cons_succ]
  refine wpAnyH_take (i := 8) (v := ?_) rfl (by kernel_rfl) (by kernel_rfl) (by kernel_rfl) (fun _ _ _ h => h) (Or.inl ⟨by rfl, ?_⟩) (by assumption) ?_
  rotate_left
  · (intro w hSw; go_simp; try (with_reducible rfl))
  try simp only [Act.put, List.getElem_toArray, List.getElem_cons_zero, List.getElem_cons_succ, List.setIfInBounds_toArray, List.set_cons_zero, List.set_cons_succ]
  refine wpAnyH_done (by kernel_rfl) ?_ _
  refine NoPanic.normal ?_
  go_wp2_with fail
  go_ret
  exact ⟨by rw [← HE.out]; rfl, hHeld.bel⟩
set_option maxRecDepth 100000 in
set_option maxHeartbeats 1000000 in
theorem refPrintP_any (f : Int) (bs : List Nat) (n : Nat) (w : World) (h16 : bs.length = 16) (hlt : ∀ x ∈ bs, x < 256) (hn : n ≤ 128) :
    Calls Tryd.prog 20 #[prefV f bs (n : Int)] w fun e w' => e = .returned (.string (printP f bs (n : Int))) ∧ Below w.heap.size w w' := by
  have H16 := Lib.hid h16
  have HPA := fun W => Lib.hid (refPrintA_any f bs W h16 hlt)
  have HDE := fun W => Lib.hid (refDecimal_any (n : Int) W (by omega) (by omega))
  obtain ⟨R, eR⟩ : ∃ R, printP f bs (n : Int) = R := ⟨_, rfl⟩
  rw [eR]
  have HE : Hid (printA f bs ++ ⟨#[47]⟩ ++ ⟨(Lib.itoa (n : Int)).toArray⟩ = R) := Lib.hid eR
  have z1 := printA_small f bs h16 hlt
  have z2 := itoa_small n hn
  clear eR hlt
  generalize printA f bs = X at *
  generalize (⟨(Lib.itoa (n : Int)).toArray⟩ : ByteArray) = Y at *
  obtain ⟨cs, ecs, H1, HB⟩ := pref_boxed f bs (n : Int) w h16
  rw [ecs]
  clear ecs h16
  go_enter Tryd.func20, Tryd.ntmps20
  go_upto_region 1 with fail
  generalize (w.alloc (.cells cs 26)) = W at *
  obtain ⟨L, hL⟩ : ∃ L, [(w.heap.size, 0, prefL f bs (n : Int)), (w.heap.size, 0, addrL f bs)] = L := ⟨_, rfl⟩
  have HK := Lib.hid (show HeldR L w W by rw [← hL]; exact (HeldR.nil HB.out).pref H1.out)
  have Mp := Lib.hid (show InP L w.heap.size f bs (n : Int) from ⟨by rw [← hL]; simp, H16.out⟩)
  have Ma := Lib.hid (show InA L w.heap.size f bs from ⟨by rw [← hL]; simp, H16.out⟩)
  have Cn := Lib.hid (bitsR Mp.out w)
  clear hL H1 HB
  have C1 : ∀ w', HeldR L w w' → Hid (Calls Tryd.prog 46 #[addrV f bs] w' fun e w'' => e = .returned (.string X) ∧ Below w'.heap.size w' w'') := fun w' h => HPA w'
  have C2 : ∀ w', HeldR L w w' → Hid (Calls Tryd.prog 47 #[.int .i64 (n : Int)] w' fun e w'' => e = .returned (.string Y) ∧ Below w'.heap.size w' w'') := fun w' h => HDE w'
  clear HPA HDE
  have o1 : ¬ 9223372036854775807 < X.size + 1 := by omega
  have o2 : ¬ 9223372036854775807 < X.size + 1 + Y.size := by omega
  refine wp_region_noPanic ?_
  refine wp_region_held_drew (S := HeldR L w) (by kernel_rfl) HK.out.drew (fun hHeld => ?_)
  refine wpAnyH_take (i := 0) (v := ?_) rfl (by kernel_rfl) (by kernel_rfl) (by kernel_rfl) (fun _ _ _ h => h) (Or.inl ⟨by rfl, ?_⟩) (by assumption) ?_
  rotate_left
  · (intro w hSw; go_simp; try (with_reducible rfl))
  try simp only [Act.put, List.getElem_toArray, List.getElem_cons_zero, List.setIfInBounds_toArray, List.set_cons_zero, List.set_cons_succ]
  refine wpAnyH_take (i := 1) rfl (by kernel_rfl) (by kernel_rfl) (by kernel_rfl) (fun _ _ _ h => h) (yields_addr Ma (by rfl) _ rfl rfl) (by assumption) ?_
  try simp only [Act.put, List.getElem_toArray, List.getElem_cons_zero, List.getElem_cons_succ, List.setIfInBounds_toArray, List.set_cons_zero, List.set_cons_succ]
  refine wpAnyH_take (i := 4) (v := ?_) rfl (by kernel_rfl) (by kernel_rfl) (by kernel_rfl) (fun _ _ _ h => h) (Or.inl ⟨by rfl, ?_⟩) (by assumption) ?_
  rotate_left
  · (intro w hSw; go_simp; try (with_reducible rfl))
  try simp only [Act.put, List.getElem_toArray, List.getElem_cons_zero, List.getElem_cons_succ, List.setIfInBounds_toArray, List.set_cons_zero, List.set_cons_succ]
  refine wpAnyH_take (i := 5) (v := ?_) rfl (by kernel_rfl) (by kernel_rfl) (by kernel_rfl) (fun _ _ _ h => h) (Or.inl ⟨by rfl, ?_⟩) (by assumption) ?_
  rotate_left
  · (intro w hSw; have hc0 := Cn.out w hSw; go_simp; try (with_reducible rfl))
  try simp only [Act.put, List.getElem_toArray, List.getElem_cons_zero, List.getElem_cons_succ, List.setIfInBounds_toArray, List.set_cons_zero, List.set_cons_succ]
  refine wpAnyH_ready (rs := [2]) (by kernel_rfl) (by simp) ?_
  refine AllReadyH.cons rfl (fun K hK => ?_) AllReadyH.nil
  go_simp
  refine (Calls.heldR (C1 _ (by assumption)).out (by assumption)).mono ?_
  rintro e wr2 ⟨rfl, hS2⟩
  go_wp2_with fail
  refine hK.out _ _ hS2 (fun hHeld => ?_)
  clear hK K
  try simp only [Act.put, List.getElem_toArray, List.getElem_cons_zero, List.getElem_cons_succ, List.setIfInBounds_toArray, List.set_cons_zero, List.set_cons_succ]
  refine wpAnyH_take (i := 3) (v := ?_) rfl (by kernel_rfl) (by kernel_rfl) (by kernel_rfl) (fun _ _ _ h => h) (Or.inl ⟨by rfl, ?_⟩) (by assumption) ?_
  rotate_left
  · (intro w hSw; go_simp; try (with_reducible rfl))
  try simp only [Act.put, List.getElem_toArray, List.getElem_cons_zero, List.getElem_cons_succ, List.setIfInBounds_toArray, List.set_cons_zero, List.set_cons_succ]
  refine wpAnyH_ready (rs := [6]) (by kernel_rfl) (by simp) ?_
  refine AllReadyH.cons rfl (fun K hK => ?_) AllReadyH.nil
  go_simp
  refine (Calls.heldR (C2 _ (by assumption)).out (by assumption)).mono ?_
  rintro e wr6 ⟨rfl, hS6⟩
  go_wp2_with fail
  refine hK.out _ _ hS6 (fun hHeld => ?_)
  clear hK K
  try simp only [Act.put, List.getElem_toArray, List.getElem_cons_zero, List.getElem_cons_succ, List.setIfInBounds_toArray, List.set_cons_zero, List.set_cons_succ]
  refine wpAnyH_take (i := 7) (v := ?_) rfl (by kernel_rfl) (by kernel_rfl) (by kernel_rfl) (fun _ _ _ h => h) (Or.inl ⟨by rfl, ?_⟩) (by assumption) ?_
  rotate_left
  · (intro w hSw; go_simp; try (with_reducible rfl))
  try simp only [Act.put, List.getElem_toArray, List.getElem_cons_zero, List.getElem_cons_succ, List.setIfInBounds_toArray, List.set_cons_zero, List.set_cons_succ]
  refine wpAnyH_take (i := 8) (v := ?_) rfl (by kernel_rfl) (by kernel_rfl) (by kernel_rfl) (fun _ _ _ h => h) (Or.inl ⟨by rfl, ?_⟩) (by assumption) ?_
  rotate_left
  · (intro w hSw; go_simp; try (with_reducible rfl))
  try simp only [Act.put, List.getElem_toArray, List.getElem_cons_zero, List.getElem_cons_succ, List.setIfInBounds_toArray, List.set_cons_zero, List.set_cons_succ]
  refine wpAnyH_done (by kernel_rfl) ?_ _
  refine NoPanic.normal ?_
  go_wp2_with fail
  go_ret
  exact ⟨by rw [← HE.out]; rfl, hHeld.bel⟩
end Go.Proofs.YtpgjkeakhjnckaaDoor
/- What is printed of a prefix that may be is read as it was. -/
namespace Go.Proofs.YtpgjkeakhjnckaaDoor
open Go.RowKit
set_option linter.unusedVariables false
set_option maxRecDepth 20000

theorem itoa_numP : ∀ n : Fin 129, numP ⟨(Lib.itoa (n.val : Int)).toArray⟩ = some n.val ∧ ((Lib.itoa (n.val : Int)).all fun c => c != 47) = true := by decide +kernel
theorem parseP_len (s : ByteArray) : (parseP s).2.1.length = 16 := by
  unfold parseP
  split
  · rfl
  · cases ho : parseA (s.extract 0 (Lib.lastIndexByte s 47).toNat) with
    | none => rfl
    | some fb =>
      obtain ⟨f, bs⟩ := fb
      cases hn : numP (s.extract ((Lib.lastIndexByte s 47).toNat + 1) s.size) with
      | none => rfl
      | some n =>
        show (if mayP f bs (n : Int) = true then (f, bs, (n : Int), (0 : Int)) else (0, List.replicate 16 0, 0, 1)).2.1.length = 16
        split
        · exact (parseA_ok _ f bs ho).1
        · rfl
theorem last_slash (X Y : ByteArray) (h : ∀ c ∈ Y.data.toList, c.toNat ≠ 47) : Lib.lastIndexByte (X ++ ⟨#[47]⟩ ++ Y) 47 = (X.size : Int) := by
  have hsz : (X ++ ⟨#[47]⟩ ++ Y).size = X.size + 1 + Y.size := by
    rw [ByteArray.size_append, ByteArray.size_append]
    rfl
  have hd : ∀ j, (X ++ ⟨#[47]⟩ ++ Y).data[j]! = (X.data.toList ++ 47 :: Y.data.toList).getD j 0 := by
    intro j
    have e : (X ++ ⟨#[47]⟩ ++ Y).data = (X.data.toList ++ 47 :: Y.data.toList).toArray := by
      apply Array.ext'
      simp
    rw [e, getElem!_def, List.getElem?_toArray, List.getD_eq_getElem?_getD]
    cases (X.data.toList ++ 47 :: Y.data.toList)[j]? <;> rfl
  have hX : X.data.toList.length = X.size := by simp
  have hat : (X.data.toList ++ 47 :: Y.data.toList).getD X.size 0 = 47 := by
    rw [List.getD_eq_getElem?_getD, List.getElem?_append_right (by omega), hX, Nat.sub_self]
    rfl
  have hbe : ∀ j, X.size < j → j < X.size + 1 + Y.size → ((X.data.toList ++ 47 :: Y.data.toList).getD j 0).toNat ≠ 47 := by
    intro j h1 h2
    obtain ⟨k, rfl⟩ : ∃ k, j = X.size + (k + 1) := ⟨j - X.size - 1, by omega⟩
    have hk : k < Y.data.toList.length := by simp; omega
    rw [List.getD_eq_getElem?_getD, List.getElem?_append_right (by omega), hX, Nat.add_sub_cancel_left, List.getElem?_cons_succ, List.getElem?_eq_getElem hk]
    exact h _ (List.getElem_mem hk)
  rcases Lib.lastIndexByte_spec (X ++ ⟨#[47]⟩ ++ Y) 47 with ⟨_, hn⟩ | ⟨i, hi, hv, hc, hn⟩
  · exfalso
    have := hn X.size (by omega)
    rw [hd, hat] at this
    exact this rfl
  · rw [hv]
    have h1 : ¬ i < X.size := fun hlt => by
      have := hn X.size hlt (by omega)
      rw [hd, hat] at this
      exact this rfl
    have h2 : ¬ X.size < i := fun hlt => by
      rw [hd] at hc
      exact hbe i hlt (by omega) (by exact_mod_cast hc)
    have : i = X.size := by omega
    rw [this]
theorem extract_tail (X Y : ByteArray) : (X ++ ⟨#[47]⟩ ++ Y).extract (X.size + 1) (X ++ ⟨#[47]⟩ ++ Y).size = Y := by
  have hd : List.drop (X.size + 1) (X.data.toList ++ [47] ++ Y.data.toList) = Y.data.toList := List.drop_left' (by simp)
  have hsz : (X ++ ⟨#[47]⟩ ++ Y).size = X.size + 1 + Y.size := by
    rw [ByteArray.size_append, ByteArray.size_append]
    rfl
  apply bytes_ext
  rw [data_extract, data_append, data_append, show (⟨#[47]⟩ : ByteArray).data.toList = [47] from rfl, hd, hsz, List.take_of_length_le (by simp)]
theorem GoodP.read {f : Int} {bs : List Nat} {n : Nat} (h : GoodP f bs n) : parseP (printP f bs (n : Int)) = (f, bs, (n : Int), 0) := by
  have hN := bitsN_le f
  obtain ⟨e1, e2⟩ := itoa_numP ⟨n, by have := h.le; omega⟩
  have hs := last_slash (printA f bs) ⟨(Lib.itoa (n : Int)).toArray⟩ (by
    intro c hc
    rw [List.all_eq_true] at e2
    have := e2 c (by simpa using hc)
    simp at this
    intro h2
    exact this (UInt8.toNat_inj.1 (by rw [h2]; rfl)))
  unfold parseP printP
  rw [hs, if_neg (by omega), Int.toNat_natCast]
  have x1 : (printA f bs ++ ⟨#[47]⟩ ++ ⟨(Lib.itoa (n : Int)).toArray⟩ : ByteArray).extract 0 (printA f bs).size = printA f bs := by
    apply bytes_ext
    rw [data_extract, data_append, data_append]
    simp
  have x2 : (printA f bs ++ ⟨#[47]⟩ ++ ⟨(Lib.itoa (n : Int)).toArray⟩ : ByteArray).extract ((printA f bs).size + 1) (printA f bs ++ ⟨#[47]⟩ ++ ⟨(Lib.itoa (n : Int)).toArray⟩ : ByteArray).size = ⟨(Lib.itoa (n : Int)).toArray⟩ := extract_tail _ _
  rw [x1, x2, h.good.parse, e1]
  show (if mayP f bs (n : Int) = true then (f, bs, (n : Int), (0 : Int)) else (0, List.replicate 16 0, 0, 1)) = _
  rw [if_pos h.may]
theorem printP_small {f : Int} {bs : List Nat} {n : Nat} (h : GoodP f bs n) : (printP f bs (n : Int)).size ≤ 2000 := by
  have z1 := printA_small f bs h.len h.lt
  have z2 := itoa_small n (Nat.le_trans h.le (bitsN_le f))
  unfold printP
  rw [ByteArray.size_append, ByteArray.size_append]
  have : (⟨#[47]⟩ : ByteArray).size = 1 := rfl
  omega
end Go.Proofs.YtpgjkeakhjnckaaDoor
/- Plain facts on the row of prefixes, and on what lies between their first and last addresses. -/
namespace Go.Proofs.YtpgjkeakhjnckaaDoor
open Go.RowKit
set_option linter.unusedVariables false
set_option maxRecDepth 20000

theorem cmpL_point : ∀ xs ys : List Nat, xs.length = ys.length → (∀ q, q < xs.length → xs.getD q 0 ≤ ys.getD q 0) → cmpL xs ys ≤ 0
  | [], ys, _, _ => by cases ys <;> simp [cmpL]
  | _ :: _, [], h, _ => by cases h
  | x :: xs, y :: ys, h, hq => by
    have h0 : x ≤ y := hq 0 (by simp)
    have ih := cmpL_point xs ys (by simpa using h) (fun q hql => hq (q + 1) (by simpa using hql))
    rw [cmpL]
    by_cases h1 : x < y
    · rw [if_pos h1]; decide
    · rw [if_neg h1, if_neg (by omega)]; exact ih
theorem byte_le (x y : Nat) (hx : x < 256) (hy : y < 256) (h : ∀ r, r < 8 → x / 2 ^ (7 - r) % 2 ≤ y / 2 ^ (7 - r) % 2) : x ≤ y := by
  have h0 : x / 128 % 2 ≤ y / 128 % 2 := h 0 (by decide)
  have h1 : x / 64 % 2 ≤ y / 64 % 2 := h 1 (by decide)
  have h2 : x / 32 % 2 ≤ y / 32 % 2 := h 2 (by decide)
  have h3 : x / 16 % 2 ≤ y / 16 % 2 := h 3 (by decide)
  have h4 : x / 8 % 2 ≤ y / 8 % 2 := h 4 (by decide)
  have h5 : x / 4 % 2 ≤ y / 4 % 2 := h 5 (by decide)
  have h6 : x / 2 % 2 ≤ y / 2 % 2 := h 6 (by decide)
  have h7 : x / 1 % 2 ≤ y / 1 % 2 := h 7 (by decide)
  simp only [Nat.div_one] at h7
  have ex := byte_bits x hx
  have ey := byte_bits y hy
  generalize x / 128 % 2 = a0 at *
  generalize x / 64 % 2 = a1 at *
  generalize x / 32 % 2 = a2 at *
  generalize x / 16 % 2 = a3 at *
  generalize x / 8 % 2 = a4 at *
  generalize x / 4 % 2 = a5 at *
  generalize x / 2 % 2 = a6 at *
  generalize x % 2 = a7 at *
  generalize y / 128 % 2 = b0 at *
  generalize y / 64 % 2 = b1 at *
  generalize y / 32 % 2 = b2 at *
  generalize y / 16 % 2 = b3 at *
  generalize y / 8 % 2 = b4 at *
  generalize y / 4 % 2 = b5 at *
  generalize y / 2 % 2 = b6 at *
  generalize y % 2 = b7 at *
  omega
theorem bit_at (l : List Nat) (q r : Nat) (hr : r < 8) : bitA l (8 * q + r) = l.getD q 0 / 2 ^ (7 - r) % 2 := by
  unfold bitA
  rw [show (8 * q + r) / 8 = q by omega, show (8 * q + r) % 8 = r by omega]
theorem cmpL_bits {xs ys : List Nat} (hx : xs.length = 16) (hy : ys.length = 16) (lx : ∀ x ∈ xs, x < 256) (ly : ∀ x ∈ ys, x < 256) (h : ∀ i, i < 128 → bitA xs i ≤ bitA ys i) : cmpL xs ys ≤ 0 := by
  refine cmpL_point xs ys (by rw [hx, hy]) (fun q hq => byte_le _ _ (getD_lt lx q) (getD_lt ly q) (fun r hr => ?_))
  have := h (8 * q + r) (by omega)
  rw [bit_at _ _ _ hr, bit_at _ _ _ hr] at this
  exact this
/-- What stands between two rows that begin alike begins so too. -/
theorem squeeze : ∀ (k : Nat) (xs ys zs : List Nat), xs.length = ys.length → ys.length = zs.length → (∀ q, q < k → xs.getD q 0 = zs.getD q 0) → cmpL xs ys ≤ 0 → cmpL ys zs ≤ 0 → k ≤ xs.length →
    (∀ q, q < k → xs.getD q 0 = ys.getD q 0) ∧ (k < xs.length → xs.getD k 0 ≤ ys.getD k 0 ∧ ys.getD k 0 ≤ zs.getD k 0)
  | 0, [], _, _, _, _, _, _, _, _ => ⟨fun q h => absurd h (by omega), fun h => absurd h (by simp)⟩
  | 0, x :: xs, [], _, h, _, _, _, _, _ => by cases h
  | 0, x :: xs, y :: ys, [], _, h, _, _, _, _ => by cases h
  | 0, x :: xs, y :: ys, z :: zs, _, _, _, a, b, _ => by
    refine ⟨fun q h => absurd h (by omega), fun _ => ?_⟩
    rw [cmpL] at a b
    refine ⟨?_, ?_⟩
    · show x ≤ y
      apply Classical.byContradiction
      intro h
      rw [if_neg (by omega), if_pos (by omega)] at a
      omega
    · show y ≤ z
      apply Classical.byContradiction
      intro h
      rw [if_neg (by omega), if_pos (by omega)] at b
      omega
  | k + 1, [], _, _, _, _, _, _, _, h => absurd h (by simp)
  | k + 1, x :: xs, [], _, h, _, _, _, _, _ => by cases h
  | k + 1, x :: xs, y :: ys, [], _, h, _, _, _, _ => by cases h
  | k + 1, x :: xs, y :: ys, z :: zs, h1, h2, hq, a, b, hk => by
    have hxz : x = z := hq 0 (by omega)
    subst hxz
    rw [cmpL] at a b
    have hxy : x = y := by
      apply Classical.byContradiction
      intro h
      by_cases h3 : x < y
      · rw [if_neg (by omega), if_pos h3] at b; omega
      · rw [if_neg h3, if_pos (by omega)] at a; omega
    subst hxy
    rw [if_neg (by omega), if_neg (by omega)] at a b
    obtain ⟨i1, i2⟩ := squeeze k xs ys zs (by simpa using h1) (by simpa using h2) (fun q hql => hq (q + 1) (by omega)) a b (by simpa using hk)
    refine ⟨fun q hql => ?_, fun hkl => i2 (by simpa using hkl)⟩
    cases q with
    | zero => rfl
    | succ q => exact i1 q (by omega)
theorem top_bits (x z : Nat) (hx : x < 256) (hz : z < 256) : ∀ r, r ≤ 8 → (∀ j, j < r → z / 2 ^ (7 - j) % 2 = x / 2 ^ (7 - j) % 2) → x / 2 ^ (8 - r) = z / 2 ^ (8 - r)
  | 0, _, _ => by
    show x / 256 = z / 256
    omega
  | r + 1, hr, h => by
    rw [half_step x r (by omega), half_step z r (by omega), top_bits x z hx hz r (by omega) (fun j hj => h j (by omega)), h r (by omega)]
theorem byte_squeeze (x y z r : Nat) (hr : r < 8) (hx : x < 256) (hz : z < 256) (h1 : ∀ j, j < r → z / 2 ^ (7 - j) % 2 = x / 2 ^ (7 - j) % 2) (ha : x ≤ y) (hb : y ≤ z) :
    ∀ j, j < r → y / 2 ^ (7 - j) % 2 = x / 2 ^ (7 - j) % 2 := by
  have key : x / 2 ^ (8 - r) = y / 2 ^ (8 - r) := by
    have k1 := top_bits x z hx hz r (by omega) h1
    have k2 : x / 2 ^ (8 - r) ≤ y / 2 ^ (8 - r) := Nat.div_le_div_right ha
    have k3 : y / 2 ^ (8 - r) ≤ z / 2 ^ (8 - r) := Nat.div_le_div_right hb
    omega
  intro j hj
  have e : 2 ^ (7 - j) = 2 ^ (8 - r) * 2 ^ (r - 1 - j) := by rw [← Nat.pow_add]; congr 1; omega
  rw [e, ← Nat.div_div_eq_div_mul, ← Nat.div_div_eq_div_mul, key]
section
variable {f g k : Int} {ps qs rs us : List Nat} {n m l : Nat}
theorem GoodP.between (h : GoodP f ps n) (hu : GoodA f us) : (cmpL ps us ≤ 0 ∧ cmpL us (withL (bitsN f) ps n 1) ≤ 0) ↔ Begins ps us n := by
  have hN := bitsN_le f
  have hle := h.le
  constructor
  · rintro ⟨a, b⟩
    have hlz := withL_len (bitsN f) ps n 1
    have hzz := withL_lt (bitsN f) ps n 1 (by decide)
    have hbz : ∀ i, i < n → bitA (withL (bitsN f) ps n 1) i = bitA ps i := fun i hi => (begins_with h.le 1 (by decide) i hi).symm
    obtain ⟨s1, s2⟩ := squeeze (n / 8) ps us (withL (bitsN f) ps n 1) (by rw [h.len, hu.len]) (by rw [hu.len, hlz]) (fun q hq => byte_ext _ _ (getD_lt h.lt q) (getD_lt hzz q) (fun r hr => by
      rw [← bit_at _ _ _ hr, ← bit_at _ _ _ hr]; exact (hbz _ (by omega)).symm)) a b (by rw [h.len]; omega)
    intro i hi
    by_cases hq : i / 8 < n / 8
    · unfold bitA
      rw [s1 _ hq]
    · have e : i = 8 * (n / 8) + i % 8 := by omega
      obtain ⟨t1, t2⟩ := s2 (by rw [h.len]; omega)
      have := byte_squeeze _ _ _ (n % 8) (by omega) (getD_lt h.lt _) (getD_lt hzz _) (fun j hj => by
        rw [← bit_at _ _ _ (by omega), ← bit_at _ _ _ (by omega)]; exact hbz _ (by omega)) t1 t2 (i % 8) (by omega)
      rw [e, bit_at _ _ _ (by omega), bit_at _ _ _ (by omega), this]
  · intro hb
    refine ⟨cmpL_bits h.len hu.len h.lt hu.lt (fun i hi => ?_), cmpL_bits hu.len (withL_len _ _ _ _) hu.lt (withL_lt _ _ _ _ (by decide)) (fun i hi => ?_)⟩
    · by_cases h1 : i < n
      · rw [hb i h1]; exact Nat.le_refl _
      · rw [h.zero i hi (by omega)]; exact Nat.zero_le _
    · rw [bitA_with _ _ _ _ _ (by decide) hi]
      unfold withF
      by_cases h1 : i < bitsN f
      · rw [if_pos h1]
        by_cases h2 : n ≤ i
        · rw [if_pos h2]; exact bitA_le us i
        · rw [if_neg h2, hb i (by omega)]; exact Nat.le_refl _
      · rw [if_neg h1, hu.zero i hi (by omega)]; exact Nat.le_refl _
theorem sgn3_neg (x y : Int) : sgn3 y x = - sgn3 x y := by
  unfold sgn3
  by_cases h1 : x < y
  · rw [if_pos h1, if_neg (by omega), if_pos h1]; rfl
  · by_cases h2 : y < x
    · rw [if_pos h2, if_neg h1, if_pos h2]
    · rw [if_neg h1, if_neg h2, if_neg h2, if_neg h1]; rfl
theorem sgn3_zero (x y : Int) : sgn3 x y = 0 ↔ x = y := by
  unfold sgn3
  split
  · constructor <;> intro h <;> omega
  · split
    · constructor <;> intro h <;> omega
    · constructor <;> intro h <;> omega
theorem sgn3_range (x y : Int) : (sgn3 x y = -1 ∧ x < y) ∨ (sgn3 x y = 0 ∧ x = y) ∨ (sgn3 x y = 1 ∧ y < x) := by
  unfold sgn3
  split
  · exact .inl ⟨rfl, by omega⟩
  · split
    · exact .inr (.inr ⟨rfl, by omega⟩)
    · exact .inr (.inl ⟨rfl, by omega⟩)
theorem cmpP_range (f : Int) (ps : List Nat) (n : Int) (g : Int) (qs : List Nat) (m : Int) : cmpP f ps n g qs m = -1 ∨ cmpP f ps n g qs m = 0 ∨ cmpP f ps n g qs m = 1 := by
  unfold cmpP
  have h1 := cmpA_range f ps g qs
  have h2 := sgn3_range n m
  split <;> omega
theorem cmpP_neg (f : Int) (ps : List Nat) (n : Int) (g : Int) (qs : List Nat) (m : Int) : cmpP g qs m f ps n = - cmpP f ps n g qs m := by
  unfold cmpP
  rw [cmpA_neg f ps g qs]
  by_cases h : cmpA f ps g qs = 0
  · rw [if_pos (by omega), if_pos h]; exact sgn3_neg n m
  · rw [if_neg (by omega), if_neg h]
theorem cmpP_zero (f : Int) (ps : List Nat) (n : Int) (g : Int) (qs : List Nat) (m : Int) (hp : ps.length = 16) (hq : qs.length = 16) : cmpP f ps n g qs m = 0 ↔ (f = g ∧ ps = qs ∧ n = m) := by
  unfold cmpP
  have h1 := cmpA_zero f ps g qs hp hq
  by_cases h : cmpA f ps g qs = 0
  · rw [if_pos h, sgn3_zero]
    have := h1.1 h
    exact ⟨fun e => ⟨this.1, this.2, e⟩, fun e => e.2.2⟩
  · rw [if_neg h]
    exact ⟨fun e => absurd e h, fun e => absurd (h1.2 ⟨e.1, e.2.1⟩) h⟩
theorem cmpP_trans (f : Int) (ps : List Nat) (n : Int) (g : Int) (qs : List Nat) (m : Int) (k : Int) (rs : List Nat) (l : Int) (hp : ps.length = 16) (hq : qs.length = 16) (hr : rs.length = 16) (a : cmpP f ps n g qs m ≤ 0) (b : cmpP g qs m k rs l ≤ 0) : cmpP f ps n k rs l ≤ 0 := by
  unfold cmpP at *
  have t := cmpA_trans f ps g qs k rs hp hq hr
  have t2 := cmpA_trans k rs f ps g qs hr hp hq
  have t3 := cmpA_trans g qs k rs f ps hq hr hp
  rw [cmpA_neg f ps k rs] at t2 t3
  rw [cmpA_neg g qs k rs] at t2
  rw [cmpA_neg f ps g qs] at t3
  have s1 := sgn3_range n m
  have s2 := sgn3_range m l
  have s3 := sgn3_range n l
  split at a <;> split at b <;> split <;> omega
theorem within_row (hp : GoodP f ps n) (hq : GoodP g qs m) (h : withinR f ps (n : Int) g qs (m : Int) = true) : 0 ≤ cmpP f ps (n : Int) g qs (m : Int) := by
  obtain ⟨a, rfl, b⟩ := (withinR_iff hp hq).1 h
  have hl : cmpL qs ps ≤ 0 := cmpL_bits hq.len hp.len hq.lt hp.lt (fun i hi => by
    by_cases h1 : i < m
    · rw [b i h1]; exact Nat.le_refl _
    · rw [hq.zero i hi (by omega)]; exact Nat.zero_le _)
  have ha : 0 ≤ cmpA g ps g qs := by
    unfold cmpA
    rw [if_pos rfl]
    have := cmpL_neg qs ps
    omega
  unfold cmpP
  split
  · have := sgn3_range (n : Int) (m : Int)
    omega
  · exact ha
end
end Go.Proofs.YtpgjkeakhjnckaaDoor
/- Plain facts on the prefixes of one address. -/
namespace Go.Proofs.YtpgjkeakhjnckaaDoor
open Go.RowKit
set_option linter.unusedVariables false
set_option maxRecDepth 20000

section
variable {f g : Int} {bs us : List Nat}
theorem GoodA.mask (h : GoodA f bs) (m : Nat) (hm : m ≤ bitsN f) : GoodP f (withL (bitsN f) bs m 0) m := by
  have := mask_is (bs := bs) (m : Int) h.pos
  rw [maskN_nat f m hm] at this
  exact this
theorem GoodA.all (h : GoodA f bs) (b : Nat) (hb : b ≤ 1) : withL (bitsN f) bs (bitsN f) b = bs :=
  bits_ext (withL_len _ _ _ _) h.len (withL_lt _ _ _ _ hb) h.lt (fun i hi => by
    rw [bitA_with _ _ _ _ _ hb hi]
    unfold withF
    by_cases h1 : i < bitsN f
    · rw [if_pos h1, if_neg (by omega)]
    · rw [if_neg h1, h.zero i hi (by omega)])
theorem GoodA.whole (h : GoodA f bs) : GoodP f bs (bitsN f) := ⟨h.pos, h.len, h.lt, Nat.le_refl _, h.zero⟩
theorem mask_has (h : GoodA f bs) (m : Nat) (hm : m ≤ bitsN f) : hasR f (withL (bitsN f) bs m 0) (m : Int) f bs = true := by
  have hN := bitsN_le f
  refine (hasR_iff (h.mask m hm) h.len).2 ⟨rfl, fun i hi => ?_⟩
  rw [bitA_with _ _ _ _ _ (by decide) (by omega), withF_at (by omega) hi]
theorem mask_within (h : GoodA f bs) (m n : Nat) (hm : m ≤ bitsN f) (hn : n ≤ bitsN f) : withinR f (withL (bitsN f) bs m 0) (m : Int) f (withL (bitsN f) bs n 0) (n : Int) = decide (n ≤ m) := by
  have hN := bitsN_le f
  rw [Bool.eq_iff_iff, withinR_iff (h.mask m hm) (h.mask n hn), decide_eq_true_iff]
  refine ⟨fun e => e.1, fun e => ⟨e, rfl, fun i hi => ?_⟩⟩
  rw [bitA_with _ _ _ _ _ (by decide) (by omega), bitA_with _ _ _ _ _ (by decide) (by omega), withF_at (by omega) hi, withF_at (by omega) (by omega)]
theorem whole_has (h : GoodA f bs) (hu : GoodA g us) : hasR f bs ((bitsN f : Nat) : Int) g us = decide (f = g ∧ bs = us) := by
  rw [Bool.eq_iff_iff, hasR_iff h.whole hu.len, decide_eq_true_iff]
  constructor
  · rintro ⟨rfl, e⟩
    exact ⟨rfl, bits_ext h.len hu.len h.lt hu.lt (fun i hi => by
      by_cases h1 : i < bitsN f
      · exact e i h1
      · rw [h.zero i hi (by omega), hu.zero i hi (by omega)])⟩
  · rintro ⟨rfl, rfl⟩
    exact ⟨rfl, fun _ _ => rfl⟩
theorem whole_last (h : GoodA f bs) : lastL bs (bitsN f) (bitsN f) = bs := by
  rw [h.whole.last, h.all 1 (by decide)]
end
end Go.Proofs.YtpgjkeakhjnckaaDoor
/- Contract of the reference's Parse of layer 5. -/
namespace Go.Proofs.YtpgjkeakhjnckaaDoor
open Go.RowKit
set_option linter.unusedVariables false
set_option maxRecDepth 20000

theorem get_bang (s : ByteArray) (k : Nat) (h : k < s.size) : s.data[k]! = s[k] := by
  rw [getElem!_pos s.data k (by simpa using h)]
  rfl
set_option maxRecDepth 100000 in
set_option maxHeartbeats 2000000 in
theorem refParseP_any (s : ByteArray) (w : World) (hs : s.size ≤ 100000) :
    Calls Tryd.prog 18 #[.string s] w fun e w' => e = .returned (prefRet (parseP s)) ∧ Below w.heap.size w w' := by
  have HLZ : Hid ((List.replicate 16 0).length = 16) := Lib.hid rfl
  have HR := Lib.hid (pref_zeroed w)
  have HB := Lib.hid ((Below.refl w.heap.size w).alloc (Nat.le_refl _) (.cells zP 26))
  obtain ⟨R, eR⟩ : ∃ R, parseP s = R := ⟨_, rfl⟩
  rw [eR]
  have HE0 := Lib.hid eR
  clear eR
  go_enter Tryd.func18, Tryd.ntmps18
  go_upto_region 1 with fail
  generalize (w.alloc (.cells zP 26)) = W at *
  go_wp2_with fail
  go_loop [4, 5] (fun t i => ∃ k : Nat, k ≤ s.size ∧ i = .int .i64 (k : Int) ∧ t = .int .i64 (Lib.lastIdx s 47 k)) (fun _ i => s.size - (intOf i).toNat)
  case atStart => exact ⟨0, Nat.zero_le _, rfl, rfl⟩
  case round =>
    obtain ⟨k, hk, rfl, rfl⟩ := hrel
    by_cases hks : k < s.size
    · have hd : decide ((k : Int) < (s.size : Int)) = true := by simp; omega
      have hg := get_bang s k hks
      have hhit := Lib.lastIdx_hit s 47 k
      have hmis := Lib.lastIdx_miss s 47 k
      rw [hg] at hhit hmis
      obtain ⟨t, et⟩ : ∃ t, Lib.lastIdx s 47 k = t := ⟨_, rfl⟩
      rw [et] at hmis ⊢
      have HH := Lib.hid hhit
      have HM := Lib.hid hmis
      have HT := Lib.hid et
      clear hhit hmis hg et
      by_cases h47 : ((s[k]'hks).toNat : Int) = 47
      · have hd2 : (((s[k]'hks).toNat : Int) == 47) = true := by rw [h47]; rfl
        have HN := Lib.hid (HH.out h47)
        clear h47
        go_wp2_with fail
        go_round
        case rel => exact ⟨k + 1, by omega, by go_num, by rw [HN.out]⟩
        case measure => simp [intOf]; omega
      · have hd2 : (((s[k]'hks).toNat : Int) == 47) = false := by simp; omega
        have HN := Lib.hid (HM.out h47)
        clear h47
        go_wp2_with fail
        go_round
        case rel => exact ⟨k + 1, by omega, by go_num, by rw [HN.out]⟩
        case measure => simp [intOf]; omega
    · obtain rfl : k = s.size := by omega
      rw [show Lib.lastIdx s 47 s.size = Lib.lastIndexByte s 47 from rfl]
      have hdl : decide ((s.size : Int) < (s.size : Int)) = false := by simp
      have HE1 := Lib.hid (show (if Lib.lastIndexByte s 47 < 0 then (0, List.replicate 16 0, 0, 2) else pairP (parseA (s.extract 0 (Lib.lastIndexByte s 47).toNat)) (numP (s.extract ((Lib.lastIndexByte s 47).toNat + 1) s.size))) = R from HE0.out)
      clear HE0
      rcases last_range s with hq | ⟨E, hq, hE⟩
      · rw [if_pos hq] at HE1
        obtain ⟨q, eq⟩ : ∃ q, Lib.lastIndexByte s 47 = q := ⟨_, rfl⟩
        rw [eq] at hq ⊢
        have hd : decide (q < 0) = true := by simp [hq]
        clear eq
        go_wp2_with (first | refine build_zero rfl rfl ?_ | refine store_pref HR _ _ HLZ rfl rfl rfl rfl (fun W HW HP => ?_))
        refine bodyPost_ret (results_pref2 Tryd.results18 rfl HP.out) rfl ⟨by rw [← HE1.out]; rfl, by rw [HW.out]; exact below_cells (Nat.le_refl _) _ _ _ HB.out⟩
      · rw [if_neg (by rw [hq]; omega), hq, Int.toNat_natCast] at HE1
        rw [hq]
        have hE1 : (E : Int) ≤ (s.size : Int) := by omega
        have hE2 : (E : Int) + 1 ≤ (s.size : Int) := by omega
        have hd : decide ((E : Int) < 0) = false := by simp
        have HA := fun W => Lib.hid (refParseA_any (s.extract 0 E) W (by simp; omega))
        have HNB := fun W => Lib.hid (refNumber_any (s.extract (E + 1) s.size) 10 W (by simp; omega) (.inr (.inl rfl)))
        have HOK := Lib.hid (parseA_ok (s.extract 0 E))
        have HNL := Lib.hid (numP_le (s.extract (E + 1) s.size))
        have HND : Hid (numP (s.extract (E + 1) s.size) = if 1 < (s.extract (E + 1) s.size).size ∧ byteOf (s.extract (E + 1) s.size) 0 = 48 then none else numB (s.extract (E + 1) s.size) 10) := Lib.hid rfl
        clear hq
        go_wp2_with fail
        refine (HA _).out.mono ?_
        rintro e w1 ⟨rfl, hb1⟩
        have HR1 := Lib.hid (HR.out.below hb1)
        have HB1 := Lib.hid (chain HB.out hb1)
        have HZ1 := Lib.hid (addr_zeroed w1)
        clear HR HB hb1 HA
        cases ho : parseA (s.extract 0 E) with
        | none =>
          rw [ho] at HE1
          have HE2 : Hid (((0 : Int), List.replicate 16 0, (0 : Int), (2 : Int)) = R) := HE1
          clear HE1 ho HOK HNL HND
          unfold addrRet
          go_upto_region 10 with (refine store_addr HZ1 _ _ HLZ rfl rfl rfl rfl (fun W1 HW1 HO1 => ?_))
          have HR2 := Lib.hid (HR1.out.below (below_newA HW1))
          have HB2 := Lib.hid (chain HB1.out (below_newA HW1))
          generalize w1.heap.size = G1 at *
          clear HR1 HB1 HZ1 HW1
          go_wp2_with fail
          refine (HNB _).out.mono ?_
          rintro e w2 ⟨rfl, rfl⟩
          unfold numRet
          go_wp2_with (first | refine build_zero rfl rfl ?_ | refine store_pref HR2 _ _ HLZ rfl rfl rfl rfl (fun W HW HP => ?_))
          refine bodyPost_ret (results_pref2 Tryd.results18 rfl HP.out) rfl ⟨by rw [← HE2.out]; rfl, by rw [HW.out]; exact below_cells (Nat.le_refl _) _ _ _ HB2.out⟩
        | some fb =>
          obtain ⟨f, bs⟩ := fb
          rw [ho] at HE1
          obtain ⟨h16, hlt⟩ := HOK.out f bs ho
          have H16 := Lib.hid h16
          have HLT := Lib.hid hlt
          clear ho HOK h16 hlt
          unfold addrRet
          go_upto_region 10 with (refine store_addr HZ1 _ _ H16 rfl rfl rfl rfl (fun W1 HW1 HO1 => ?_))
          have HR2 := Lib.hid (HR1.out.below (below_newA HW1))
          have HB2 := Lib.hid (chain HB1.out (below_newA HW1))
          generalize w1.heap.size = G1 at *
          clear HR1 HB1 HZ1 HW1
          go_upto_region 11 with fail
          obtain ⟨Y, hY⟩ : ∃ Y, s.extract (E + 1) s.size = Y := ⟨_, rfl⟩
          rw [hY] at HNB HNL HND HE1 ⊢
          have hYs : Y.size ≤ 100000 := by rw [← hY]; simp; omega
          clear hY
          go_wp2_with fail
          refine (HNB _).out.mono ?_
          rintro e w2 ⟨rfl, rfl⟩
          cases hn : numB Y 10 with
          | none =>
            have HQ : Hid (numP Y = none) := Lib.hid (by rw [HND.out, hn]; split <;> rfl)
            rw [HQ.out] at HE1
            have HE2 : Hid (((0 : Int), List.replicate 16 0, (0 : Int), (2 : Int)) = R) := HE1
            clear HE1 hn HNL HND HQ
            rw [show numRet none = .tuple #[.int .i64 ((0 : Nat) : Int), .bool false] from rfl]
            go_wp2_with (first | refine build_zero rfl rfl ?_ | refine store_pref HR2 _ _ HLZ rfl rfl rfl rfl (fun W HW HP => ?_))
            refine bodyPost_ret (results_pref2 Tryd.results18 rfl HP.out) rfl ⟨by rw [← HE2.out]; rfl, by rw [HW.out]; exact below_cells (Nat.le_refl _) _ _ _ HB2.out⟩
          | some n =>
            rw [hn] at HND
            rw [show numRet (some n) = .tuple #[.int .i64 (n : Int), .bool true] from rfl]
            clear hn
            by_cases hc : 1 < Y.size ∧ byteOf Y 0 = 48
            · rw [if_pos hc] at HND
              rw [HND.out] at HE1
              have HE2 : Hid (((0 : Int), List.replicate 16 0, (0 : Int), (2 : Int)) = R) := HE1
              have hsz : 0 < Y.size := by omega
              have hd3 : decide (1 < (Y.size : Int)) = true := by simp; omega
              have hd3n : decide (1 < Y.size) = true := by simp; omega
              have hd4 : (((Y[0]'hsz).toNat : Int) == 48) = true := by rw [← byteOf_eq Y 0 hsz, hc.2]; rfl
              clear HE1 HNL HND hc
              go_wp2_with (first | refine build_zero rfl rfl ?_ | refine store_pref HR2 _ _ HLZ rfl rfl rfl rfl (fun W HW HP => ?_))
              refine bodyPost_ret (results_pref2 Tryd.results18 rfl HP.out) rfl ⟨by rw [← HE2.out]; rfl, by rw [HW.out]; exact below_cells (Nat.le_refl _) _ _ _ HB2.out⟩
            · rw [if_neg hc] at HND
              rw [HND.out] at HE1
              have hnl := HNL.out n HND.out
              have HM := fun W => Lib.hid (refMayQ_any f bs (n : Int) W H16.out HLT.out)
              rw [mayQ_eq f (n : Int) H16.out HLT.out] at HM
              have HE2 : Hid ((if mayP f bs (n : Int) = true then (f, bs, (n : Int), 0) else (0, List.replicate 16 0, 0, 1)) = R) := HE1
              clear HE1 HNL hnl HND
              generalize mayP f bs (n : Int) = b at *
              have HZ3 := Lib.hid (pref_zeroed W1)
              by_cases h1 : 1 < Y.size
              · have hsz : 0 < Y.size := by omega
                have hd3 : decide (1 < (Y.size : Int)) = true := by simp; omega
                have hd3n : decide (1 < Y.size) = true := by simp; omega
                have h48 : byteOf Y 0 ≠ 48 := fun h => hc ⟨h1, h⟩
                have hd4 : (((Y[0]'hsz).toNat : Int) == 48) = false := by rw [← byteOf_eq Y 0 hsz]; simp; omega
                clear hc h48
                go_upto_region 15 with (first | refine load_addr_g HO1 _ rfl rfl rfl ?_ | refine build_pref H16 rfl _ _ rfl rfl rfl ?_ | refine store_pref HZ3 _ _ H16 rfl rfl rfl rfl (fun W3 HW3 HP3 => ?_))
                have HR4 := Lib.hid (HR2.out.below (below_newP HW3))
                have HB4 := Lib.hid (chain HB2.out (below_newP HW3))
                generalize W1.heap.size = G3 at *
                clear HR2 HB2 HZ3 HW3 HO1
                go_wp2_with (refine load_pref_g HP3 _ rfl rfl rfl ?_)
                refine (HM _).out.mono ?_
                rintro e w5 ⟨rfl, hb5⟩
                have HR5 := Lib.hid (HR4.out.below hb5)
                have HP5 := Lib.hid (HP3.out.below hb5)
                have HB5 := Lib.hid (chain HB4.out hb5)
                clear HR4 HP3 HB4 hb5 HM
                cases b with
                | true =>
                  rw [if_pos rfl] at HE2
                  go_wp2_with (first | refine load_pref_g HP5 _ rfl rfl rfl ?_ | refine store_pref HR5 _ _ H16 rfl rfl rfl rfl (fun W HW HP => ?_))
                  refine bodyPost_ret (results_pref2 Tryd.results18 rfl HP.out) rfl ⟨by rw [← HE2.out]; rfl, by rw [HW.out]; exact below_cells (Nat.le_refl _) _ _ _ HB5.out⟩
                | false =>
                  rw [if_neg (by decide)] at HE2
                  go_wp2_with (first | refine build_zero rfl rfl ?_ | refine store_pref HR5 _ _ HLZ rfl rfl rfl rfl (fun W HW HP => ?_))
                  refine bodyPost_ret (results_pref2 Tryd.results18 rfl HP.out) rfl ⟨by rw [← HE2.out]; rfl, by rw [HW.out]; exact below_cells (Nat.le_refl _) _ _ _ HB5.out⟩
              · have hd3 : decide (1 < (Y.size : Int)) = false := by simp; omega
                have hd3n : decide (1 < Y.size) = false := by simp; omega
                clear hc
                go_upto_region 15 with (first | refine load_addr_g HO1 _ rfl rfl rfl ?_ | refine build_pref H16 rfl _ _ rfl rfl rfl ?_ | refine store_pref HZ3 _ _ H16 rfl rfl rfl rfl (fun W3 HW3 HP3 => ?_))
                have HR4 := Lib.hid (HR2.out.below (below_newP HW3))
                have HB4 := Lib.hid (chain HB2.out (below_newP HW3))
                generalize W1.heap.size = G3 at *
                clear HR2 HB2 HZ3 HW3 HO1
                go_wp2_with (refine load_pref_g HP3 _ rfl rfl rfl ?_)
                refine (HM _).out.mono ?_
                rintro e w5 ⟨rfl, hb5⟩
                have HR5 := Lib.hid (HR4.out.below hb5)
                have HP5 := Lib.hid (HP3.out.below hb5)
                have HB5 := Lib.hid (chain HB4.out hb5)
                clear HR4 HP3 HB4 hb5 HM
                cases b with
                | true =>
                  rw [if_pos rfl] at HE2
                  go_wp2_with (first | refine load_pref_g HP5 _ rfl rfl rfl ?_ | refine store_pref HR5 _ _ H16 rfl rfl rfl rfl (fun W HW HP => ?_))
                  refine bodyPost_ret (results_pref2 Tryd.results18 rfl HP.out) rfl ⟨by rw [← HE2.out]; rfl, by rw [HW.out]; exact below_cells (Nat.le_refl _) _ _ _ HB5.out⟩
                | false =>
                  rw [if_neg (by decide)] at HE2
                  go_wp2_with (first | refine build_zero rfl rfl ?_ | refine store_pref HR5 _ _ HLZ rfl rfl rfl rfl (fun W HW HP => ?_))
                  refine bodyPost_ret (results_pref2 Tryd.results18 rfl HP.out) rfl ⟨by rw [← HE2.out]; rfl, by rw [HW.out]; exact below_cells (Nat.le_refl _) _ _ _ HB5.out⟩
end Go.Proofs.YtpgjkeakhjnckaaDoor
/- Contract of the reference's Has of layer 5. -/
namespace Go.Proofs.YtpgjkeakhjnckaaDoor
open Go.RowKit
set_option linter.unusedVariables false
set_option maxRecDepth 20000

set_option maxRecDepth 100000 in
set_option maxHeartbeats 1000000 in
theorem refHas_any (f : Int) (ps : List Nat) (n : Nat) (g : Int) (us : List Nat) (w : World) (hp : ps.length = 16) (hu : us.length = 16) (lp : ∀ x ∈ ps, x < 256) (lu : ∀ x ∈ us, x < 256) (hn : n ≤ 1000) :
    Calls Tryd.prog 25 #[prefV f ps (n : Int), addrV g us] w fun e w' => e = .returned (.bool (hasB f ps n g us)) ∧ Below w.heap.size w w' := by
  have HP := Lib.hid hp
  have HU := Lib.hid hu
  obtain ⟨R, eR⟩ : ∃ R, hasB f ps n g us = R := ⟨_, rfl⟩
  rw [eR]
  have HE : Hid (decide (f = g ∧ ∀ i : Nat, i < n → bitN f ps (i : Int) = bitN g us (i : Int)) = R) := Lib.hid (by rw [← eR]; rfl)
  have HC1 := fun W (k : Nat) (hk : k ≤ 1000) => Lib.hid (refBit_any f ps (k : Int) W hp lp (wf_small (by omega)))
  have HC2 := fun W (k : Nat) (hk : k ≤ 1000) => Lib.hid (refBit_any g us (k : Int) W hu lu (wf_small (by omega)))
  obtain ⟨cs, ds, ecs, eds, H1, H2, HB⟩ := pref_addr_boxed f ps (n : Int) g us w hp hu
  rw [ecs, eds]
  clear ecs eds hp hu eR lp lu
  go_enter Tryd.func25, Tryd.ntmps25
  go_upto_region 1 with fail
  generalize ((w.alloc (.cells cs 26)).alloc (.cells ds 24)) = W at *
  have f1 := H1.out.addr.fam
  have f2 := H2.out.fam
  by_cases hfg : f = g
  · subst hfg
    have hd : (f != f) = false := by simp
    obtain ⟨L, hL⟩ : ∃ L, [(w.heap.size, 0, prefL f ps (n : Int)), (w.heap.size, 0, addrL f ps), (w.heap.size + 1, 0, addrL f us)] = L := ⟨_, rfl⟩
    have HK := Lib.hid (show HeldR L w W by rw [← hL]; exact ((HeldR.nil HB.out).addr H2.out).pref H1.out)
    have Mp := Lib.hid (show InP L w.heap.size f ps (n : Int) from ⟨by rw [← hL]; simp, HP.out⟩)
    have Ma := Lib.hid (show InA L w.heap.size f ps from ⟨by rw [← hL]; simp, HP.out⟩)
    have Mt3 := Lib.hid (show InA L (w.heap.size + 1) f us from ⟨by rw [← hL]; simp, HU.out⟩)
    have Cn := Lib.hid (bitsR Mp.out w)
    clear hL H1 H2 HB
    go_wp2_with fail
    go_loopw [5] (fun i wr => ∃ k : Nat, k ≤ n ∧ i = .int .i64 (k : Int) ∧ Hid (HeldR L w wr) ∧ Hid (∀ i : Nat, i < k → bitN f ps (i : Int) = bitN f us (i : Int))) (fun i _ => n - (intOf i).toNat)
    case atStart => exact ⟨0, by omega, rfl, HK, Lib.hid (fun i hi => absurd hi (by omega))⟩
    case round =>
      obtain ⟨k, hk, rfl, HS, HT⟩ := hrel
      clear HK f1 f2
      have hb17 := Cn.out wr HS.out
      by_cases hkn : k < n
      · have hd2 : decide ((k : Int) < (n : Int)) = true := by simp; omega
        have C1 : ∀ w', HeldR L w w' → Hid (Calls Tryd.prog 38 #[addrV f ps, .int .i64 (k : Int)] w' fun e w'' => e = .returned (.int .i64 ((bitN f ps (k : Int) : Nat) : Int)) ∧ Below w'.heap.size w' w'') := fun w' h => HC1 w' k (by omega)
        have C2 : ∀ w', HeldR L w w' → Hid (Calls Tryd.prog 38 #[addrV f us, .int .i64 (k : Int)] w' fun e w'' => e = .returned (.int .i64 ((bitN f us (k : Int) : Nat) : Int)) ∧ Below w'.heap.size w' w'') := fun w' h => HC2 w' k (by omega)
        have HXY : Hid (bitN f ps (k : Int) = bitN f ps (k : Int) ∧ bitN f us (k : Int) = bitN f us (k : Int)) := Lib.hid ⟨rfl, rfl⟩
        obtain ⟨x, hx⟩ : ∃ x, bitN f ps (k : Int) = x := ⟨_, rfl⟩
        obtain ⟨y, hy⟩ : ∃ y, bitN f us (k : Int) = y := ⟨_, rfl⟩
        rw [hx] at C1
        rw [hy] at C2
        have HX := Lib.hid hx
        have HY := Lib.hid hy
        clear hx hy HXY
        go_upto_region 6 with fail
        by_cases hxy : x = y
        · subst hxy
          have hd3 : ((x : Int) != (x : Int)) = false := by simp
          refine wp_region_noPanic ?_
          refine wp_region_held_drew (S := HeldR L w) (by kernel_rfl) HS.out.drew (fun hHeld => ?_)
          refine wpAnyH_take (i := 0) (v := ?_) rfl (by kernel_rfl) (by kernel_rfl) (by kernel_rfl) (fun _ _ _ h => h) (Or.inl ⟨by rfl, ?_⟩) (by assumption) ?_
          rotate_left
          · (intro w hSw; go_simp; try (with_reducible rfl))
          try simp only [Act.put, List.getElem_toArray, List.getElem_cons_zero, List.setIfInBounds_toArray, List.set_cons_zero, List.set_cons_succ]
          refine wpAnyH_take (i := 1) rfl (by kernel_rfl) (by kernel_rfl) (by kernel_rfl) (fun _ _ _ h => h) (yields_addr Ma (by rfl) _ rfl rfl) (by assumption) ?_
          try simp only [Act.put, List.getElem_toArray, List.getElem_cons_zero, List.getElem_cons_succ, List.setIfInBounds_toArray, List.set_cons_zero, List.set_cons_succ]
          refine wpAnyH_take (i := 2) (v := ?_) rfl (by kernel_rfl) (by kernel_rfl) (by kernel_rfl) (fun _ _ _ h => h) (Or.inl ⟨by rfl, ?_⟩) (by assumption) ?_
          rotate_left
          · (intro w hSw; go_simp; try (with_reducible rfl))
          try simp only [Act.put, List.getElem_toArray, List.getElem_cons_zero, List.getElem_cons_succ, List.setIfInBounds_toArray, List.set_cons_zero, List.set_cons_succ]
          refine wpAnyH_take (i := 4) rfl (by kernel_rfl) (by kernel_rfl) (by kernel_rfl) (fun _ _ _ h => h) (yields_addr Mt3 (by rfl) _ rfl rfl) (by assumption) ?_
          try simp only [Act.put, List.getElem_toArray, List.getElem_cons_zero, List.getElem_cons_succ, List.setIfInBounds_toArray, List.set_cons_zero, List.set_cons_succ]
          refine wpAnyH_take (i := 5) (v := ?_) rfl (by kernel_rfl) (by kernel_rfl) (by kernel_rfl) (fun _ _ _ h => h) (Or.inl ⟨by rfl, ?_⟩) (by assumption) ?_
          rotate_left
          · (intro w hSw; go_simp; try (with_reducible rfl))
          try simp only [Act.put, List.getElem_toArray, List.getElem_cons_zero, List.getElem_cons_succ, List.setIfInBounds_toArray, List.set_cons_zero, List.set_cons_succ]
          refine wpAnyH_ready (rs := [3]) (by kernel_rfl) (by simp) ?_
          refine AllReadyH.cons rfl (fun K hK => ?_) AllReadyH.nil
          go_simp
          refine (Calls.heldR (C1 _ (by assumption)).out (by assumption)).mono ?_
          rintro e wr3 ⟨rfl, hS3⟩
          go_wp2_with fail
          refine hK.out _ _ hS3 (fun hHeld => ?_)
          clear hK K
          try simp only [Act.put, List.getElem_toArray, List.getElem_cons_zero, List.getElem_cons_succ, List.setIfInBounds_toArray, List.set_cons_zero, List.set_cons_succ]
          refine wpAnyH_ready (rs := [6]) (by kernel_rfl) (by simp) ?_
          refine AllReadyH.cons rfl (fun K hK => ?_) AllReadyH.nil
          go_simp
          refine (Calls.heldR (C2 _ (by assumption)).out (by assumption)).mono ?_
          rintro e wr6 ⟨rfl, hS6⟩
          go_wp2_with fail
          refine hK.out _ _ hS6 (fun hHeld => ?_)
          clear hK K
          try simp only [Act.put, List.getElem_toArray, List.getElem_cons_zero, List.getElem_cons_succ, List.setIfInBounds_toArray, List.set_cons_zero, List.set_cons_succ]
          refine wpAnyH_take (i := 7) (v := ?_) rfl (by kernel_rfl) (by kernel_rfl) (by kernel_rfl) (fun _ _ _ h => h) (Or.inl ⟨by rfl, ?_⟩) (by assumption) ?_
          rotate_left
          · (intro w hSw; go_simp; try (with_reducible rfl))
          try simp only [Act.put, List.getElem_toArray, List.getElem_cons_zero, List.getElem_cons_succ, List.setIfInBounds_toArray, List.set_cons_zero, List.set_cons_succ]
          refine wpAnyH_done (by kernel_rfl) ?_ _
          refine NoPanic.normal ?_
          go_wp2_with fail
          go_roundw
          case rel => exact ⟨k + 1, by omega, by go_num, Lib.hid hHeld, Lib.hid (fun i hi => by
            by_cases e : i = k
            · subst e; rw [HX.out, HY.out]
            · exact HT.out i (by omega))⟩
          case measure => simp [intOf]; omega
        · have hd3 : ((x : Int) != (y : Int)) = true := by simp; omega
          have HE2 : Hid (false = R) := Lib.hid (by rw [← HE.out]; exact (decide_eq_false (fun h => hxy (by rw [← HX.out, ← HY.out]; exact h.2 k hkn))).symm)
          refine wp_region_noPanic ?_
          refine wp_region_held_drew (S := HeldR L w) (by kernel_rfl) HS.out.drew (fun hHeld => ?_)
          refine wpAnyH_take (i := 0) (v := ?_) rfl (by kernel_rfl) (by kernel_rfl) (by kernel_rfl) (fun _ _ _ h => h) (Or.inl ⟨by rfl, ?_⟩) (by assumption) ?_
          rotate_left
          · (intro w hSw; go_simp; try (with_reducible rfl))
          try simp only [Act.put, List.getElem_toArray, List.getElem_cons_zero, List.setIfInBounds_toArray, List.set_cons_zero, List.set_cons_succ]
          refine wpAnyH_take (i := 1) rfl (by kernel_rfl) (by kernel_rfl) (by kernel_rfl) (fun _ _ _ h => h) (yields_addr Ma (by rfl) _ rfl rfl) (by assumption) ?_
          try simp only [Act.put, List.getElem_toArray, List.getElem_cons_zero, List.getElem_cons_succ, List.setIfInBounds_toArray, List.set_cons_zero, List.set_cons_succ]
          refine wpAnyH_take (i := 2) (v := ?_) rfl (by kernel_rfl) (by kernel_rfl) (by kernel_rfl) (fun _ _ _ h => h) (Or.inl ⟨by rfl, ?_⟩) (by assumption) ?_
          rotate_left
          · (intro w hSw; go_simp; try (with_reducible rfl))
          try simp only [Act.put, List.getElem_toArray, List.getElem_cons_zero, List.getElem_cons_succ, List.setIfInBounds_toArray, List.set_cons_zero, List.set_cons_succ]
          refine wpAnyH_take (i := 4) rfl (by kernel_rfl) (by kernel_rfl) (by kernel_rfl) (fun _ _ _ h => h) (yields_addr Mt3 (by rfl) _ rfl rfl) (by assumption) ?_
          try simp only [Act.put, List.getElem_toArray, List.getElem_cons_zero, List.getElem_cons_succ, List.setIfInBounds_toArray, List.set_cons_zero, List.set_cons_succ]
          refine wpAnyH_take (i := 5) (v := ?_) rfl (by kernel_rfl) (by kernel_rfl) (by kernel_rfl) (fun _ _ _ h => h) (Or.inl ⟨by rfl, ?_⟩) (by assumption) ?_
          rotate_left
          · (intro w hSw; go_simp; try (with_reducible rfl))
          try simp only [Act.put, List.getElem_toArray, List.getElem_cons_zero, List.getElem_cons_succ, List.setIfInBounds_toArray, List.set_cons_zero, List.set_cons_succ]
          refine wpAnyH_ready (rs := [3]) (by kernel_rfl) (by simp) ?_
          refine AllReadyH.cons rfl (fun K hK => ?_) AllReadyH.nil
          go_simp
          refine (Calls.heldR (C1 _ (by assumption)).out (by assumption)).mono ?_
          rintro e wr3 ⟨rfl, hS3⟩
          go_wp2_with fail
          refine hK.out _ _ hS3 (fun hHeld => ?_)
          clear hK K
          try simp only [Act.put, List.getElem_toArray, List.getElem_cons_zero, List.getElem_cons_succ, List.setIfInBounds_toArray, List.set_cons_zero, List.set_cons_succ]
          refine wpAnyH_ready (rs := [6]) (by kernel_rfl) (by simp) ?_
          refine AllReadyH.cons rfl (fun K hK => ?_) AllReadyH.nil
          go_simp
          refine (Calls.heldR (C2 _ (by assumption)).out (by assumption)).mono ?_
          rintro e wr6 ⟨rfl, hS6⟩
          go_wp2_with fail
          refine hK.out _ _ hS6 (fun hHeld => ?_)
          clear hK K
          try simp only [Act.put, List.getElem_toArray, List.getElem_cons_zero, List.getElem_cons_succ, List.setIfInBounds_toArray, List.set_cons_zero, List.set_cons_succ]
          refine wpAnyH_take (i := 7) (v := ?_) rfl (by kernel_rfl) (by kernel_rfl) (by kernel_rfl) (fun _ _ _ h => h) (Or.inl ⟨by rfl, ?_⟩) (by assumption) ?_
          rotate_left
          · (intro w hSw; go_simp; try (with_reducible rfl))
          try simp only [Act.put, List.getElem_toArray, List.getElem_cons_zero, List.getElem_cons_succ, List.setIfInBounds_toArray, List.set_cons_zero, List.set_cons_succ]
          refine wpAnyH_done (by kernel_rfl) ?_ _
          refine NoPanic.normal ?_
          go_wp2_with fail
          go_ret
          exact ⟨by rw [← HE2.out]; rfl, hHeld.bel⟩
      · obtain rfl : k = n := by omega
        have hd2 : decide ((k : Int) < (k : Int)) = false := by simp
        have HE2 : Hid (true = R) := Lib.hid (by rw [← HE.out]; exact (decide_eq_true ⟨by trivial, HT.out⟩).symm)
        go_wp2_with fail
        go_ret
        exact ⟨by rw [← HE2.out]; rfl, HS.out.bel⟩
  · have hd : (f != g) = true := by simp [hfg]
    have HE2 : Hid (false = R) := Lib.hid (by rw [← HE.out]; exact (decide_eq_false (fun h => hfg h.1)).symm)
    go_wp2_with fail
    go_ret
    exact ⟨by rw [← HE2.out]; rfl, HB.out⟩
end Go.Proofs.YtpgjkeakhjnckaaDoor
/- Contract of cidr.Last. -/
namespace Go.Proofs.YtpgjkeakhjnckaaDoor
open Go.RowKit
set_option linter.unusedVariables false
set_option maxRecDepth 20000

set_option maxRecDepth 100000 in
set_option maxHeartbeats 1000000 in
theorem cidrLast_any (f : Int) (bs : List Nat) (n : Nat) (w : World) (h16 : bs.length = 16) (hlt : ∀ x ∈ bs, x < 256) :
    Calls Tryd.prog 22 #[prefV f bs (n : Int)] w fun e w' => e = .returned (addrV f (lastL bs n (bitsN f))) ∧ Below w.heap.size w w' := by
  have H16 := Lib.hid h16
  have HN := bitsN_le f
  have HBI := fun W => Lib.hid (addrBits_any f bs W h16)
  have HL0 := Lib.hid (lastL_zero n h16 hlt)
  obtain ⟨cs, ecs, HA, HB⟩ := pref_boxed f bs (n : Int) w h16
  have HR := addr_zeroed (w.alloc (.cells cs 26))
  rw [heap_alloc] at HR
  have HRH := Lib.hid HR
  have HA1 := Lib.hid (HA.out.alloc (.cells zA 24))
  have HB1 := Lib.hid (HB.out.alloc HB.out.size (.cells zA 24))
  rw [ecs]
  generalize bitsN f = N at *
  clear ecs h16 hlt HA HB HR
  go_enter Tryd.func22, Tryd.ntmps22
  go_upto_region 1 with fail
  generalize ((w.alloc (.cells cs 26)).alloc (.cells zA 24)) = W at *
  have HZ1 := Lib.hid (addr_zeroed W)
  have HA1a := Lib.hid HA1.out.addr
  have GW := Lib.hid HRH.out.lt
  go_upto_region 2 with (first | refine load_addr_g HA1a _ rfl rfl rfl ?_ | refine store_addr HZ1 _ _ H16 rfl rfl rfl rfl (fun W1 HW1 HO1 => ?_))
  have HA2 := Lib.hid (HA1.out.below (below_newA HW1))
  have HR2 := Lib.hid (HRH.out.below (below_newA HW1))
  have HB2 := Lib.hid (chain HB1.out (below_newA HW1))
  generalize W.heap.size = G1 at *
  clear HA1 HB1 HRH HZ1 HW1 HA1a
  go_wp2_with (refine load_addr_g HO1 _ rfl rfl rfl ?_)
  refine (HBI _).out.mono ?_
  rintro e w1 ⟨rfl, hb1⟩
  have HA3 := Lib.hid (HA2.out.below hb1)
  have HR3 := Lib.hid (HR2.out.below hb1)
  have HB3 := Lib.hid (chain HB2.out hb1)
  have HP3 : Hid (AddrAt w1 G1 f (lastL bs n 0)) := Lib.hid (by rw [HL0.out]; exact HO1.out.below hb1)
  clear HA2 HR2 HB2 HO1 hb1 HBI
  go_wp2_with fail
  go_loopw [9] (fun i wr => ∃ k : Nat, k ≤ N ∧ i = .int .i64 (k : Int) ∧ Hid (PrefAt wr w.heap.size f bs (n : Int)) ∧ Hid (AddrAt wr (w.heap.size + 1) 0 (List.replicate 16 0)) ∧ Hid (AddrAt wr G1 f (lastL bs n k)) ∧ Hid (Below w.heap.size w wr)) (fun i _ => 128 - (intOf i).toNat)
  case atStart => exact ⟨0, by omega, rfl, HA3, HR3, HP3, HB3⟩
  case round =>
    obtain ⟨k, hk, rfl, HA4, HR4, HP4, HB4⟩ := hrel
    clear HA3 HR3 HP3 HB3
    have hb17 := HA4.out.bits
    by_cases hkN : k < N
    · have hd : decide ((k : Int) < (N : Int)) = true := by simp; omega
      by_cases hnk : n ≤ k
      · have hd2 : decide ((n : Int) ≤ (k : Int)) = true := by simp; omega
        have HWB := fun W => Lib.hid (withBit_any f (lastL bs n k) k W (lastL_len _ _ _) (lastL_lt _ _ _) (by omega))
        rw [last_one bs n k (by omega) hnk] at HWB
        have HLW : Hid ((lastL bs n (k + 1)).length = 16) := Lib.hid (lastL_len _ _ _)
        go_wp2_with (refine load_addr_g HP4 _ rfl rfl rfl ?_)
        refine (HWB _).out.mono ?_
        rintro e w2 ⟨rfl, hb2⟩
        have HA5 := Lib.hid (HA4.out.below hb2)
        have HR5 := Lib.hid (HR4.out.below hb2)
        have HP5 := Lib.hid (HP4.out.below hb2)
        have HB5 := Lib.hid (chain HB4.out hb2)
        clear HA4 HR4 HP4 HB4 hb2 hb17
        go_wp2_with (refine store_addr HP5 _ _ HLW rfl rfl rfl rfl (fun W2 HW2 HP6 => ?_))
        have HG := GW.out
        go_roundw
        case rel => exact ⟨k + 1, by omega, by go_num, Lib.hid (by rw [HW2.out]; exact HA5.out.apart (by omega) _), Lib.hid (by rw [HW2.out]; exact HR5.out.apart (by omega) _), HP6, Lib.hid (by rw [HW2.out]; exact below_cells (by omega) _ _ _ HB5.out)⟩
        case measure => simp [intOf]; omega
      · have hd2 : decide ((n : Int) ≤ (k : Int)) = false := by simp; omega
        rw [last_none bs n k hnk] at HP4
        go_wp2_with fail
        go_roundw
        case rel => exact ⟨k + 1, by omega, by go_num, HA4, HR4, HP4, HB4⟩
        case measure => simp [intOf]; omega
    · obtain rfl : k = N := by omega
      have hd : decide ((k : Int) < (k : Int)) = false := by simp
      have HLW : Hid ((lastL bs n k).length = 16) := Lib.hid (lastL_len _ _ _)
      go_wp2_with (first | refine load_addr_g HP4 _ rfl rfl rfl ?_ | (refine store_addr HR4 _ _ HLW rfl rfl rfl rfl (fun W HW HA => ?_)))
      refine bodyPost_ret (v := addrV f (lastL bs n k)) (results_addr Tryd.results22 rfl HA.out) rfl ⟨rfl, by rw [HW.out]; exact below_cells (by omega) _ _ _ HB4.out⟩
end Go.Proofs.YtpgjkeakhjnckaaDoor
/- Contracts of cidr.Compare, of the reference's Compare of layer 5, and of cidr.First. -/
namespace Go.Proofs.YtpgjkeakhjnckaaDoor
open Go.RowKit
set_option linter.unusedVariables false
set_option maxRecDepth 20000

set_option maxRecDepth 100000 in
set_option maxHeartbeats 1000000 in
theorem cidrCompare_any (f : Int) (ps : List Nat) (n : Int) (g : Int) (qs : List Nat) (m : Int) (w : World) (hp : ps.length = 16) (hq : qs.length = 16) (lp : ∀ x ∈ ps, x < 256) (lq : ∀ x ∈ qs, x < 256) :
    Calls Tryd.prog 28 #[prefV f ps n, prefV g qs m] w fun e w' => e = .returned (.int .i64 (cmpP f ps n g qs m)) ∧ Below w.heap.size w w' := by
  have HH := fun W => Lib.hid (addrCompare_any f ps g qs W hp hq lp lq)
  have HI := fun W => Lib.hid (cmpInt_any n m W)
  obtain ⟨R, eR⟩ : ∃ R, cmpP f ps n g qs m = R := ⟨_, rfl⟩
  rw [eR]
  have HE : Hid ((if cmpA f ps g qs = 0 then sgn3 n m else cmpA f ps g qs) = R) := Lib.hid (by rw [← eR]; rfl)
  generalize cmpA f ps g qs = c at *
  generalize sgn3 n m = d at *
  obtain ⟨cs, ds, ecs, eds, H1, H2, HB⟩ := prefs_boxed f ps n g qs m w hp hq
  rw [ecs, eds]
  clear ecs eds hp hq lp lq eR
  go_enter Tryd.func28, Tryd.ntmps28
  go_upto_region 1 with fail
  generalize ((w.alloc (.cells cs 26)).alloc (.cells ds 26)) = W at *
  have H1a := Lib.hid H1.out.addr
  have H2a := Lib.hid H2.out.addr
  go_wp2_with (first | refine load_addr_g H1a _ rfl rfl rfl ?_ | refine load_addr_g H2a _ rfl rfl rfl ?_)
  refine (HH _).out.mono ?_
  rintro e w1 ⟨rfl, hb1⟩
  have b1 := (H1.out.below hb1).bits
  have b2 := (H2.out.below hb1).bits
  have HB1 := Lib.hid (chain HB.out hb1)
  clear H1 H2 HB hb1 H1a H2a
  by_cases h : c = 0
  · subst h
    rw [if_pos rfl] at HE
    go_wp2_with fail
    refine (HI _).out.mono ?_
    rintro e w2 ⟨rfl, rfl⟩
    go_wp2_with fail
    go_ret
    exact ⟨by rw [HE.out]; rfl, HB1.out⟩
  · rw [if_neg h] at HE
    have hd : (c != 0) = true := by simp [h]
    go_wp2_with fail
    go_ret
    exact ⟨by rw [HE.out]; rfl, HB1.out⟩
set_option maxRecDepth 100000 in
set_option maxHeartbeats 1000000 in
theorem refCompareP_any (f : Int) (ps : List Nat) (n : Int) (g : Int) (qs : List Nat) (m : Int) (w : World) (hp : ps.length = 16) (hq : qs.length = 16) :
    Calls Tryd.prog 29 #[prefV f ps n, prefV g qs m] w fun e w' => e = .returned (.int .i64 (cmpP f ps n g qs m)) ∧ Below w.heap.size w w' := by
  have HH := fun W => Lib.hid (refCompare_any f ps g qs W hp hq)
  obtain ⟨R, eR⟩ : ∃ R, cmpP f ps n g qs m = R := ⟨_, rfl⟩
  rw [eR]
  have HE : Hid ((if cmpA f ps g qs = 0 then sgn3 n m else cmpA f ps g qs) = R) := Lib.hid (by rw [← eR]; rfl)
  have HS : Hid (sgn3 n m = if n < m then -1 else if m < n then 1 else 0) := Lib.hid (by unfold sgn3; rfl)
  generalize cmpA f ps g qs = c at *
  generalize sgn3 n m = d at *
  obtain ⟨cs, ds, ecs, eds, H1, H2, HB⟩ := prefs_boxed f ps n g qs m w hp hq
  rw [ecs, eds]
  clear ecs eds hp hq eR
  go_enter Tryd.func29, Tryd.ntmps29
  go_upto_region 1 with fail
  generalize ((w.alloc (.cells cs 26)).alloc (.cells ds 26)) = W at *
  have H1a := Lib.hid H1.out.addr
  have H2a := Lib.hid H2.out.addr
  go_wp2_with (first | refine load_addr_g H1a _ rfl rfl rfl ?_ | refine load_addr_g H2a _ rfl rfl rfl ?_)
  refine (HH _).out.mono ?_
  rintro e w1 ⟨rfl, hb1⟩
  have b1 := (H1.out.below hb1).bits
  have b2 := (H2.out.below hb1).bits
  have HB1 := Lib.hid (chain HB.out hb1)
  clear H1 H2 HB hb1 H1a H2a
  by_cases h : c = 0
  · subst h
    rw [if_pos rfl] at HE
    by_cases h1 : n < m
    · rw [if_pos h1] at HS
      have hd : decide (n < m) = true := by simp [h1]
      go_wp2_with fail
      go_ret
      exact ⟨by rw [← HE.out, HS.out]; rfl, HB1.out⟩
    · rw [if_neg h1] at HS
      have hd : decide (n < m) = false := by simp; omega
      by_cases h2 : m < n
      · rw [if_pos h2] at HS
        have hd2 : decide (m < n) = true := by simp [h2]
        go_wp2_with fail
        go_ret
        exact ⟨by rw [← HE.out, HS.out]; rfl, HB1.out⟩
      · rw [if_neg h2] at HS
        have hd2 : decide (m < n) = false := by simp; omega
        go_wp2_with fail
        go_ret
        exact ⟨by rw [← HE.out, HS.out]; rfl, HB1.out⟩
  · rw [if_neg h] at HE
    have hd : (c != 0) = true := by simp [h]
    go_wp2_with fail
    go_ret
    exact ⟨by rw [HE.out]; rfl, HB1.out⟩
set_option maxRecDepth 100000 in
set_option maxHeartbeats 1000000 in
theorem cidrFirst_any (f : Int) (ps : List Nat) (n : Int) (w : World) (hp : ps.length = 16) :
    Calls Tryd.prog 21 #[prefV f ps n] w fun e w' => e = .returned (addrV f ps) ∧ Below w.heap.size w w' := by
  have HP := Lib.hid hp
  obtain ⟨cs, ecs, HA, HB⟩ := pref_boxed f ps n w hp
  have HR := addr_zeroed (w.alloc (.cells cs 26))
  rw [heap_alloc] at HR
  have HRH := Lib.hid HR
  have HA1 := Lib.hid (HA.out.alloc (.cells zA 24))
  have HB1 := Lib.hid (HB.out.alloc HB.out.size (.cells zA 24))
  rw [ecs]
  clear ecs hp HA HB HR
  go_enter Tryd.func21, Tryd.ntmps21
  go_upto_region 1 with fail
  generalize ((w.alloc (.cells cs 26)).alloc (.cells zA 24)) = W at *
  have H1a := Lib.hid HA1.out.addr
  go_wp2_with (first | refine load_addr_g H1a _ rfl rfl rfl ?_ | (refine store_addr HRH _ _ HP rfl rfl rfl rfl (fun W HW HA => ?_)))
  refine bodyPost_ret (v := addrV f ps) (results_addr Tryd.results21 rfl HA.out) rfl ⟨rfl, by rw [HW.out]; exact below_cells (by omega) _ _ _ HB1.out⟩
end Go.Proofs.YtpgjkeakhjnckaaDoor
/- Prefixes and addresses that a walk holds, loaded in a plain region. -/
namespace Go.Proofs.YtpgjkeakhjnckaaDoor
open Go.RowKit
set_option linter.unusedVariables false
set_option maxRecDepth 20000

theorem load_pref_h {ops : Array Oper} {rest : List Oper} {op : Oper} {a : Act} {w W : World} {Q : Exit → Act → World → Prop} {L : List (Nat × Nat × List Value)} {G : Nat} {f : Int} {bs : List Nat} {n : Int} (hS : Hid (HeldR L W w)) (hm : Hid (InP L G f bs n)) (x : Operand) (hw : Region.wanted op (yielded ops a.tmps) = true) (ho : op.op = .load 26 x)
    (hx : a.eval x = .pointer (some ⟨G, 0, none⟩)) (h : wpList Tryd.prog ops Q rest (a.put op.dst (prefV f bs n)) w) : wpList Tryd.prog ops Q (op :: rest) a w :=
  wpList_load_row hw 26 x ho G 0 hx (prefL f bs n) _ (hS.out.get hm.out.1) Tryd.underlying26 rfl (by rw [pref_size, prefL_len f bs n hm.out.2]) h
theorem load_addr_h {ops : Array Oper} {rest : List Oper} {op : Oper} {a : Act} {w W : World} {Q : Exit → Act → World → Prop} {L : List (Nat × Nat × List Value)} {G : Nat} {f : Int} {bs : List Nat} (hS : Hid (HeldR L W w)) (hm : Hid (InA L G f bs)) (x : Operand) (hw : Region.wanted op (yielded ops a.tmps) = true) (ho : op.op = .load 24 x)
    (hx : a.eval x = .pointer (some ⟨G, 0, none⟩)) (h : wpList Tryd.prog ops Q rest (a.put op.dst (addrV f bs)) w) : wpList Tryd.prog ops Q (op :: rest) a w :=
  wpList_load_row hw 24 x ho G 0 hx (addrL f bs) _ (hS.out.get hm.out.1) Tryd.underlying24 rfl (by rw [addr_size, addrL_len f bs hm.out.2]) h
end Go.Proofs.YtpgjkeakhjnckaaDoor
/- A prefix (api.Prefix) that came in, opened: its address's family, the list of its bytes, its bits. -/
namespace Go.Proofs.YtpgjkeakhjnckaaDoor
open Go.ChangeShapes Go.WideShapes Go.ChangeAt Go.RowKit
set_option linter.unusedVariables false
set_option maxRecDepth 20000

theorem addr_of_trod {H : Type} {enc : TypeId × Value → H} {W : World} {spare : Nat → Bool} {fuel : Nat} {l : List Value} {x : DataW H × List MemPlace} (hl : l.length = 17)
    (hf : DataW.trod enc Tryd.prog W 0 spare true fuel 24 l = some x) : ∃ (f : Int) (bs : List Nat), l = addrL f bs ∧ (Lit.int .i64 f).wf = true ∧ bs.length = 16 ∧ ∀ x ∈ bs, x < 256 := by
  have hs := Tryd.underlying24
  obtain ⟨y0, y1, n, _, _, h0, h1⟩ := trod_struct2 hs hf
  obtain ⟨f, h2, _, h3⟩ := DataW.trod_int Tryd.underlying3 h0
  obtain ⟨zs, h4, h5, h6⟩ := ints_of_trod Tryd.underlying22 Tryd.underlying5 (by kernel_rfl) (by kernel_rfl) h1
  have hc1 : Tryd.prog.cellsOf 3 = 1 := by kernel_rfl
  have hc16 : Tryd.prog.cellsOf 22 = 16 := by kernel_rfl
  refine ⟨f, zs.map Int.toNat, ?_, h3, by simpa using h5, ?_⟩
  · unfold addrL
    have e1 : l = (l.drop 0).take 1 ++ (l.drop 1).take 16 := by
      have : (l.drop 1).take 16 = l.drop 1 := List.take_of_length_le (by simp; omega)
      rw [this, List.drop_zero, List.take_append_drop]
    rw [e1]
    have e2 : (l.drop 0).take 1 = [Value.int .i64 f] := by rw [← h2, hc1]
    have e3 : (l.drop 1).take 16 = zs.map (Value.int .u8) := by rw [← h4, hc16]
    rw [e2, e3, List.map_map]
    show Value.int .i64 f :: zs.map (Value.int .u8) = Value.int .i64 f :: _
    congr 1
    apply List.map_congr_left
    intro z hz
    have := bounds_u8 (h6 z hz)
    show Value.int .u8 z = Value.int .u8 ((z.toNat : Nat) : Int)
    congr 1
    omega
  · intro x hx
    obtain ⟨z, hz, rfl⟩ := List.mem_map.1 hx
    have := bounds_u8 (h6 z hz)
    omega
theorem open_pref {H : Type} {enc : TypeId × Value → H} {W : World} {base : Nat} {spare : Nat → Bool} {v : Value} {d : DataW H} {ps : List MemPlace}
    (hok : Value.okWide Tryd.prog W .any base 26 v) (h : DataW.Trod enc Tryd.prog W 0 spare true 26 v d ps) :
    ∃ (f : Int) (bs : List Nat) (n : Int), v = prefV f bs n ∧ (Lit.int .i64 f).wf = true ∧ bs.length = 16 ∧ (∀ x ∈ bs, x < 256) ∧ (Lit.int .i64 n).wf = true := by
  have hs := Tryd.underlying26
  obtain ⟨cs, rfl, hsz, _⟩ : ∃ cs, v = .agg cs ∧ cs.size = Tryd.prog.cellsOf 26 ∧ Row.okWide Tryd.prog W .any base 26 cs := by
    simpa [Value.okWide, hs] using hok
  rw [show Tryd.prog.cellsOf 26 = 18 by kernel_rfl] at hsz
  obtain ⟨fuel, hf⟩ := h
  obtain ⟨y0, y1, k, _, _, h0, h1⟩ := trod_struct2 hs hf
  have e0 : (Value.cells (.agg cs)).toList = cs.toList := rfl
  rw [e0] at h0 h1
  have hc1 : Tryd.prog.cellsOf 3 = 1 := by kernel_rfl
  have hc17 : Tryd.prog.cellsOf 24 = 17 := by kernel_rfl
  rw [hc17] at h0
  rw [hc1] at h1
  obtain ⟨f, bs, e1, w1, l1, b1⟩ := addr_of_trod (by simp; omega) h0
  obtain ⟨n, h2, _, h3⟩ := DataW.trod_int Tryd.underlying3 h1
  refine ⟨f, bs, n, ?_, w1, l1, b1, h3⟩
  unfold prefV prefL
  congr 1
  apply Array.ext'
  have e2 : cs.toList = (cs.toList.drop 0).take 17 ++ (cs.toList.drop 17).take 1 := by
    have : (cs.toList.drop 17).take 1 = cs.toList.drop 17 := List.take_of_length_le (by simp; omega)
    rw [this, List.drop_zero, List.take_append_drop]
  rw [e2, e1, h2]
end Go.Proofs.YtpgjkeakhjnckaaDoor
/- What a tied card over strconv's three tables gives a walk: the table of powers of ten, in whatever later world. -/
namespace Go.Proofs.YtpgjkeakhjnckaaDoor
open Go.ChangeShapes Go.WideShapes Go.ChangeAt Go.RowKit
set_option linter.unusedVariables false
set_option maxRecDepth 20000

theorem gPow : Tryd.prog.globalNamed "internal/strconv.uint64pow10" = some 1 := by kernel_rfl
theorem tPow : (Tryd.prog.globals[1]?).map (·.type) = some 117 := by kernel_rfl
theorem dPow : (Rows.laid_internal_strconv_uint64pow10 : DataW Unit) = Lib.tabData .u64 Lib.pow10Tab := by kernel_rfl
theorem of_laid {W : World} (L) (hL : L = [("math/bits.deBruijn32tab", Rows.laid_math_bits_deBruijn32tab), ("math/bits.deBruijn64tab", Rows.laid_math_bits_deBruijn64tab), ("internal/strconv.uint64pow10", Rows.laid_internal_strconv_uint64pow10)]) (h : laidMetH Tryd.prog L W) :
    ∀ w', Below W.heap.size W w' → Lib.TabIs Tryd.prog w' "internal/strconv.uint64pow10" .u64 Lib.pow10Tab := by
  subst hL
  rw [MakeChecks.laidMetH_plain _ _ _ (by kernel_rfl)] at h
  obtain ⟨ps, ⟨g0, t0, cs0, f0, p0, q0, hg0, ht0, hv0, hd0, ⟨g1, t1, cs1, f1, p1, q1, hg1, ht1, hv1, hd1, ⟨g2, t2, cs2, f2, p2, q2, hg2, ht2, hv2, hd2, _, _⟩, _⟩, _⟩, _, _⟩ := h
  obtain rfl := Option.some.inj (gPow.symm.trans hg2)
  obtain rfl := Option.some.inj (tPow.symm.trans ht2)
  rw [dPow] at hd2
  have hcs := Lib.cells_of_tab Tryd.underlying117 Tryd.underlying108 (by kernel_rfl) (by kernel_rfl) hd2
  have htab : Lib.TabIs Tryd.prog W "internal/strconv.uint64pow10" .u64 Lib.pow10Tab := by
    unfold Lib.TabIs
    rw [hv2, ← hcs]
  intro w' hb
  have hc := htab.cell gPow 0 (by rw [Lib.pow10Tab_length]; decide)
  have hlt : 1 < W.heap.size := by
    rcases Nat.lt_or_ge 1 W.heap.size with h | h
    · exact h
    · simp [World.cell?, Array.getElem?_eq_none h] at hc
  exact var?_below hb gPow hlt htab
end Go.Proofs.YtpgjkeakhjnckaaDoor

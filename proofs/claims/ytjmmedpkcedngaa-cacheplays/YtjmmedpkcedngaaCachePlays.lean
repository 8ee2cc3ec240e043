/- CachePlays (P10.1, P10.2): whatever is put, asked and swept, the answers, and all keys, are the document's. -/
import Derived.Test.YtjmmedpkcedngaaB6
import Derived.Test.YtjmmedpkcedngaaRows
import Derived.ProofKit
import Derived.OpenShut
import Derived.ShutString
import Derived.ChangeOld
import Derived.Below
namespace Go.Proofs.Ytjmmedpkcedngaa.cachePlays
open Go.ChangeShapes Go.WideShapes Go.ChangeAt Go.RowKit
open Go.ChangeMaps (open_string shut_string)
set_option linter.unusedVariables false
set_option maxRecDepth 20000

theorem own : ownKnob Try.prog.godebug = none := by kernel_rfl

theorem keys_tw {ps : List Cp} (h : ∀ p ∈ ps, Tw p) (j : Nat) (hj : j < ps.length) (h1 : j < ((lE ps).map keyC).length) (h2 : j < (lF ps).length) : ((lE ps).map keyC)[j] = keyC (lF ps)[j] := by
  have e1 : ((lE ps).map keyC)[j]'h1 = keyC ((lE ps)[j]'(by rw [lE_len]; exact hj)) := List.getElem_map ..
  have e2 : (lE ps)[j]'(by rw [lE_len]; exact hj) = ps[j].1 := List.getElem_map ..
  have e3 : (lF ps)[j]'h2 = ps[j].2 := List.getElem_map ..
  rw [e1, e2, e3]
  exact key_tw (h _ (List.getElem_mem hj))
theorem twoApart {w : World} {P B : Nat} (h : Two w P) (hne : P ≠ B) (vs : List Value) : Two (w.setCells B 0 vs) P := by
  obtain ⟨cur, t, e, hc⟩ := h
  exact ⟨cur, t, (heap_setCs _ _ _ _ _ hne).trans e, hc⟩
set_option maxRecDepth 100000 in
theorem deed_size : (Try.prog.info? 32).map (·.size) = some 6 := by kernel_rfl
set_option maxRecDepth 100000 in
set_option maxHeartbeats 8000000 in
theorem walk (rm : Int) (a : Option Addr) (len cap : Nat) (D : List Deed10) (w : World) (hrm : (Lit.int .i64 rm).wf = true) (hI : DeedsAt10 w a len cap D) :
    Calls Try.prog 3 #[.int .i64 rm, .slice a len cap] w fun e w' => e = .returned (.bool true) ∧ Below w.heap.size w w' := by
  have HNW := Lib.hid (new_any rm w)
  have HRN := fun W => Lib.hid (refNewC_any rm W)
  have hroom : roomC rm = min (max rm 1) 64 := rfl
  obtain ⟨room, hr⟩ : ∃ room, min (max rm 1) 64 = room := ⟨_, rfl⟩
  rw [hroom, hr] at HRN
  rw [hr] at HNW
  obtain ⟨hlc, hcm, hDl, hOk, hRr⟩ := hI
  unfold maxLen at hcm
  have HT : Hid (∀ k (hk : k < len), ∃ (d : Deed10) (g o : Nat), a = some ⟨g, o, none⟩ ∧ g < w.heap.size ∧ w.rangeAt g (o + k * 6) d.L ∧ d.Ok w) := Lib.hid (fun k hk => by
    rcases hRr with h | ⟨g, o, e, hr, hg⟩
    · omega
    · have hkD : k < D.length := by omega
      exact ⟨D[k], g, o, e, hg, range_at hr (S := 6) (fun d hd => rfl) k hkD, hOk _ (List.getElem_mem hkD)⟩)
  have HLV := fun W => Lib.hid (lives10_any W)
  clear hr hrm hroom hOk hRr hDl
  go_enter Try.func3, Try.ntmps3
  go_wp2_with fail
  refine HNW.out.mono ?_
  rintro e w1 ⟨G, b, rfl, hc1, hG, hb, hb1⟩
  have HC1 := Lib.hid hc1
  have HB1 := Lib.hid hb1
  have HGB : Hid (w.heap.size ≤ b) := Lib.hid hb
  clear HNW hc1 hb1 hG hb
  go_wp2_with fail
  refine (HRN _).out.mono ?_
  rintro e w2 ⟨rfl, hb2⟩
  have HC2 := Lib.hid (HC1.out.below hb2)
  have HB2 := Lib.hid (chain HB1.out hb2)
  clear HRN hb2 HC1 HB1
  have HZ3 : Hid (CellsAt (w2.alloc (.cells zCc.toArray 27)) w2.heap.size zCc) := Lib.hid (CellsAt.new w2 27 zCc)
  have HT3 := Lib.hid (Two.new w2 27)
  have hba : Below w2.heap.size w2 (w2.alloc (.cells zCc.toArray 27)) := (Below.refl _ _).alloc (Nat.le_refl _) _
  have HC3 := Lib.hid (HC2.out.below hba)
  have HB3 := Lib.hid (chain HB2.out hba)
  have HNE : Hid (w2.heap.size ≠ b ∧ G ≠ w2.heap.size) := Lib.hid ⟨by have := HC2.out.lt.2; omega, by have := HC2.out.lt.1; omega⟩
  have HPW : Hid (w.heap.size ≤ w2.heap.size) := Lib.hid HB2.out.size
  clear hba
  unfold ccV
  go_upto_region 5 with (first | (refine store_cc HZ3 rfl _ _ rfl rfl rfl rfl rfl rfl (fun W4 HW4 HP4 => ?_)))
  have HC4 : Hid (St W4 G b room (.slice none 0 0) []) := Lib.hid (by rw [HW4.out]; exact ⟨HC3.out.setsAt HNE.out.1.symm HNE.out.2, RowC.nil _ _, (fun p hp => by cases hp), (fun p hp => by cases hp)⟩)
  have HB4 : Hid (Below w.heap.size w W4) := Lib.hid (by rw [HW4.out]; exact below_cells HPW.out _ _ _ HB3.out)
  have HT4 : Hid (Two W4 w2.heap.size) := Lib.hid (by rw [HW4.out]; exact HT3.out.sets _ _)
  generalize w2.heap.size = P6 at *
  clear HW4 HC2 HB2 HC3 HB3 HZ3 HT3
  go_wp2_with fail
  go_loopw [7, 8, 9, 10, 11, 12] (fun s7 i s9 s10 s11 s12 wr => ∃ (k : Nat) (ps : List Cp) (v : Value) (nw : Nat), k ≤ len ∧ k ≤ 50 ∧ i = .int .i64 (k : Int) ∧ s7 = .int .i64 (nw : Int) ∧ nw ≤ k * 200 ∧ Hid (St wr G b room v ps) ∧ Hid (CellsAt wr P6 [.int .i64 room, v]) ∧ Hid (Two wr P6) ∧ Hid (Below w.heap.size w wr)) (fun _ i _ _ _ _ _ => 50 - (intOf i).toNat)
  case atStart => exact ⟨0, [], .slice none 0 0, 0, Nat.zero_le _, Nat.zero_le _, rfl, rfl, Nat.zero_le _, HC4, HP4, HT4, HB4⟩
  case round =>
    clear HC4 HP4 HB4 HT4
    obtain ⟨k, ps, v, nw, hk, hk50, rfl, rfl, hnw, HST, HP, HT2, HB⟩ := hrel
    by_cases hkn : k < len ∧ k < 50
    · obtain ⟨hkl, hk5⟩ := hkn
      have hd : decide ((k : Int) < (len : Int)) = true := decide_eq_true (by omega)
      have hdn : decide (k < len) = true := decide_eq_true hkl
      have hd5 : decide ((k : Int) < 50) = true := decide_eq_true (by omega)
      have hd5n : decide (k < 50) = true := decide_eq_true hk5
      obtain ⟨d, g0, o0, rfl, hg0, hrg, hok⟩ := HT.out k hkl
      obtain ⟨kd, ty, ttl, wt, nm, da, dn, dcap⟩ := d
      obtain ⟨_, hty, _, hwt, hnm, D0, hD0, hA0⟩ := hok
      have hrgw : wr.rangeAt g0 (o0 + k * 6) [.int .i64 kd, .int .i64 ty, .int .i64 ttl, .int .i64 wt, .string nm, .slice da dn dcap] := range_belowC hrg HB.out hg0
      have hcell : wr.cell? ⟨g0, o0 + k * 6 + 3, none⟩ = some (.int .i64 wt) := hrgw 3 _ rfl
      have HAR := fun W => Lib.hid (around_any wt 200 W hwt (by decide) (by decide))
      have hal := aroundN_lt wt 200 (by decide)
      have hb1 : (0 : Int) ≤ (k : Int) := by omega
      have hb2 : (k : Int) < (len : Int) := by omega
      generalize aroundN wt 200 = y at *
      obtain ⟨q, hq⟩ : ∃ q : Nat, nw + y = q := ⟨_, rfl⟩
      have hw : IntKind.i64.wrap ((nw : Int) + (y : Int)) = (q : Int) := by rw [IntKind.wrap_i64]; omega
      have HDO := Lib.hid (fun W (hst : St W G b room v ps) (hb : Below w.heap.size w W) => does_any G b room v ps kd ty ttl wt (q : Int) nm da dn dcap D0 W hst hty hnm hD0 (hA0.below hb) (by omega) (by omega))
      obtain ⟨vad, vc, rfl⟩ := HST.out.row.slice
      generalize (lF ps).length = vn at *
      go_wp2_with fail
      refine (HAR _).out.mono ?_
      rintro e w4 ⟨rfl, rfl⟩
      clear HAR hcell
      have hbd : Below wr.heap.size wr wr.drew := (Below.refl _ _).drew
      have HSTd := Lib.hid (HST.out.below hbd)
      have HBd := Lib.hid (chain HB.out hbd)
      have HPd := Lib.hid (HP.out.below hbd)
      have HTd := Lib.hid (HT2.out.below hbd)
      have HGW : Hid (g0 ≠ b ∧ g0 < wr.heap.size) := Lib.hid (by have h1 := HGB.out; have h2 := HB.out.size; omega)
      obtain ⟨S, hS⟩ : ∃ S : World → Prop, (fun W => CellsAt W P6 [.int .i64 room, .slice vad vn vc] ∧ g0 < W.heap.size ∧ W.rangeAt g0 (o0 + k * 6) [.int .i64 kd, .int .i64 ty, .int .i64 ttl, .int .i64 wt, .string nm, .slice da dn dcap]) = S := ⟨_, rfl⟩
      have HS0 : Hid (S wr.drew) := Lib.hid (by rw [← hS]; exact ⟨HPd.out, HGW.out.2, range_belowC hrgw hbd HGW.out.2⟩)
      have HSB : Hid (∀ W W', S W → Below W.heap.size W W' → S W') := Lib.hid (fun W W' h hb => by rw [← hS] at h ⊢; exact ⟨h.1.below hb, Nat.lt_of_lt_of_le h.2.1 hb.size, range_belowC h.2.2 hb h.2.1⟩)
      have HSG : Hid (∀ W W', S W → W.grownBy W' (some b) → S W') := Lib.hid (fun W W' h hg => by rw [← hS] at h ⊢; exact ⟨h.1.grown hg HNE.out.1, Nat.lt_of_lt_of_le h.2.1 hg.size, range_farC h.2.2 hg h.2.1 (fun e => HGW.out.1 (by injection e))⟩)
      have HSS : Hid (∀ W B vs, S W → B ≠ P6 → B ≠ g0 → S (W.setCells B 0 vs)) := Lib.hid (fun W B vs h h1 h2 => by rw [← hS] at h ⊢; exact ⟨h.1.apart h1.symm _, by rw [size_setCells]; exact h.2.1, World.rangeAt_setCells_apart h.2.2 _ _ _ (.inl h2.symm)⟩)
      have M1 : Hid (∀ W, S W → W.rangeAt P6 0 [.int .i64 room, .slice vad vn vc]) := Lib.hid (fun W h => by rw [← hS] at h; exact h.1.range)
      have M5 : Hid (∀ W, S W → W.rangeAt g0 (o0 + k * 6) [.int .i64 kd, .int .i64 ty, .int .i64 ttl, .int .i64 wt, .string nm, .slice da dn dcap]) := Lib.hid (fun W h => by rw [← hS] at h; exact h.2.2)
      clear hS hbd HST HB HP HT2 hrg hrgw
      go_upto_region 10 with fail
      refine wp_region_noPanic ?_
      refine wp_region_held_drew (S := S) (by kernel_rfl) HS0.out (fun hHeld => ?_)
      refine wpAnyH_take (i := 0) (v := ?_) rfl (by kernel_rfl) (by kernel_rfl) (by kernel_rfl) (fun _ _ _ h => h) (Or.inl ⟨by rfl, ?_⟩) (by assumption) ?_
      rotate_left
      · (intro w hSw; go_simp; try (with_reducible rfl))
      try simp only [Act.put, List.getElem_toArray, List.getElem_cons_zero, List.setIfInBounds_toArray, List.set_cons_zero, List.set_cons_succ]
      refine wpAnyH_take (i := 1) rfl (by kernel_rfl) (by kernel_rfl) (by kernel_rfl) (fun _ _ _ h => h) (yields_ccS M1 rfl (by rfl) _ rfl rfl) (by assumption) ?_
      try simp only [Act.put, List.getElem_toArray, List.getElem_cons_zero, List.getElem_cons_succ, List.setIfInBounds_toArray, List.set_cons_zero, List.set_cons_succ]
      refine wpAnyH_take (i := 2) (v := ?_) rfl (by kernel_rfl) (by kernel_rfl) (by kernel_rfl) (fun _ _ _ h => h) (Or.inl ⟨by rfl, ?_⟩) (by assumption) ?_
      rotate_left
      · (intro w hSw; go_simp; try (with_reducible rfl))
      try simp only [Act.put, List.getElem_toArray, List.getElem_cons_zero, List.getElem_cons_succ, List.setIfInBounds_toArray, List.set_cons_zero, List.set_cons_succ]
      refine wpAnyH_take (i := 3) (v := ?_) rfl (by kernel_rfl) (by kernel_rfl) (by kernel_rfl) (fun _ _ _ h => h) (Or.inl ⟨by rfl, ?_⟩) (by assumption) ?_
      rotate_left
      · (intro w hSw; go_simp; try (with_reducible rfl))
      try simp only [Act.put, List.getElem_toArray, List.getElem_cons_zero, List.getElem_cons_succ, List.setIfInBounds_toArray, List.set_cons_zero, List.set_cons_succ]
      refine wpAnyH_take (i := 4) (v := ?_) rfl (by kernel_rfl) (by kernel_rfl) (by kernel_rfl) (fun _ _ _ h => h) (Or.inl ⟨by rfl, ?_⟩) (by assumption) ?_
      rotate_left
      · (intro w hSw; go_simp; try (with_reducible rfl))
      try simp only [Act.put, List.getElem_toArray, List.getElem_cons_zero, List.getElem_cons_succ, List.setIfInBounds_toArray, List.set_cons_zero, List.set_cons_succ]
      refine wpAnyH_take (i := 5) rfl (by kernel_rfl) (by kernel_rfl) (by kernel_rfl) (fun _ _ _ h => h) (yieldsIf_load_mid (by rfl) 32 _ rfl g0 (o0+k*6) rfl [.int .i64 kd,.int .i64 ty,.int .i64 ttl,.int .i64 wt,.string nm,.slice da dn dcap] _ M5.out Try.underlying32 rfl (by rw [deed_size]; rfl)) (by assumption) ?_
      try simp only [Act.put, List.getElem_toArray, List.getElem_cons_zero, List.getElem_cons_succ, List.setIfInBounds_toArray, List.set_cons_zero, List.set_cons_succ]
      refine wpAnyH_take (i := 6) (v := ?_) rfl (by kernel_rfl) (by kernel_rfl) (by kernel_rfl) (fun _ _ _ h => h) (Or.inl ⟨by rfl, ?_⟩) (by assumption) ?_
      rotate_left
      · (intro w hSw; go_simp; try (with_reducible rfl))
      try simp only [Act.put, List.getElem_toArray, List.getElem_cons_zero, List.getElem_cons_succ, List.setIfInBounds_toArray, List.set_cons_zero, List.set_cons_succ]
      refine wpAnyH_ready (rs := [7, 11]) (by kernel_rfl) (by simp) ?_
      refine AllReadyH.cons rfl (fun K hK => ?_) (AllReadyH.cons rfl (fun K hK => ?_) AllReadyH.nil)
      · go_simp
        refine (HDO.out _ HSTd.out HBd.out).mono ?_
        rintro e w5 ⟨ad, m, c, ps', rfl, hst5, hg5⟩
        have HST4' := Lib.hid hst5
        have HB5' := Lib.hid (Below.cacheOp HBd.out hg5 HGB.out HBd.out.size)
        have HSZ5 : Hid (wr.heap.size ≤ w5.heap.size) := Lib.hid hg5.size
        have HP5' := Lib.hid (HPd.out.grown hg5 HNE.out.1)
        have HT5' := Lib.hid (HTd.out.grown hg5 HNE.out.1)
        have hS5 := HSG.out _ _ hHeld hg5
        go_wp2_with fail
        refine hK.out _ _ hS5 (fun hHeld => ?_)
        clear hK K hst5 hg5 hS5 HDO HSTd HBd HPd HTd
        try simp only [Act.put, List.getElem_toArray, List.getElem_cons_zero, List.getElem_cons_succ, List.setIfInBounds_toArray, List.set_cons_zero, List.set_cons_succ]
        refine wpAnyH_take (i := 8) (v := ?_) rfl (by kernel_rfl) (by kernel_rfl) (by kernel_rfl) (fun _ _ _ h => h) (Or.inl ⟨by rfl, ?_⟩) (by assumption) ?_
        rotate_left
        · (intro w hSw; go_simp; try (with_reducible rfl))
        try simp only [Act.put, List.getElem_toArray, List.getElem_cons_zero, List.getElem_cons_succ, List.setIfInBounds_toArray, List.set_cons_zero, List.set_cons_succ]
        refine wpAnyH_take (i := 9) (v := ?_) rfl (by kernel_rfl) (by kernel_rfl) (by kernel_rfl) (fun _ _ _ h => h) (Or.inl ⟨by rfl, ?_⟩) (by assumption) ?_
        rotate_left
        · (intro w hSw; go_simp; try (with_reducible rfl))
        try simp only [Act.put, List.getElem_toArray, List.getElem_cons_zero, List.getElem_cons_succ, List.setIfInBounds_toArray, List.set_cons_zero, List.set_cons_succ]
        refine wpAnyH_take (i := 10) (v := ?_) rfl (by kernel_rfl) (by kernel_rfl) (by kernel_rfl) (fun _ _ _ h => h) (Or.inl ⟨by rfl, ?_⟩) (by assumption) ?_
        rotate_left
        · (intro w hSw; go_simp; try (with_reducible rfl))
        try simp only [Act.put, List.getElem_toArray, List.getElem_cons_zero, List.getElem_cons_succ, List.setIfInBounds_toArray, List.set_cons_zero, List.set_cons_succ]
        refine wpAnyH_ready (rs := [11]) (by kernel_rfl) (by simp) ?_
        refine AllReadyH.cons rfl (fun K hK => ?_) AllReadyH.nil
        go_simp
        go_wp2_with fail
        have HZ := Lib.hid (CellsAt.new w5 27 zCc)
        have hba : Below w5.heap.size w5 (w5.alloc (.cells zCc.toArray 27)) := (Below.refl _ _).alloc (Nat.le_refl _) _
        have HS6 := Lib.hid (HSB.out _ _ hHeld hba)
        refine hK.out _ _ HS6.out (fun hHeld => ?_)
        clear hK K
        try simp only [Act.put, List.getElem_toArray, List.getElem_cons_zero, List.getElem_cons_succ, List.setIfInBounds_toArray, List.set_cons_zero, List.set_cons_succ]
        refine wpAnyH_ready (rs := [12]) (by kernel_rfl) (by simp) ?_
        refine AllReadyH.one rfl rfl (fun K hK => ?_)
        refine wp_store_cc HZ rfl _ _ rfl rfl (vs := [.int .i64 room, .slice ad m c]) rfl rfl rfl (fun V HV HX4 => ?_)
        have hbv : Below w5.heap.size w5 V := by rw [HV.out]; exact below_cells (Nat.le_refl _) _ _ _ hba
        have hSV : S V := by rw [HV.out]; exact HSS.out _ _ _ hHeld (by have := HP5'.out.lt; omega) (by have h1 := HGW.out.2; have h2 := HSZ5.out; omega)
        refine hK.out _ _ hSV (fun hHeld => ?_)
        clear hK K
        try simp only [Act.put]
        have HST4 := Lib.hid (HST4'.out.below hbv)
        have HP4 := Lib.hid (HP5'.out.below hbv)
        have HT4 := Lib.hid (HT5'.out.below hbv)
        have HB4 := Lib.hid (chain HB5'.out hbv)
        clear hbv HST4' HP5' HT5' HB5' HV hSV HS6 hba HZ HSZ5
        refine wpAnyH_take (i := 13) (v := ?_) rfl (by kernel_rfl) (by kernel_rfl) (by kernel_rfl) (fun _ _ _ h => h) (Or.inl ⟨by rfl, ?_⟩) (by assumption) ?_
        rotate_left
        · (intro w hSw; go_simp; try (with_reducible rfl))
        try simp only [Act.put, List.getElem_toArray, List.getElem_cons_zero, List.getElem_cons_succ, List.setIfInBounds_toArray, List.set_cons_zero, List.set_cons_succ]
        refine wpAnyH_done (by kernel_rfl) ?_ _
        refine NoPanic.normal ?_
        clear hHeld HS0 HSB HSG HSS M1 M5
        obtain ⟨ad', c', hvv⟩ := HST4.out.row.slice
        injection hvv with hv1 hv2 hv3
        subst hv1 hv3
        obtain ⟨n, hn⟩ : ∃ n, ps'.length = n := ⟨_, rfl⟩
        have hmn : m = n := by rw [hv2, lF_len, hn]
        subst hmn
        have HN := Lib.hid hn
        have HMN := Lib.hid hv2
        have hm64 : m ≤ 64 := by have := HST4.out.len; omega
        clear hv2 hn
        go_upto_region 12 with (first | refine load_cc HX4 rfl _ rfl rfl rfl ?_ | (refine store_cc HP4 rfl _ _ rfl rfl rfl rfl rfl rfl (fun W5 HW5 HP5 => ?_)))
        have HST5 : Hid (St W5 G b room (.slice ad m c) ps') := Lib.hid (by rw [HW5.out]; exact HST4.out.sets2 HT4.out HNE.out.2 _)
        have HT5 : Hid (Two W5 P6) := Lib.hid (by rw [HW5.out]; exact HT4.out.sets _ _)
        have HB5 : Hid (Below w.heap.size w W5) := Lib.hid (by rw [HW5.out]; exact below_cells HPW.out _ _ _ HB4.out)
        have HKY := Lib.hid (keys_any G b room (lE ps') W5 HST5.out.cac)
        clear HW5 HST4 HX4 HP4 HT4 HB4
        go_wp2_with fail
        refine HKY.out.mono ?_
        rintro e w6 ⟨vk, rfl, hk6, hb6⟩
        obtain ⟨adk, ck, rfl⟩ := hk6.slice
        have hkl : ((lE ps').map keyC).length = m := by rw [List.length_map, lE_len]; exact HN.out
        have HK6 := Lib.hid hk6
        rw [hkl] at HK6 ⊢
        have HST6 := Lib.hid (HST5.out.below hb6)
        have HP6 := Lib.hid (HP5.out.below hb6)
        have HT6 := Lib.hid (HT5.out.below hb6)
        have HB6 := Lib.hid (chain HB5.out hb6)
        clear hb6 hk6 hkl HKY HST5 HP5 HT5 HB5
        obtain ⟨S, hS⟩ : ∃ S : World → Prop, (fun W => Below w6.heap.size w6 W) = S := ⟨_, rfl⟩
        have HSO : Hid (∀ W, S W → Below w6.heap.size w6 W) := Lib.hid (fun W h => by rw [← hS] at h; exact h)
        have HS0 : Hid (S w6.drew) := Lib.hid (by rw [← hS]; exact (Below.refl _ _).drew)
        have HSD : Hid (∀ W, Below w6.heap.size w6 W → S W) := Lib.hid (fun W h => by rw [← hS]; exact h)
        have HKL : ∀ W, S W → Hid (Calls Try.prog 13 #[.pointer (some ⟨G, 0, none⟩)] W fun e w' => e = .returned (.int .i64 (m : Int)) ∧ S w') := fun W h => Lib.hid ((len_any G b room (lE ps') W (HST6.out.cac.below (HSO.out W h))).mono (by rintro e w' ⟨rfl, rfl⟩; exact ⟨by rw [lE_len, HN.out], h⟩))
        have HKR : ∀ W, S W → Hid (Calls Try.prog 14 #[.pointer (some ⟨G, 0, none⟩)] W fun e w' => e = .returned (.int .i64 room) ∧ S w') := fun W h => Lib.hid ((room_any G b room (lE ps') W (HST6.out.cac.below (HSO.out W h))).mono (by rintro e w' ⟨rfl, rfl⟩; exact ⟨rfl, h⟩))
        have MP0 : Hid (∀ W, S W → W.cell? ⟨P6, 0, none⟩ = some (.int .i64 room)) := Lib.hid (fun W h => (HP6.out.below (HSO.out W h)).cell 0 _ rfl)
        have MP1 : Hid (∀ W, S W → W.cell? ⟨P6, 1, none⟩ = some (.slice ad m c)) := Lib.hid (fun W h => (HP6.out.below (HSO.out W h)).cell 1 _ rfl)
        clear hS
        go_upto_region 13 with fail
        refine wp_region_noPanic ?_
        refine wp_region_held_drew (S := S) (by kernel_rfl) HS0.out (fun hHeld => ?_)
        refine wpAnyH_take (i := 0) (v := ?_) rfl (by kernel_rfl) (by kernel_rfl) (by kernel_rfl) (fun _ _ _ h => h) (Or.inl ⟨by rfl, ?_⟩) (by assumption) ?_
        rotate_left
        · (intro w hSw; go_simp; try (with_reducible rfl))
        try simp only [Act.put, List.getElem_toArray, List.getElem_cons_zero, List.setIfInBounds_toArray, List.set_cons_zero, List.set_cons_succ]
        refine wpAnyH_take (i := 1) (v := ?_) rfl (by kernel_rfl) (by kernel_rfl) (by kernel_rfl) (fun _ _ _ h => h) (Or.inl ⟨by rfl, ?_⟩) (by assumption) ?_
        rotate_left
        · (intro w hSw; go_simp; try (with_reducible rfl))
        try simp only [Act.put, List.getElem_toArray, List.getElem_cons_zero, List.getElem_cons_succ, List.setIfInBounds_toArray, List.set_cons_zero, List.set_cons_succ]
        refine wpAnyH_take (i := 2) (v := ?_) rfl (by kernel_rfl) (by kernel_rfl) (by kernel_rfl) (fun _ _ _ h => h) (Or.inl ⟨by rfl, ?_⟩) (by assumption) ?_
        rotate_left
        · (intro w hSw; go_simp; try (with_reducible rfl))
        try simp only [Act.put, List.getElem_toArray, List.getElem_cons_zero, List.getElem_cons_succ, List.setIfInBounds_toArray, List.set_cons_zero, List.set_cons_succ]
        refine wpAnyH_take (i := 3) (v := ?_) rfl (by kernel_rfl) (by kernel_rfl) (by kernel_rfl) (fun _ _ _ h => h) (Or.inl ⟨by rfl, ?_⟩) (by assumption) ?_
        rotate_left
        · (intro w hSw; go_simp; try (with_reducible rfl))
        try simp only [Act.put, List.getElem_toArray, List.getElem_cons_zero, List.getElem_cons_succ, List.setIfInBounds_toArray, List.set_cons_zero, List.set_cons_succ]
        refine wpAnyH_take (i := 4) (v := ?_) rfl (by kernel_rfl) (by kernel_rfl) (by kernel_rfl) (fun _ _ _ h => h) (Or.inl ⟨by rfl, ?_⟩) (by assumption) ?_
        rotate_left
        · (intro w hSw; go_simp; try (with_reducible rfl))
        try simp only [Act.put, List.getElem_toArray, List.getElem_cons_zero, List.getElem_cons_succ, List.setIfInBounds_toArray, List.set_cons_zero, List.set_cons_succ]
        refine wpAnyH_take (i := 5) (v := ?_) rfl (by kernel_rfl) (by kernel_rfl) (by kernel_rfl) (fun _ _ _ h => h) (Or.inl ⟨by rfl, ?_⟩) (by assumption) ?_
        rotate_left
        · (intro w hSw; go_simp; try (with_reducible rfl))
        try simp only [Act.put, List.getElem_toArray, List.getElem_cons_zero, List.getElem_cons_succ, List.setIfInBounds_toArray, List.set_cons_zero, List.set_cons_succ]
        refine wpAnyH_take (i := 6) (v := ?_) rfl (by kernel_rfl) (by kernel_rfl) (by kernel_rfl) (fun _ _ _ h => h) (Or.inl ⟨by rfl, ?_⟩) (by assumption) ?_
        rotate_left
        · (intro w hSw; have hc0 := MP1.out w hSw; go_simp; try (with_reducible rfl))
        try simp only [Act.put, List.getElem_toArray, List.getElem_cons_zero, List.getElem_cons_succ, List.setIfInBounds_toArray, List.set_cons_zero, List.set_cons_succ]
        refine wpAnyH_take (i := 7) (v := ?_) rfl (by kernel_rfl) (by kernel_rfl) (by kernel_rfl) (fun _ _ _ h => h) (Or.inl ⟨by rfl, ?_⟩) (by assumption) ?_
        rotate_left
        · (intro w hSw; go_simp; try (with_reducible rfl))
        try simp only [Act.put, List.getElem_toArray, List.getElem_cons_zero, List.getElem_cons_succ, List.setIfInBounds_toArray, List.set_cons_zero, List.set_cons_succ]
        refine wpAnyH_take (i := 8) (v := ?_) rfl (by kernel_rfl) (by kernel_rfl) (by kernel_rfl) (fun _ _ _ h => h) (Or.inl ⟨by rfl, ?_⟩) (by assumption) ?_
        rotate_left
        · (intro w hSw; go_simp; try (with_reducible rfl))
        try simp only [Act.put, List.getElem_toArray, List.getElem_cons_zero, List.getElem_cons_succ, List.setIfInBounds_toArray, List.set_cons_zero, List.set_cons_succ]
        refine wpAnyH_take (i := 9) (v := ?_) rfl (by kernel_rfl) (by kernel_rfl) (by kernel_rfl) (fun _ _ _ h => h) (Or.inl ⟨by rfl, ?_⟩) (by assumption) ?_
        rotate_left
        · (intro w hSw; go_simp; try (with_reducible rfl))
        try simp only [Act.put, List.getElem_toArray, List.getElem_cons_zero, List.getElem_cons_succ, List.setIfInBounds_toArray, List.set_cons_zero, List.set_cons_succ]
        refine wpAnyH_take (i := 10) (v := ?_) rfl (by kernel_rfl) (by kernel_rfl) (by kernel_rfl) (fun _ _ _ h => h) (Or.inl ⟨by rfl, ?_⟩) (by assumption) ?_
        rotate_left
        · (intro w hSw; go_simp; try (with_reducible rfl))
        try simp only [Act.put, List.getElem_toArray, List.getElem_cons_zero, List.getElem_cons_succ, List.setIfInBounds_toArray, List.set_cons_zero, List.set_cons_succ]
        refine wpAnyH_take (i := 11) (v := ?_) rfl (by kernel_rfl) (by kernel_rfl) (by kernel_rfl) (fun _ _ _ h => h) (Or.inl ⟨by rfl, ?_⟩) (by assumption) ?_
        rotate_left
        · (intro w hSw; go_simp; try (with_reducible rfl))
        try simp only [Act.put, List.getElem_toArray, List.getElem_cons_zero, List.getElem_cons_succ, List.setIfInBounds_toArray, List.set_cons_zero, List.set_cons_succ]
        refine wpAnyH_take (i := 13) (v := ?_) rfl (by kernel_rfl) (by kernel_rfl) (by kernel_rfl) (fun _ _ _ h => h) (Or.inl ⟨by rfl, ?_⟩) (by assumption) ?_
        rotate_left
        · (intro w hSw; go_simp; try (with_reducible rfl))
        try simp only [Act.put, List.getElem_toArray, List.getElem_cons_zero, List.getElem_cons_succ, List.setIfInBounds_toArray, List.set_cons_zero, List.set_cons_succ]
        refine wpAnyH_take (i := 14) (v := ?_) rfl (by kernel_rfl) (by kernel_rfl) (by kernel_rfl) (fun _ _ _ h => h) (Or.inl ⟨by rfl, ?_⟩) (by assumption) ?_
        rotate_left
        · (intro w hSw; have hc0 := MP1.out w hSw; go_simp; try (with_reducible rfl))
        try simp only [Act.put, List.getElem_toArray, List.getElem_cons_zero, List.getElem_cons_succ, List.setIfInBounds_toArray, List.set_cons_zero, List.set_cons_succ]
        refine wpAnyH_take (i := 15) (v := ?_) rfl (by kernel_rfl) (by kernel_rfl) (by kernel_rfl) (fun _ _ _ h => h) (Or.inl ⟨by rfl, ?_⟩) (by assumption) ?_
        rotate_left
        · (intro w hSw; go_simp; try (with_reducible rfl))
        try simp only [Act.put, List.getElem_toArray, List.getElem_cons_zero, List.getElem_cons_succ, List.setIfInBounds_toArray, List.set_cons_zero, List.set_cons_succ]
        refine wpAnyH_ready (rs := [12]) (by kernel_rfl) (by simp) ?_
        refine AllReadyH.cons rfl (fun K hK => ?_) AllReadyH.nil
        go_simp
        refine (HKL _ (by assumption)).out.mono ?_
        rintro e wr12 ⟨rfl, hS12⟩
        go_wp2_with fail
        refine hK.out _ _ hS12 (fun hHeld => ?_)
        clear hK K
        try simp only [Act.put, List.getElem_toArray, List.getElem_cons_zero, List.getElem_cons_succ, List.setIfInBounds_toArray, List.set_cons_zero, List.set_cons_succ]
        refine wpAnyH_take (i := 16) (v := ?_) rfl (by kernel_rfl) (by kernel_rfl) (by kernel_rfl) (fun _ _ _ h => h) (Or.inl ⟨by rfl, ?_⟩) (by assumption) ?_
        rotate_left
        · (intro w hSw; go_simp; try (with_reducible rfl))
        try simp only [Act.put, List.getElem_toArray, List.getElem_cons_zero, List.getElem_cons_succ, List.setIfInBounds_toArray, List.set_cons_zero, List.set_cons_succ]
        refine wpAnyH_take (i := 17) (v := ?_) rfl (by kernel_rfl) (by kernel_rfl) (by kernel_rfl) (fun _ _ _ h => h) (Or.inl ⟨by rfl, ?_⟩) (by assumption) ?_
        rotate_left
        · (intro w hSw; go_simp; try (with_reducible rfl))
        try simp only [Act.put, List.getElem_toArray, List.getElem_cons_zero, List.getElem_cons_succ, List.setIfInBounds_toArray, List.set_cons_zero, List.set_cons_succ]
        refine wpAnyH_take (i := 18) (v := ?_) rfl (by kernel_rfl) (by kernel_rfl) (by kernel_rfl) (fun _ _ _ h => h) (Or.inl ⟨by rfl, ?_⟩) (by assumption) ?_
        rotate_left
        · (intro w hSw; go_simp; try (with_reducible rfl))
        try simp only [Act.put, List.getElem_toArray, List.getElem_cons_zero, List.getElem_cons_succ, List.setIfInBounds_toArray, List.set_cons_zero, List.set_cons_succ]
        refine wpAnyH_take (i := 19) (v := ?_) rfl (by kernel_rfl) (by kernel_rfl) (by kernel_rfl) (fun _ _ _ h => h) (Or.inl ⟨by rfl, ?_⟩) (by assumption) ?_
        rotate_left
        · (intro w hSw; go_simp; try (with_reducible rfl))
        try simp only [Act.put, List.getElem_toArray, List.getElem_cons_zero, List.getElem_cons_succ, List.setIfInBounds_toArray, List.set_cons_zero, List.set_cons_succ]
        refine wpAnyH_take (i := 21) (v := ?_) rfl (by kernel_rfl) (by kernel_rfl) (by kernel_rfl) (fun _ _ _ h => h) (Or.inl ⟨by rfl, ?_⟩) (by assumption) ?_
        rotate_left
        · (intro w hSw; go_simp; try (with_reducible rfl))
        try simp only [Act.put, List.getElem_toArray, List.getElem_cons_zero, List.getElem_cons_succ, List.setIfInBounds_toArray, List.set_cons_zero, List.set_cons_succ]
        refine wpAnyH_take (i := 22) (v := ?_) rfl (by kernel_rfl) (by kernel_rfl) (by kernel_rfl) (fun _ _ _ h => h) (Or.inl ⟨by rfl, ?_⟩) (by assumption) ?_
        rotate_left
        · (intro w hSw; have hc0 := MP0.out w hSw; go_simp; try (with_reducible rfl))
        try simp only [Act.put, List.getElem_toArray, List.getElem_cons_zero, List.getElem_cons_succ, List.setIfInBounds_toArray, List.set_cons_zero, List.set_cons_succ]
        refine wpAnyH_ready (rs := [20]) (by kernel_rfl) (by simp) ?_
        refine AllReadyH.cons rfl (fun K hK => ?_) AllReadyH.nil
        go_simp
        refine (HKR _ (by assumption)).out.mono ?_
        rintro e wr20 ⟨rfl, hS20⟩
        go_wp2_with fail
        refine hK.out _ _ hS20 (fun hHeld => ?_)
        clear hK K
        try simp only [Act.put, List.getElem_toArray, List.getElem_cons_zero, List.getElem_cons_succ, List.setIfInBounds_toArray, List.set_cons_zero, List.set_cons_succ]
        refine wpAnyH_take (i := 23) (v := ?_) rfl (by kernel_rfl) (by kernel_rfl) (by kernel_rfl) (fun _ _ _ h => h) (Or.inl ⟨by rfl, ?_⟩) (by assumption) ?_
        rotate_left
        · (intro w hSw; go_simp; try (with_reducible rfl))
        try simp only [Act.put, List.getElem_toArray, List.getElem_cons_zero, List.getElem_cons_succ, List.setIfInBounds_toArray, List.set_cons_zero, List.set_cons_succ]
        refine wpAnyH_take (i := 24) (v := ?_) rfl (by kernel_rfl) (by kernel_rfl) (by kernel_rfl) (fun _ _ _ h => h) (Or.inl ⟨by rfl, ?_⟩) (by assumption) ?_
        rotate_left
        · (intro w hSw; go_simp; try (with_reducible rfl))
        try simp only [Act.put, List.getElem_toArray, List.getElem_cons_zero, List.getElem_cons_succ, List.setIfInBounds_toArray, List.set_cons_zero, List.set_cons_succ]
        refine wpAnyH_done (by kernel_rfl) ?_ _
        refine NoPanic.normal ?_
        have HBE := Lib.hid (HSO.out _ hHeld)
        clear hHeld HKL HKR HS0
        go_wp2_with fail
        go_loopw [12] (fun j wx => ∃ jj : Nat, jj ≤ m ∧ j = .int .i64 (jj : Int) ∧ Hid (Below w6.heap.size w6 wx)) (fun j _ => m - (intOf j).toNat)
        case atStart => exact ⟨0, Nat.zero_le _, rfl, HBE⟩
        case round =>
          clear HBE
          obtain ⟨jj, hjj, rfl, HBX⟩ := hrel
          by_cases hjn : jj < m
          · have hdj : decide ((jj : Int) < (m : Int)) = true := decide_eq_true (by omega)
            have hdjn : decide (jj < m) = true := decide_eq_true hjn
            have hj1 : (0 : Int) ≤ (jj : Int) := by omega
            have hj2 : (jj : Int) < (m : Int) := by omega
            have hjp : jj < ps'.length := by rw [HN.out]; exact hjn
            have hjf : jj < (lF ps').length := by rw [lF_len]; exact hjp
            have hjk : jj < ((lE ps').map keyC).length := by rw [List.length_map, lE_len]; exact hjp
            have hke : ((lE ps').map keyC)[jj] = keyC (lF ps')[jj] := keys_tw HST6.out.tw jj hjp hjk hjf
            have HSX : Hid (S wr.drew) := Lib.hid (HSD.out _ HBX.out.drew)
            rcases HST6.out.row.form with ⟨_, h⟩ | ⟨g, cap, e, _, hg, _, _, hr⟩
            · rw [h] at hjf; exact absurd hjf (by simp)
            · injection e with e1 e2 e3
              subst e1
              rcases HK6.out.2 with ⟨_, h⟩ | ⟨gk, capk, ek, _, hgk, _, _, hrk⟩
              · rw [h] at hjk; exact absurd hjk (by simp)
              · injection ek with ek1 ek2 ek3
                subst ek1
                have hce := range_ce hr jj hjf
                have hck := range_at hrk (S := 2) (fun d hd => rfl) jj hjk
                rw [Nat.zero_add] at hce hck
                rw [hke] at hck
                generalize (lF ps')[jj] = ee at *
                have ME0 : Hid (∀ W, S W → W.cell? ⟨g, jj * 4, none⟩ = some (.string ee.s)) := Lib.hid (fun W h => by have := range_belowC hce (HSO.out W h) hg 0 _ rfl; simpa using this)
                have ME1 : Hid (∀ W, S W → W.cell? ⟨g, jj * 4 + 1, none⟩ = some (.int .i64 ee.t)) := Lib.hid (fun W h => by have := range_belowC hce (HSO.out W h) hg 1 _ rfl; simpa using this)
                have MK0 : Hid (∀ W, S W → W.cell? ⟨gk, jj * 2, none⟩ = some (.string ee.s)) := Lib.hid (fun W h => by have := range_belowC hck (HSO.out W h) hgk 0 (Value.string ee.s) rfl; simpa using this)
                have MK1 : Hid (∀ W, S W → W.cell? ⟨gk, jj * 2 + 1, none⟩ = some (.int .i64 ee.t)) := Lib.hid (fun W h => by have := range_belowC hck (HSO.out W h) hgk 1 (Value.int .i64 ee.t) rfl; simpa using this)
                generalize ee.s = en at *
                generalize ee.t = et at *
                clear hce hck hr hrk hke HBX
                go_upto_region 18 with fail
                refine wp_region_noPanic ?_
                refine wp_region_held_drew (S := S) (by kernel_rfl) HSX.out (fun hHeld => ?_)
                refine wpAnyH_take (i := 0) (v := ?_) rfl (by kernel_rfl) (by kernel_rfl) (by kernel_rfl) (fun _ _ _ h => h) (Or.inl ⟨by rfl, ?_⟩) (by assumption) ?_
                rotate_left
                · (intro w hSw; go_simp; try (with_reducible rfl))
                try simp only [Act.put, List.getElem_toArray, List.getElem_cons_zero, List.setIfInBounds_toArray, List.set_cons_zero, List.set_cons_succ]
                refine wpAnyH_take (i := 1) (v := ?_) rfl (by kernel_rfl) (by kernel_rfl) (by kernel_rfl) (fun _ _ _ h => h) (Or.inl ⟨by rfl, ?_⟩) (by assumption) ?_
                rotate_left
                · (intro w hSw; go_simp; try (with_reducible rfl))
                try simp only [Act.put, List.getElem_toArray, List.getElem_cons_zero, List.getElem_cons_succ, List.setIfInBounds_toArray, List.set_cons_zero, List.set_cons_succ]
                refine wpAnyH_take (i := 2) (v := ?_) rfl (by kernel_rfl) (by kernel_rfl) (by kernel_rfl) (fun _ _ _ h => h) (Or.inl ⟨by rfl, ?_⟩) (by assumption) ?_
                rotate_left
                · (intro w hSw; go_simp; try (with_reducible rfl))
                try simp only [Act.put, List.getElem_toArray, List.getElem_cons_zero, List.getElem_cons_succ, List.setIfInBounds_toArray, List.set_cons_zero, List.set_cons_succ]
                refine wpAnyH_take (i := 3) (v := ?_) rfl (by kernel_rfl) (by kernel_rfl) (by kernel_rfl) (fun _ _ _ h => h) (Or.inl ⟨by rfl, ?_⟩) (by assumption) ?_
                rotate_left
                · (intro w hSw; go_simp; try (with_reducible rfl))
                try simp only [Act.put, List.getElem_toArray, List.getElem_cons_zero, List.getElem_cons_succ, List.setIfInBounds_toArray, List.set_cons_zero, List.set_cons_succ]
                refine wpAnyH_take (i := 4) (v := ?_) rfl (by kernel_rfl) (by kernel_rfl) (by kernel_rfl) (fun _ _ _ h => h) (Or.inl ⟨by rfl, ?_⟩) (by assumption) ?_
                rotate_left
                · (intro w hSw; have hc0 := MK0.out w hSw; go_simp; try (with_reducible rfl))
                try simp only [Act.put, List.getElem_toArray, List.getElem_cons_zero, List.getElem_cons_succ, List.setIfInBounds_toArray, List.set_cons_zero, List.set_cons_succ]
                refine wpAnyH_take (i := 5) (v := ?_) rfl (by kernel_rfl) (by kernel_rfl) (by kernel_rfl) (fun _ _ _ h => h) (Or.inl ⟨by rfl, ?_⟩) (by assumption) ?_
                rotate_left
                · (intro w hSw; go_simp; try (with_reducible rfl))
                try simp only [Act.put, List.getElem_toArray, List.getElem_cons_zero, List.getElem_cons_succ, List.setIfInBounds_toArray, List.set_cons_zero, List.set_cons_succ]
                refine wpAnyH_take (i := 6) (v := ?_) rfl (by kernel_rfl) (by kernel_rfl) (by kernel_rfl) (fun _ _ _ h => h) (Or.inl ⟨by rfl, ?_⟩) (by assumption) ?_
                rotate_left
                · (intro w hSw; have hc0 := MP1.out w hSw; go_simp; try (with_reducible rfl))
                try simp only [Act.put, List.getElem_toArray, List.getElem_cons_zero, List.getElem_cons_succ, List.setIfInBounds_toArray, List.set_cons_zero, List.set_cons_succ]
                refine wpAnyH_take (i := 7) (v := ?_) rfl (by kernel_rfl) (by kernel_rfl) (by kernel_rfl) (fun _ _ _ h => h) (Or.inl ⟨by rfl, ?_⟩) (by assumption) ?_
                rotate_left
                · (intro w hSw; go_simp; try (with_reducible rfl))
                try simp only [Act.put, List.getElem_toArray, List.getElem_cons_zero, List.getElem_cons_succ, List.setIfInBounds_toArray, List.set_cons_zero, List.set_cons_succ]
                refine wpAnyH_take (i := 8) (v := ?_) rfl (by kernel_rfl) (by kernel_rfl) (by kernel_rfl) (fun _ _ _ h => h) (Or.inl ⟨by rfl, ?_⟩) (by assumption) ?_
                rotate_left
                · (intro w hSw; go_simp; try (with_reducible rfl))
                try simp only [Act.put, List.getElem_toArray, List.getElem_cons_zero, List.getElem_cons_succ, List.setIfInBounds_toArray, List.set_cons_zero, List.set_cons_succ]
                refine wpAnyH_take (i := 9) (v := ?_) rfl (by kernel_rfl) (by kernel_rfl) (by kernel_rfl) (fun _ _ _ h => h) (Or.inl ⟨by rfl, ?_⟩) (by assumption) ?_
                rotate_left
                · (intro w hSw; go_simp; try (with_reducible rfl))
                try simp only [Act.put, List.getElem_toArray, List.getElem_cons_zero, List.getElem_cons_succ, List.setIfInBounds_toArray, List.set_cons_zero, List.set_cons_succ]
                refine wpAnyH_take (i := 10) (v := ?_) rfl (by kernel_rfl) (by kernel_rfl) (by kernel_rfl) (fun _ _ _ h => h) (Or.inl ⟨by rfl, ?_⟩) (by assumption) ?_
                rotate_left
                · (intro w hSw; have hc0 := ME0.out w hSw; go_simp; try (with_reducible rfl))
                try simp only [Act.put, List.getElem_toArray, List.getElem_cons_zero, List.getElem_cons_succ, List.setIfInBounds_toArray, List.set_cons_zero, List.set_cons_succ]
                refine wpAnyH_take (i := 11) (v := ?_) rfl (by kernel_rfl) (by kernel_rfl) (by kernel_rfl) (fun _ _ _ h => h) (Or.inl ⟨by rfl, ?_⟩) (by assumption) ?_
                rotate_left
                · (intro w hSw; go_simp; try (with_reducible rfl))
                try simp only [Act.put, List.getElem_toArray, List.getElem_cons_zero, List.getElem_cons_succ, List.setIfInBounds_toArray, List.set_cons_zero, List.set_cons_succ]
                refine wpAnyH_take (i := 12) (v := ?_) rfl (by kernel_rfl) (by kernel_rfl) (by kernel_rfl) (fun _ _ _ h => h) (Or.inl ⟨by rfl, ?_⟩) (by assumption) ?_
                rotate_left
                · (intro w hSw; go_simp; try (with_reducible rfl))
                try simp only [Act.put, List.getElem_toArray, List.getElem_cons_zero, List.getElem_cons_succ, List.setIfInBounds_toArray, List.set_cons_zero, List.set_cons_succ]
                refine wpAnyH_take (i := 13) (v := ?_) rfl (by kernel_rfl) (by kernel_rfl) (by kernel_rfl) (fun _ _ _ h => h) (Or.inl ⟨by rfl, ?_⟩) (by assumption) ?_
                rotate_left
                · (intro w hSw; go_simp; try (with_reducible rfl))
                try simp only [Act.put, List.getElem_toArray, List.getElem_cons_zero, List.getElem_cons_succ, List.setIfInBounds_toArray, List.set_cons_zero, List.set_cons_succ]
                refine wpAnyH_take (i := 14) (v := ?_) rfl (by kernel_rfl) (by kernel_rfl) (by kernel_rfl) (fun _ _ _ h => h) (Or.inl ⟨by rfl, ?_⟩) (by assumption) ?_
                rotate_left
                · (intro w hSw; go_simp; try (with_reducible rfl))
                try simp only [Act.put, List.getElem_toArray, List.getElem_cons_zero, List.getElem_cons_succ, List.setIfInBounds_toArray, List.set_cons_zero, List.set_cons_succ]
                refine wpAnyH_take (i := 15) (v := ?_) rfl (by kernel_rfl) (by kernel_rfl) (by kernel_rfl) (fun _ _ _ h => h) (Or.inl ⟨by rfl, ?_⟩) (by assumption) ?_
                rotate_left
                · (intro w hSw; go_simp; try (with_reducible rfl))
                try simp only [Act.put, List.getElem_toArray, List.getElem_cons_zero, List.getElem_cons_succ, List.setIfInBounds_toArray, List.set_cons_zero, List.set_cons_succ]
                refine wpAnyH_take (i := 16) (v := ?_) rfl (by kernel_rfl) (by kernel_rfl) (by kernel_rfl) (fun _ _ _ h => h) (Or.inl ⟨by rfl, ?_⟩) (by assumption) ?_
                rotate_left
                · (intro w hSw; go_simp; try (with_reducible rfl))
                try simp only [Act.put, List.getElem_toArray, List.getElem_cons_zero, List.getElem_cons_succ, List.setIfInBounds_toArray, List.set_cons_zero, List.set_cons_succ]
                refine wpAnyH_take (i := 17) (v := ?_) rfl (by kernel_rfl) (by kernel_rfl) (by kernel_rfl) (fun _ _ _ h => h) (Or.inl ⟨by rfl, ?_⟩) (by assumption) ?_
                rotate_left
                · (intro w hSw; have hc0 := MK1.out w hSw; go_simp; try (with_reducible rfl))
                try simp only [Act.put, List.getElem_toArray, List.getElem_cons_zero, List.getElem_cons_succ, List.setIfInBounds_toArray, List.set_cons_zero, List.set_cons_succ]
                refine wpAnyH_take (i := 18) (v := ?_) rfl (by kernel_rfl) (by kernel_rfl) (by kernel_rfl) (fun _ _ _ h => h) (Or.inl ⟨by rfl, ?_⟩) (by assumption) ?_
                rotate_left
                · (intro w hSw; go_simp; try (with_reducible rfl))
                try simp only [Act.put, List.getElem_toArray, List.getElem_cons_zero, List.getElem_cons_succ, List.setIfInBounds_toArray, List.set_cons_zero, List.set_cons_succ]
                refine wpAnyH_take (i := 19) (v := ?_) rfl (by kernel_rfl) (by kernel_rfl) (by kernel_rfl) (fun _ _ _ h => h) (Or.inl ⟨by rfl, ?_⟩) (by assumption) ?_
                rotate_left
                · (intro w hSw; have hc0 := MP1.out w hSw; go_simp; try (with_reducible rfl))
                try simp only [Act.put, List.getElem_toArray, List.getElem_cons_zero, List.getElem_cons_succ, List.setIfInBounds_toArray, List.set_cons_zero, List.set_cons_succ]
                refine wpAnyH_take (i := 20) (v := ?_) rfl (by kernel_rfl) (by kernel_rfl) (by kernel_rfl) (fun _ _ _ h => h) (Or.inl ⟨by rfl, ?_⟩) (by assumption) ?_
                rotate_left
                · (intro w hSw; go_simp; try (with_reducible rfl))
                try simp only [Act.put, List.getElem_toArray, List.getElem_cons_zero, List.getElem_cons_succ, List.setIfInBounds_toArray, List.set_cons_zero, List.set_cons_succ]
                refine wpAnyH_take (i := 21) (v := ?_) rfl (by kernel_rfl) (by kernel_rfl) (by kernel_rfl) (fun _ _ _ h => h) (Or.inl ⟨by rfl, ?_⟩) (by assumption) ?_
                rotate_left
                · (intro w hSw; go_simp; try (with_reducible rfl))
                try simp only [Act.put, List.getElem_toArray, List.getElem_cons_zero, List.getElem_cons_succ, List.setIfInBounds_toArray, List.set_cons_zero, List.set_cons_succ]
                refine wpAnyH_take (i := 22) (v := ?_) rfl (by kernel_rfl) (by kernel_rfl) (by kernel_rfl) (fun _ _ _ h => h) (Or.inl ⟨by rfl, ?_⟩) (by assumption) ?_
                rotate_left
                · (intro w hSw; go_simp; try (with_reducible rfl))
                try simp only [Act.put, List.getElem_toArray, List.getElem_cons_zero, List.getElem_cons_succ, List.setIfInBounds_toArray, List.set_cons_zero, List.set_cons_succ]
                refine wpAnyH_take (i := 23) (v := ?_) rfl (by kernel_rfl) (by kernel_rfl) (by kernel_rfl) (fun _ _ _ h => h) (Or.inl ⟨by rfl, ?_⟩) (by assumption) ?_
                rotate_left
                · (intro w hSw; have hc0 := ME1.out w hSw; go_simp; try (with_reducible rfl))
                try simp only [Act.put, List.getElem_toArray, List.getElem_cons_zero, List.getElem_cons_succ, List.setIfInBounds_toArray, List.set_cons_zero, List.set_cons_succ]
                refine wpAnyH_take (i := 24) (v := ?_) rfl (by kernel_rfl) (by kernel_rfl) (by kernel_rfl) (fun _ _ _ h => h) (Or.inl ⟨by rfl, ?_⟩) (by assumption) ?_
                rotate_left
                · (intro w hSw; go_simp; try (with_reducible rfl))
                try simp only [Act.put, List.getElem_toArray, List.getElem_cons_zero, List.getElem_cons_succ, List.setIfInBounds_toArray, List.set_cons_zero, List.set_cons_succ]
                refine wpAnyH_take (i := 25) (v := ?_) rfl (by kernel_rfl) (by kernel_rfl) (by kernel_rfl) (fun _ _ _ h => h) (Or.inl ⟨by rfl, ?_⟩) (by assumption) ?_
                rotate_left
                · (intro w hSw; go_simp; try (with_reducible rfl))
                try simp only [Act.put, List.getElem_toArray, List.getElem_cons_zero, List.getElem_cons_succ, List.setIfInBounds_toArray, List.set_cons_zero, List.set_cons_succ]
                refine wpAnyH_done (by kernel_rfl) ?_ _
                refine NoPanic.normal ?_
                have HFX := Lib.hid (HSO.out _ hHeld)
                clear hHeld
                go_wp2_with fail
                go_roundw
                case rel => exact ⟨jj + 1, by omega, by go_num, HFX⟩
                case measure => simp [intOf]; omega
          · obtain rfl : jj = m := by omega
            have hdj : decide ((jj : Int) < (jj : Int)) = false := by simp
            have HST7 := Lib.hid (HST6.out.below HBX.out)
            have HP7 := Lib.hid (HP6.out.below HBX.out)
            have HT7 := Lib.hid (HT6.out.below HBX.out)
            have HB7 := Lib.hid (chain HB6.out HBX.out)
            clear HBX HK6 HST6 HP6 HT6 HB6 MP0 MP1 HSO HSD
            go_wp2_with fail
            go_roundw
            case rel => exact ⟨k + 1, ps', .slice ad jj c, q, by omega, by omega, by go_num, rfl, by omega, HST7, HP7, HT7, HB7⟩
            case measure => simp [intOf]; omega
      · go_simp
        go_wp2_with fail
        have HZ0 : Hid (CellsAt ((wr.alloc (.cells #[.int .i64 0, .slice none 0 0] 27)).drew) wr.drew.heap.size zCc) := Lib.hid (CellsAt.new wr.drew 27 zCc)
        have HZT0 : Hid (Two ((wr.alloc (.cells #[.int .i64 0, .slice none 0 0] 27)).drew) wr.drew.heap.size) := Lib.hid (Two.new wr.drew 27)
        have hba : Below wr.drew.heap.size wr.drew ((wr.alloc (.cells #[.int .i64 0, .slice none 0 0] 27)).drew) := ((Below.refl wr.drew.heap.size wr.drew).alloc (Nat.le_refl _) (.cells #[.int .i64 0, .slice none 0 0] 27) : Below wr.drew.heap.size wr.drew (wr.drew.alloc (.cells #[.int .i64 0, .slice none 0 0] 27)))
        have HS6 := Lib.hid (HSB.out _ _ hHeld hba)
        have HST1 := Lib.hid (HSTd.out.below hba)
        have HB1 := Lib.hid (chain HBd.out hba)
        have HP1 := Lib.hid (HPd.out.below hba)
        have HT1 := Lib.hid (HTd.out.below hba)
        have HN9 : Hid (wr.drew.heap.size ≠ b ∧ G ≠ wr.drew.heap.size ∧ P6 ≠ wr.drew.heap.size ∧ wr.drew.heap.size ≠ g0 ∧ w.heap.size ≤ wr.drew.heap.size) := Lib.hid (by
          have h1 := HSTd.out.cac.lt
          have h2 := HPd.out.lt
          have h3 : g0 < wr.drew.heap.size := HGW.out.2
          have h4 := HBd.out.size
          omega)
        refine hK.out _ _ HS6.out (fun hHeld => ?_)
        clear hK K HS6 hba
        try simp only [Act.put, List.getElem_toArray, List.getElem_cons_zero, List.getElem_cons_succ, List.setIfInBounds_toArray, List.set_cons_zero, List.set_cons_succ]
        generalize (wr.alloc (.cells #[.int .i64 0, .slice none 0 0] 27)).drew = W1 at *
        have hP9 : wr.drew.heap.size = wr.heap.size := rfl
        rw [hP9] at HZ0 HZT0 HN9
        generalize wr.heap.size = P9 at *
        clear hP9
        refine wpAnyH_ready (rs := [7]) (by kernel_rfl) (by simp) ?_
        refine AllReadyH.cons rfl (fun K hK => ?_) AllReadyH.nil
        go_simp
        refine (HDO.out _ HST1.out HB1.out).mono ?_
        rintro e w5 ⟨ad, m, c, ps', rfl, hst5, hg5⟩
        have HST4' := Lib.hid hst5
        have HB5' := Lib.hid (Below.cacheOp HB1.out hg5 HGB.out HB1.out.size)
        have HP5' := Lib.hid (HP1.out.grown hg5 HNE.out.1)
        have HT5' := Lib.hid (HT1.out.grown hg5 HNE.out.1)
        have HZ := Lib.hid (HZ0.out.grown hg5 HN9.out.1)
        have HZT := Lib.hid (HZT0.out.grown hg5 HN9.out.1)
        have hS5 := HSG.out _ _ hHeld hg5
        go_wp2_with fail
        refine hK.out _ _ hS5 (fun hHeld => ?_)
        clear hK K hst5 hg5 hS5 HDO HSTd HBd HPd HTd HST1 HB1 HP1 HT1 HZ0 HZT0
        try simp only [Act.put, List.getElem_toArray, List.getElem_cons_zero, List.getElem_cons_succ, List.setIfInBounds_toArray, List.set_cons_zero, List.set_cons_succ]
        refine wpAnyH_take (i := 8) (v := ?_) rfl (by kernel_rfl) (by kernel_rfl) (by kernel_rfl) (fun _ _ _ h => h) (Or.inl ⟨by rfl, ?_⟩) (by assumption) ?_
        rotate_left
        · (intro w hSw; go_simp; try (with_reducible rfl))
        try simp only [Act.put, List.getElem_toArray, List.getElem_cons_zero, List.getElem_cons_succ, List.setIfInBounds_toArray, List.set_cons_zero, List.set_cons_succ]
        refine wpAnyH_take (i := 9) (v := ?_) rfl (by kernel_rfl) (by kernel_rfl) (by kernel_rfl) (fun _ _ _ h => h) (Or.inl ⟨by rfl, ?_⟩) (by assumption) ?_
        rotate_left
        · (intro w hSw; go_simp; try (with_reducible rfl))
        try simp only [Act.put, List.getElem_toArray, List.getElem_cons_zero, List.getElem_cons_succ, List.setIfInBounds_toArray, List.set_cons_zero, List.set_cons_succ]
        refine wpAnyH_take (i := 10) (v := ?_) rfl (by kernel_rfl) (by kernel_rfl) (by kernel_rfl) (fun _ _ _ h => h) (Or.inl ⟨by rfl, ?_⟩) (by assumption) ?_
        rotate_left
        · (intro w hSw; go_simp; try (with_reducible rfl))
        try simp only [Act.put, List.getElem_toArray, List.getElem_cons_zero, List.getElem_cons_succ, List.setIfInBounds_toArray, List.set_cons_zero, List.set_cons_succ]
        refine wpAnyH_ready (rs := [12]) (by kernel_rfl) (by simp) ?_
        refine AllReadyH.one rfl rfl (fun K hK => ?_)
        refine wp_store_cc HZ rfl _ _ rfl rfl (vs := [.int .i64 room, .slice ad m c]) rfl rfl rfl (fun V HV HX4 => ?_)
        have hSV : S V := by rw [HV.out]; exact HSS.out _ _ _ hHeld HN9.out.2.2.1.symm HN9.out.2.2.2.1
        refine hK.out _ _ hSV (fun hHeld => ?_)
        clear hK K
        try simp only [Act.put]
        have HST4 : Hid (St V G b room (.slice ad m c) ps') := Lib.hid (by rw [HV.out]; exact HST4'.out.sets2 HZT.out HN9.out.2.1 _)
        have HP4 : Hid (CellsAt V P6 [.int .i64 room, .slice vad vn vc]) := Lib.hid (by rw [HV.out]; exact HP5'.out.apart HN9.out.2.2.1 _)
        have HT4 : Hid (Two V P6) := Lib.hid (by rw [HV.out]; exact twoApart HT5'.out HN9.out.2.2.1 _)
        have HB4 : Hid (Below w.heap.size w V) := Lib.hid (by rw [HV.out]; exact below_cells HN9.out.2.2.2.2 _ _ _ HB5'.out)
        clear HST4' HP5' HT5' HB5' HV hSV HZ HZT
        refine wpAnyH_take (i := 13) (v := ?_) rfl (by kernel_rfl) (by kernel_rfl) (by kernel_rfl) (fun _ _ _ h => h) (Or.inl ⟨by rfl, ?_⟩) (by assumption) ?_
        rotate_left
        · (intro w hSw; go_simp; try (with_reducible rfl))
        try simp only [Act.put, List.getElem_toArray, List.getElem_cons_zero, List.getElem_cons_succ, List.setIfInBounds_toArray, List.set_cons_zero, List.set_cons_succ]
        refine wpAnyH_done (by kernel_rfl) ?_ _
        refine NoPanic.normal ?_
        clear hHeld HS0 HSB HSG HSS M1 M5
        obtain ⟨ad', c', hvv⟩ := HST4.out.row.slice
        injection hvv with hv1 hv2 hv3
        subst hv1 hv3
        obtain ⟨n, hn⟩ : ∃ n, ps'.length = n := ⟨_, rfl⟩
        have hmn : m = n := by rw [hv2, lF_len, hn]
        subst hmn
        have HN := Lib.hid hn
        have HMN := Lib.hid hv2
        have hm64 : m ≤ 64 := by have := HST4.out.len; omega
        clear hv2 hn
        go_upto_region 12 with (first | refine load_cc HX4 rfl _ rfl rfl rfl ?_ | (refine store_cc HP4 rfl _ _ rfl rfl rfl rfl rfl rfl (fun W5 HW5 HP5 => ?_)))
        have HST5 : Hid (St W5 G b room (.slice ad m c) ps') := Lib.hid (by rw [HW5.out]; exact HST4.out.sets2 HT4.out HNE.out.2 _)
        have HT5 : Hid (Two W5 P6) := Lib.hid (by rw [HW5.out]; exact HT4.out.sets _ _)
        have HB5 : Hid (Below w.heap.size w W5) := Lib.hid (by rw [HW5.out]; exact below_cells HPW.out _ _ _ HB4.out)
        have HKY := Lib.hid (keys_any G b room (lE ps') W5 HST5.out.cac)
        clear HW5 HST4 HX4 HP4 HT4 HB4
        go_wp2_with fail
        refine HKY.out.mono ?_
        rintro e w6 ⟨vk, rfl, hk6, hb6⟩
        obtain ⟨adk, ck, rfl⟩ := hk6.slice
        have hkl : ((lE ps').map keyC).length = m := by rw [List.length_map, lE_len]; exact HN.out
        have HK6 := Lib.hid hk6
        rw [hkl] at HK6 ⊢
        have HST6 := Lib.hid (HST5.out.below hb6)
        have HP6 := Lib.hid (HP5.out.below hb6)
        have HT6 := Lib.hid (HT5.out.below hb6)
        have HB6 := Lib.hid (chain HB5.out hb6)
        clear hb6 hk6 hkl HKY HST5 HP5 HT5 HB5
        obtain ⟨S, hS⟩ : ∃ S : World → Prop, (fun W => Below w6.heap.size w6 W) = S := ⟨_, rfl⟩
        have HSO : Hid (∀ W, S W → Below w6.heap.size w6 W) := Lib.hid (fun W h => by rw [← hS] at h; exact h)
        have HS0 : Hid (S w6.drew) := Lib.hid (by rw [← hS]; exact (Below.refl _ _).drew)
        have HSD : Hid (∀ W, Below w6.heap.size w6 W → S W) := Lib.hid (fun W h => by rw [← hS]; exact h)
        have HKL : ∀ W, S W → Hid (Calls Try.prog 13 #[.pointer (some ⟨G, 0, none⟩)] W fun e w' => e = .returned (.int .i64 (m : Int)) ∧ S w') := fun W h => Lib.hid ((len_any G b room (lE ps') W (HST6.out.cac.below (HSO.out W h))).mono (by rintro e w' ⟨rfl, rfl⟩; exact ⟨by rw [lE_len, HN.out], h⟩))
        have HKR : ∀ W, S W → Hid (Calls Try.prog 14 #[.pointer (some ⟨G, 0, none⟩)] W fun e w' => e = .returned (.int .i64 room) ∧ S w') := fun W h => Lib.hid ((room_any G b room (lE ps') W (HST6.out.cac.below (HSO.out W h))).mono (by rintro e w' ⟨rfl, rfl⟩; exact ⟨rfl, h⟩))
        have MP0 : Hid (∀ W, S W → W.cell? ⟨P6, 0, none⟩ = some (.int .i64 room)) := Lib.hid (fun W h => (HP6.out.below (HSO.out W h)).cell 0 _ rfl)
        have MP1 : Hid (∀ W, S W → W.cell? ⟨P6, 1, none⟩ = some (.slice ad m c)) := Lib.hid (fun W h => (HP6.out.below (HSO.out W h)).cell 1 _ rfl)
        clear hS
        go_upto_region 13 with fail
        refine wp_region_noPanic ?_
        refine wp_region_held_drew (S := S) (by kernel_rfl) HS0.out (fun hHeld => ?_)
        refine wpAnyH_take (i := 0) (v := ?_) rfl (by kernel_rfl) (by kernel_rfl) (by kernel_rfl) (fun _ _ _ h => h) (Or.inl ⟨by rfl, ?_⟩) (by assumption) ?_
        rotate_left
        · (intro w hSw; go_simp; try (with_reducible rfl))
        try simp only [Act.put, List.getElem_toArray, List.getElem_cons_zero, List.setIfInBounds_toArray, List.set_cons_zero, List.set_cons_succ]
        refine wpAnyH_take (i := 1) (v := ?_) rfl (by kernel_rfl) (by kernel_rfl) (by kernel_rfl) (fun _ _ _ h => h) (Or.inl ⟨by rfl, ?_⟩) (by assumption) ?_
        rotate_left
        · (intro w hSw; go_simp; try (with_reducible rfl))
        try simp only [Act.put, List.getElem_toArray, List.getElem_cons_zero, List.getElem_cons_succ, List.setIfInBounds_toArray, List.set_cons_zero, List.set_cons_succ]
        refine wpAnyH_take (i := 2) (v := ?_) rfl (by kernel_rfl) (by kernel_rfl) (by kernel_rfl) (fun _ _ _ h => h) (Or.inl ⟨by rfl, ?_⟩) (by assumption) ?_
        rotate_left
        · (intro w hSw; go_simp; try (with_reducible rfl))
        try simp only [Act.put, List.getElem_toArray, List.getElem_cons_zero, List.getElem_cons_succ, List.setIfInBounds_toArray, List.set_cons_zero, List.set_cons_succ]
        refine wpAnyH_take (i := 3) (v := ?_) rfl (by kernel_rfl) (by kernel_rfl) (by kernel_rfl) (fun _ _ _ h => h) (Or.inl ⟨by rfl, ?_⟩) (by assumption) ?_
        rotate_left
        · (intro w hSw; go_simp; try (with_reducible rfl))
        try simp only [Act.put, List.getElem_toArray, List.getElem_cons_zero, List.getElem_cons_succ, List.setIfInBounds_toArray, List.set_cons_zero, List.set_cons_succ]
        refine wpAnyH_take (i := 4) (v := ?_) rfl (by kernel_rfl) (by kernel_rfl) (by kernel_rfl) (fun _ _ _ h => h) (Or.inl ⟨by rfl, ?_⟩) (by assumption) ?_
        rotate_left
        · (intro w hSw; go_simp; try (with_reducible rfl))
        try simp only [Act.put, List.getElem_toArray, List.getElem_cons_zero, List.getElem_cons_succ, List.setIfInBounds_toArray, List.set_cons_zero, List.set_cons_succ]
        refine wpAnyH_take (i := 5) (v := ?_) rfl (by kernel_rfl) (by kernel_rfl) (by kernel_rfl) (fun _ _ _ h => h) (Or.inl ⟨by rfl, ?_⟩) (by assumption) ?_
        rotate_left
        · (intro w hSw; go_simp; try (with_reducible rfl))
        try simp only [Act.put, List.getElem_toArray, List.getElem_cons_zero, List.getElem_cons_succ, List.setIfInBounds_toArray, List.set_cons_zero, List.set_cons_succ]
        refine wpAnyH_take (i := 6) (v := ?_) rfl (by kernel_rfl) (by kernel_rfl) (by kernel_rfl) (fun _ _ _ h => h) (Or.inl ⟨by rfl, ?_⟩) (by assumption) ?_
        rotate_left
        · (intro w hSw; have hc0 := MP1.out w hSw; go_simp; try (with_reducible rfl))
        try simp only [Act.put, List.getElem_toArray, List.getElem_cons_zero, List.getElem_cons_succ, List.setIfInBounds_toArray, List.set_cons_zero, List.set_cons_succ]
        refine wpAnyH_take (i := 7) (v := ?_) rfl (by kernel_rfl) (by kernel_rfl) (by kernel_rfl) (fun _ _ _ h => h) (Or.inl ⟨by rfl, ?_⟩) (by assumption) ?_
        rotate_left
        · (intro w hSw; go_simp; try (with_reducible rfl))
        try simp only [Act.put, List.getElem_toArray, List.getElem_cons_zero, List.getElem_cons_succ, List.setIfInBounds_toArray, List.set_cons_zero, List.set_cons_succ]
        refine wpAnyH_take (i := 8) (v := ?_) rfl (by kernel_rfl) (by kernel_rfl) (by kernel_rfl) (fun _ _ _ h => h) (Or.inl ⟨by rfl, ?_⟩) (by assumption) ?_
        rotate_left
        · (intro w hSw; go_simp; try (with_reducible rfl))
        try simp only [Act.put, List.getElem_toArray, List.getElem_cons_zero, List.getElem_cons_succ, List.setIfInBounds_toArray, List.set_cons_zero, List.set_cons_succ]
        refine wpAnyH_take (i := 9) (v := ?_) rfl (by kernel_rfl) (by kernel_rfl) (by kernel_rfl) (fun _ _ _ h => h) (Or.inl ⟨by rfl, ?_⟩) (by assumption) ?_
        rotate_left
        · (intro w hSw; go_simp; try (with_reducible rfl))
        try simp only [Act.put, List.getElem_toArray, List.getElem_cons_zero, List.getElem_cons_succ, List.setIfInBounds_toArray, List.set_cons_zero, List.set_cons_succ]
        refine wpAnyH_take (i := 10) (v := ?_) rfl (by kernel_rfl) (by kernel_rfl) (by kernel_rfl) (fun _ _ _ h => h) (Or.inl ⟨by rfl, ?_⟩) (by assumption) ?_
        rotate_left
        · (intro w hSw; go_simp; try (with_reducible rfl))
        try simp only [Act.put, List.getElem_toArray, List.getElem_cons_zero, List.getElem_cons_succ, List.setIfInBounds_toArray, List.set_cons_zero, List.set_cons_succ]
        refine wpAnyH_take (i := 11) (v := ?_) rfl (by kernel_rfl) (by kernel_rfl) (by kernel_rfl) (fun _ _ _ h => h) (Or.inl ⟨by rfl, ?_⟩) (by assumption) ?_
        rotate_left
        · (intro w hSw; go_simp; try (with_reducible rfl))
        try simp only [Act.put, List.getElem_toArray, List.getElem_cons_zero, List.getElem_cons_succ, List.setIfInBounds_toArray, List.set_cons_zero, List.set_cons_succ]
        refine wpAnyH_take (i := 13) (v := ?_) rfl (by kernel_rfl) (by kernel_rfl) (by kernel_rfl) (fun _ _ _ h => h) (Or.inl ⟨by rfl, ?_⟩) (by assumption) ?_
        rotate_left
        · (intro w hSw; go_simp; try (with_reducible rfl))
        try simp only [Act.put, List.getElem_toArray, List.getElem_cons_zero, List.getElem_cons_succ, List.setIfInBounds_toArray, List.set_cons_zero, List.set_cons_succ]
        refine wpAnyH_take (i := 14) (v := ?_) rfl (by kernel_rfl) (by kernel_rfl) (by kernel_rfl) (fun _ _ _ h => h) (Or.inl ⟨by rfl, ?_⟩) (by assumption) ?_
        rotate_left
        · (intro w hSw; have hc0 := MP1.out w hSw; go_simp; try (with_reducible rfl))
        try simp only [Act.put, List.getElem_toArray, List.getElem_cons_zero, List.getElem_cons_succ, List.setIfInBounds_toArray, List.set_cons_zero, List.set_cons_succ]
        refine wpAnyH_take (i := 15) (v := ?_) rfl (by kernel_rfl) (by kernel_rfl) (by kernel_rfl) (fun _ _ _ h => h) (Or.inl ⟨by rfl, ?_⟩) (by assumption) ?_
        rotate_left
        · (intro w hSw; go_simp; try (with_reducible rfl))
        try simp only [Act.put, List.getElem_toArray, List.getElem_cons_zero, List.getElem_cons_succ, List.setIfInBounds_toArray, List.set_cons_zero, List.set_cons_succ]
        refine wpAnyH_ready (rs := [12]) (by kernel_rfl) (by simp) ?_
        refine AllReadyH.cons rfl (fun K hK => ?_) AllReadyH.nil
        go_simp
        refine (HKL _ (by assumption)).out.mono ?_
        rintro e wr12 ⟨rfl, hS12⟩
        go_wp2_with fail
        refine hK.out _ _ hS12 (fun hHeld => ?_)
        clear hK K
        try simp only [Act.put, List.getElem_toArray, List.getElem_cons_zero, List.getElem_cons_succ, List.setIfInBounds_toArray, List.set_cons_zero, List.set_cons_succ]
        refine wpAnyH_take (i := 16) (v := ?_) rfl (by kernel_rfl) (by kernel_rfl) (by kernel_rfl) (fun _ _ _ h => h) (Or.inl ⟨by rfl, ?_⟩) (by assumption) ?_
        rotate_left
        · (intro w hSw; go_simp; try (with_reducible rfl))
        try simp only [Act.put, List.getElem_toArray, List.getElem_cons_zero, List.getElem_cons_succ, List.setIfInBounds_toArray, List.set_cons_zero, List.set_cons_succ]
        refine wpAnyH_take (i := 17) (v := ?_) rfl (by kernel_rfl) (by kernel_rfl) (by kernel_rfl) (fun _ _ _ h => h) (Or.inl ⟨by rfl, ?_⟩) (by assumption) ?_
        rotate_left
        · (intro w hSw; go_simp; try (with_reducible rfl))
        try simp only [Act.put, List.getElem_toArray, List.getElem_cons_zero, List.getElem_cons_succ, List.setIfInBounds_toArray, List.set_cons_zero, List.set_cons_succ]
        refine wpAnyH_take (i := 18) (v := ?_) rfl (by kernel_rfl) (by kernel_rfl) (by kernel_rfl) (fun _ _ _ h => h) (Or.inl ⟨by rfl, ?_⟩) (by assumption) ?_
        rotate_left
        · (intro w hSw; go_simp; try (with_reducible rfl))
        try simp only [Act.put, List.getElem_toArray, List.getElem_cons_zero, List.getElem_cons_succ, List.setIfInBounds_toArray, List.set_cons_zero, List.set_cons_succ]
        refine wpAnyH_take (i := 19) (v := ?_) rfl (by kernel_rfl) (by kernel_rfl) (by kernel_rfl) (fun _ _ _ h => h) (Or.inl ⟨by rfl, ?_⟩) (by assumption) ?_
        rotate_left
        · (intro w hSw; go_simp; try (with_reducible rfl))
        try simp only [Act.put, List.getElem_toArray, List.getElem_cons_zero, List.getElem_cons_succ, List.setIfInBounds_toArray, List.set_cons_zero, List.set_cons_succ]
        refine wpAnyH_take (i := 21) (v := ?_) rfl (by kernel_rfl) (by kernel_rfl) (by kernel_rfl) (fun _ _ _ h => h) (Or.inl ⟨by rfl, ?_⟩) (by assumption) ?_
        rotate_left
        · (intro w hSw; go_simp; try (with_reducible rfl))
        try simp only [Act.put, List.getElem_toArray, List.getElem_cons_zero, List.getElem_cons_succ, List.setIfInBounds_toArray, List.set_cons_zero, List.set_cons_succ]
        refine wpAnyH_take (i := 22) (v := ?_) rfl (by kernel_rfl) (by kernel_rfl) (by kernel_rfl) (fun _ _ _ h => h) (Or.inl ⟨by rfl, ?_⟩) (by assumption) ?_
        rotate_left
        · (intro w hSw; have hc0 := MP0.out w hSw; go_simp; try (with_reducible rfl))
        try simp only [Act.put, List.getElem_toArray, List.getElem_cons_zero, List.getElem_cons_succ, List.setIfInBounds_toArray, List.set_cons_zero, List.set_cons_succ]
        refine wpAnyH_ready (rs := [20]) (by kernel_rfl) (by simp) ?_
        refine AllReadyH.cons rfl (fun K hK => ?_) AllReadyH.nil
        go_simp
        refine (HKR _ (by assumption)).out.mono ?_
        rintro e wr20 ⟨rfl, hS20⟩
        go_wp2_with fail
        refine hK.out _ _ hS20 (fun hHeld => ?_)
        clear hK K
        try simp only [Act.put, List.getElem_toArray, List.getElem_cons_zero, List.getElem_cons_succ, List.setIfInBounds_toArray, List.set_cons_zero, List.set_cons_succ]
        refine wpAnyH_take (i := 23) (v := ?_) rfl (by kernel_rfl) (by kernel_rfl) (by kernel_rfl) (fun _ _ _ h => h) (Or.inl ⟨by rfl, ?_⟩) (by assumption) ?_
        rotate_left
        · (intro w hSw; go_simp; try (with_reducible rfl))
        try simp only [Act.put, List.getElem_toArray, List.getElem_cons_zero, List.getElem_cons_succ, List.setIfInBounds_toArray, List.set_cons_zero, List.set_cons_succ]
        refine wpAnyH_take (i := 24) (v := ?_) rfl (by kernel_rfl) (by kernel_rfl) (by kernel_rfl) (fun _ _ _ h => h) (Or.inl ⟨by rfl, ?_⟩) (by assumption) ?_
        rotate_left
        · (intro w hSw; go_simp; try (with_reducible rfl))
        try simp only [Act.put, List.getElem_toArray, List.getElem_cons_zero, List.getElem_cons_succ, List.setIfInBounds_toArray, List.set_cons_zero, List.set_cons_succ]
        refine wpAnyH_done (by kernel_rfl) ?_ _
        refine NoPanic.normal ?_
        have HBE := Lib.hid (HSO.out _ hHeld)
        clear hHeld HKL HKR HS0
        go_wp2_with fail
        go_loopw [12] (fun j wx => ∃ jj : Nat, jj ≤ m ∧ j = .int .i64 (jj : Int) ∧ Hid (Below w6.heap.size w6 wx)) (fun j _ => m - (intOf j).toNat)
        case atStart => exact ⟨0, Nat.zero_le _, rfl, HBE⟩
        case round =>
          clear HBE
          obtain ⟨jj, hjj, rfl, HBX⟩ := hrel
          by_cases hjn : jj < m
          · have hdj : decide ((jj : Int) < (m : Int)) = true := decide_eq_true (by omega)
            have hdjn : decide (jj < m) = true := decide_eq_true hjn
            have hj1 : (0 : Int) ≤ (jj : Int) := by omega
            have hj2 : (jj : Int) < (m : Int) := by omega
            have hjp : jj < ps'.length := by rw [HN.out]; exact hjn
            have hjf : jj < (lF ps').length := by rw [lF_len]; exact hjp
            have hjk : jj < ((lE ps').map keyC).length := by rw [List.length_map, lE_len]; exact hjp
            have hke : ((lE ps').map keyC)[jj] = keyC (lF ps')[jj] := keys_tw HST6.out.tw jj hjp hjk hjf
            have HSX : Hid (S wr.drew) := Lib.hid (HSD.out _ HBX.out.drew)
            rcases HST6.out.row.form with ⟨_, h⟩ | ⟨g, cap, e, _, hg, _, _, hr⟩
            · rw [h] at hjf; exact absurd hjf (by simp)
            · injection e with e1 e2 e3
              subst e1
              rcases HK6.out.2 with ⟨_, h⟩ | ⟨gk, capk, ek, _, hgk, _, _, hrk⟩
              · rw [h] at hjk; exact absurd hjk (by simp)
              · injection ek with ek1 ek2 ek3
                subst ek1
                have hce := range_ce hr jj hjf
                have hck := range_at hrk (S := 2) (fun d hd => rfl) jj hjk
                rw [Nat.zero_add] at hce hck
                rw [hke] at hck
                generalize (lF ps')[jj] = ee at *
                have ME0 : Hid (∀ W, S W → W.cell? ⟨g, jj * 4, none⟩ = some (.string ee.s)) := Lib.hid (fun W h => by have := range_belowC hce (HSO.out W h) hg 0 _ rfl; simpa using this)
                have ME1 : Hid (∀ W, S W → W.cell? ⟨g, jj * 4 + 1, none⟩ = some (.int .i64 ee.t)) := Lib.hid (fun W h => by have := range_belowC hce (HSO.out W h) hg 1 _ rfl; simpa using this)
                have MK0 : Hid (∀ W, S W → W.cell? ⟨gk, jj * 2, none⟩ = some (.string ee.s)) := Lib.hid (fun W h => by have := range_belowC hck (HSO.out W h) hgk 0 (Value.string ee.s) rfl; simpa using this)
                have MK1 : Hid (∀ W, S W → W.cell? ⟨gk, jj * 2 + 1, none⟩ = some (.int .i64 ee.t)) := Lib.hid (fun W h => by have := range_belowC hck (HSO.out W h) hgk 1 (Value.int .i64 ee.t) rfl; simpa using this)
                generalize ee.s = en at *
                generalize ee.t = et at *
                clear hce hck hr hrk hke HBX
                go_upto_region 18 with fail
                refine wp_region_noPanic ?_
                refine wp_region_held_drew (S := S) (by kernel_rfl) HSX.out (fun hHeld => ?_)
                refine wpAnyH_take (i := 0) (v := ?_) rfl (by kernel_rfl) (by kernel_rfl) (by kernel_rfl) (fun _ _ _ h => h) (Or.inl ⟨by rfl, ?_⟩) (by assumption) ?_
                rotate_left
                · (intro w hSw; go_simp; try (with_reducible rfl))
                try simp only [Act.put, List.getElem_toArray, List.getElem_cons_zero, List.setIfInBounds_toArray, List.set_cons_zero, List.set_cons_succ]
                refine wpAnyH_take (i := 1) (v := ?_) rfl (by kernel_rfl) (by kernel_rfl) (by kernel_rfl) (fun _ _ _ h => h) (Or.inl ⟨by rfl, ?_⟩) (by assumption) ?_
                rotate_left
                · (intro w hSw; go_simp; try (with_reducible rfl))
                try simp only [Act.put, List.getElem_toArray, List.getElem_cons_zero, List.getElem_cons_succ, List.setIfInBounds_toArray, List.set_cons_zero, List.set_cons_succ]
                refine wpAnyH_take (i := 2) (v := ?_) rfl (by kernel_rfl) (by kernel_rfl) (by kernel_rfl) (fun _ _ _ h => h) (Or.inl ⟨by rfl, ?_⟩) (by assumption) ?_
                rotate_left
                · (intro w hSw; go_simp; try (with_reducible rfl))
                try simp only [Act.put, List.getElem_toArray, List.getElem_cons_zero, List.getElem_cons_succ, List.setIfInBounds_toArray, List.set_cons_zero, List.set_cons_succ]
                refine wpAnyH_take (i := 3) (v := ?_) rfl (by kernel_rfl) (by kernel_rfl) (by kernel_rfl) (fun _ _ _ h => h) (Or.inl ⟨by rfl, ?_⟩) (by assumption) ?_
                rotate_left
                · (intro w hSw; go_simp; try (with_reducible rfl))
                try simp only [Act.put, List.getElem_toArray, List.getElem_cons_zero, List.getElem_cons_succ, List.setIfInBounds_toArray, List.set_cons_zero, List.set_cons_succ]
                refine wpAnyH_take (i := 4) (v := ?_) rfl (by kernel_rfl) (by kernel_rfl) (by kernel_rfl) (fun _ _ _ h => h) (Or.inl ⟨by rfl, ?_⟩) (by assumption) ?_
                rotate_left
                · (intro w hSw; have hc0 := MK0.out w hSw; go_simp; try (with_reducible rfl))
                try simp only [Act.put, List.getElem_toArray, List.getElem_cons_zero, List.getElem_cons_succ, List.setIfInBounds_toArray, List.set_cons_zero, List.set_cons_succ]
                refine wpAnyH_take (i := 5) (v := ?_) rfl (by kernel_rfl) (by kernel_rfl) (by kernel_rfl) (fun _ _ _ h => h) (Or.inl ⟨by rfl, ?_⟩) (by assumption) ?_
                rotate_left
                · (intro w hSw; go_simp; try (with_reducible rfl))
                try simp only [Act.put, List.getElem_toArray, List.getElem_cons_zero, List.getElem_cons_succ, List.setIfInBounds_toArray, List.set_cons_zero, List.set_cons_succ]
                refine wpAnyH_take (i := 6) (v := ?_) rfl (by kernel_rfl) (by kernel_rfl) (by kernel_rfl) (fun _ _ _ h => h) (Or.inl ⟨by rfl, ?_⟩) (by assumption) ?_
                rotate_left
                · (intro w hSw; have hc0 := MP1.out w hSw; go_simp; try (with_reducible rfl))
                try simp only [Act.put, List.getElem_toArray, List.getElem_cons_zero, List.getElem_cons_succ, List.setIfInBounds_toArray, List.set_cons_zero, List.set_cons_succ]
                refine wpAnyH_take (i := 7) (v := ?_) rfl (by kernel_rfl) (by kernel_rfl) (by kernel_rfl) (fun _ _ _ h => h) (Or.inl ⟨by rfl, ?_⟩) (by assumption) ?_
                rotate_left
                · (intro w hSw; go_simp; try (with_reducible rfl))
                try simp only [Act.put, List.getElem_toArray, List.getElem_cons_zero, List.getElem_cons_succ, List.setIfInBounds_toArray, List.set_cons_zero, List.set_cons_succ]
                refine wpAnyH_take (i := 8) (v := ?_) rfl (by kernel_rfl) (by kernel_rfl) (by kernel_rfl) (fun _ _ _ h => h) (Or.inl ⟨by rfl, ?_⟩) (by assumption) ?_
                rotate_left
                · (intro w hSw; go_simp; try (with_reducible rfl))
                try simp only [Act.put, List.getElem_toArray, List.getElem_cons_zero, List.getElem_cons_succ, List.setIfInBounds_toArray, List.set_cons_zero, List.set_cons_succ]
                refine wpAnyH_take (i := 9) (v := ?_) rfl (by kernel_rfl) (by kernel_rfl) (by kernel_rfl) (fun _ _ _ h => h) (Or.inl ⟨by rfl, ?_⟩) (by assumption) ?_
                rotate_left
                · (intro w hSw; go_simp; try (with_reducible rfl))
                try simp only [Act.put, List.getElem_toArray, List.getElem_cons_zero, List.getElem_cons_succ, List.setIfInBounds_toArray, List.set_cons_zero, List.set_cons_succ]
                refine wpAnyH_take (i := 10) (v := ?_) rfl (by kernel_rfl) (by kernel_rfl) (by kernel_rfl) (fun _ _ _ h => h) (Or.inl ⟨by rfl, ?_⟩) (by assumption) ?_
                rotate_left
                · (intro w hSw; have hc0 := ME0.out w hSw; go_simp; try (with_reducible rfl))
                try simp only [Act.put, List.getElem_toArray, List.getElem_cons_zero, List.getElem_cons_succ, List.setIfInBounds_toArray, List.set_cons_zero, List.set_cons_succ]
                refine wpAnyH_take (i := 11) (v := ?_) rfl (by kernel_rfl) (by kernel_rfl) (by kernel_rfl) (fun _ _ _ h => h) (Or.inl ⟨by rfl, ?_⟩) (by assumption) ?_
                rotate_left
                · (intro w hSw; go_simp; try (with_reducible rfl))
                try simp only [Act.put, List.getElem_toArray, List.getElem_cons_zero, List.getElem_cons_succ, List.setIfInBounds_toArray, List.set_cons_zero, List.set_cons_succ]
                refine wpAnyH_take (i := 12) (v := ?_) rfl (by kernel_rfl) (by kernel_rfl) (by kernel_rfl) (fun _ _ _ h => h) (Or.inl ⟨by rfl, ?_⟩) (by assumption) ?_
                rotate_left
                · (intro w hSw; go_simp; try (with_reducible rfl))
                try simp only [Act.put, List.getElem_toArray, List.getElem_cons_zero, List.getElem_cons_succ, List.setIfInBounds_toArray, List.set_cons_zero, List.set_cons_succ]
                refine wpAnyH_take (i := 13) (v := ?_) rfl (by kernel_rfl) (by kernel_rfl) (by kernel_rfl) (fun _ _ _ h => h) (Or.inl ⟨by rfl, ?_⟩) (by assumption) ?_
                rotate_left
                · (intro w hSw; go_simp; try (with_reducible rfl))
                try simp only [Act.put, List.getElem_toArray, List.getElem_cons_zero, List.getElem_cons_succ, List.setIfInBounds_toArray, List.set_cons_zero, List.set_cons_succ]
                refine wpAnyH_take (i := 14) (v := ?_) rfl (by kernel_rfl) (by kernel_rfl) (by kernel_rfl) (fun _ _ _ h => h) (Or.inl ⟨by rfl, ?_⟩) (by assumption) ?_
                rotate_left
                · (intro w hSw; go_simp; try (with_reducible rfl))
                try simp only [Act.put, List.getElem_toArray, List.getElem_cons_zero, List.getElem_cons_succ, List.setIfInBounds_toArray, List.set_cons_zero, List.set_cons_succ]
                refine wpAnyH_take (i := 15) (v := ?_) rfl (by kernel_rfl) (by kernel_rfl) (by kernel_rfl) (fun _ _ _ h => h) (Or.inl ⟨by rfl, ?_⟩) (by assumption) ?_
                rotate_left
                · (intro w hSw; go_simp; try (with_reducible rfl))
                try simp only [Act.put, List.getElem_toArray, List.getElem_cons_zero, List.getElem_cons_succ, List.setIfInBounds_toArray, List.set_cons_zero, List.set_cons_succ]
                refine wpAnyH_take (i := 16) (v := ?_) rfl (by kernel_rfl) (by kernel_rfl) (by kernel_rfl) (fun _ _ _ h => h) (Or.inl ⟨by rfl, ?_⟩) (by assumption) ?_
                rotate_left
                · (intro w hSw; go_simp; try (with_reducible rfl))
                try simp only [Act.put, List.getElem_toArray, List.getElem_cons_zero, List.getElem_cons_succ, List.setIfInBounds_toArray, List.set_cons_zero, List.set_cons_succ]
                refine wpAnyH_take (i := 17) (v := ?_) rfl (by kernel_rfl) (by kernel_rfl) (by kernel_rfl) (fun _ _ _ h => h) (Or.inl ⟨by rfl, ?_⟩) (by assumption) ?_
                rotate_left
                · (intro w hSw; have hc0 := MK1.out w hSw; go_simp; try (with_reducible rfl))
                try simp only [Act.put, List.getElem_toArray, List.getElem_cons_zero, List.getElem_cons_succ, List.setIfInBounds_toArray, List.set_cons_zero, List.set_cons_succ]
                refine wpAnyH_take (i := 18) (v := ?_) rfl (by kernel_rfl) (by kernel_rfl) (by kernel_rfl) (fun _ _ _ h => h) (Or.inl ⟨by rfl, ?_⟩) (by assumption) ?_
                rotate_left
                · (intro w hSw; go_simp; try (with_reducible rfl))
                try simp only [Act.put, List.getElem_toArray, List.getElem_cons_zero, List.getElem_cons_succ, List.setIfInBounds_toArray, List.set_cons_zero, List.set_cons_succ]
                refine wpAnyH_take (i := 19) (v := ?_) rfl (by kernel_rfl) (by kernel_rfl) (by kernel_rfl) (fun _ _ _ h => h) (Or.inl ⟨by rfl, ?_⟩) (by assumption) ?_
                rotate_left
                · (intro w hSw; have hc0 := MP1.out w hSw; go_simp; try (with_reducible rfl))
                try simp only [Act.put, List.getElem_toArray, List.getElem_cons_zero, List.getElem_cons_succ, List.setIfInBounds_toArray, List.set_cons_zero, List.set_cons_succ]
                refine wpAnyH_take (i := 20) (v := ?_) rfl (by kernel_rfl) (by kernel_rfl) (by kernel_rfl) (fun _ _ _ h => h) (Or.inl ⟨by rfl, ?_⟩) (by assumption) ?_
                rotate_left
                · (intro w hSw; go_simp; try (with_reducible rfl))
                try simp only [Act.put, List.getElem_toArray, List.getElem_cons_zero, List.getElem_cons_succ, List.setIfInBounds_toArray, List.set_cons_zero, List.set_cons_succ]
                refine wpAnyH_take (i := 21) (v := ?_) rfl (by kernel_rfl) (by kernel_rfl) (by kernel_rfl) (fun _ _ _ h => h) (Or.inl ⟨by rfl, ?_⟩) (by assumption) ?_
                rotate_left
                · (intro w hSw; go_simp; try (with_reducible rfl))
                try simp only [Act.put, List.getElem_toArray, List.getElem_cons_zero, List.getElem_cons_succ, List.setIfInBounds_toArray, List.set_cons_zero, List.set_cons_succ]
                refine wpAnyH_take (i := 22) (v := ?_) rfl (by kernel_rfl) (by kernel_rfl) (by kernel_rfl) (fun _ _ _ h => h) (Or.inl ⟨by rfl, ?_⟩) (by assumption) ?_
                rotate_left
                · (intro w hSw; go_simp; try (with_reducible rfl))
                try simp only [Act.put, List.getElem_toArray, List.getElem_cons_zero, List.getElem_cons_succ, List.setIfInBounds_toArray, List.set_cons_zero, List.set_cons_succ]
                refine wpAnyH_take (i := 23) (v := ?_) rfl (by kernel_rfl) (by kernel_rfl) (by kernel_rfl) (fun _ _ _ h => h) (Or.inl ⟨by rfl, ?_⟩) (by assumption) ?_
                rotate_left
                · (intro w hSw; have hc0 := ME1.out w hSw; go_simp; try (with_reducible rfl))
                try simp only [Act.put, List.getElem_toArray, List.getElem_cons_zero, List.getElem_cons_succ, List.setIfInBounds_toArray, List.set_cons_zero, List.set_cons_succ]
                refine wpAnyH_take (i := 24) (v := ?_) rfl (by kernel_rfl) (by kernel_rfl) (by kernel_rfl) (fun _ _ _ h => h) (Or.inl ⟨by rfl, ?_⟩) (by assumption) ?_
                rotate_left
                · (intro w hSw; go_simp; try (with_reducible rfl))
                try simp only [Act.put, List.getElem_toArray, List.getElem_cons_zero, List.getElem_cons_succ, List.setIfInBounds_toArray, List.set_cons_zero, List.set_cons_succ]
                refine wpAnyH_take (i := 25) (v := ?_) rfl (by kernel_rfl) (by kernel_rfl) (by kernel_rfl) (fun _ _ _ h => h) (Or.inl ⟨by rfl, ?_⟩) (by assumption) ?_
                rotate_left
                · (intro w hSw; go_simp; try (with_reducible rfl))
                try simp only [Act.put, List.getElem_toArray, List.getElem_cons_zero, List.getElem_cons_succ, List.setIfInBounds_toArray, List.set_cons_zero, List.set_cons_succ]
                refine wpAnyH_done (by kernel_rfl) ?_ _
                refine NoPanic.normal ?_
                have HFX := Lib.hid (HSO.out _ hHeld)
                clear hHeld
                go_wp2_with fail
                go_roundw
                case rel => exact ⟨jj + 1, by omega, by go_num, HFX⟩
                case measure => simp [intOf]; omega
          · obtain rfl : jj = m := by omega
            have hdj : decide ((jj : Int) < (jj : Int)) = false := by simp
            have HST7 := Lib.hid (HST6.out.below HBX.out)
            have HP7 := Lib.hid (HP6.out.below HBX.out)
            have HT7 := Lib.hid (HT6.out.below HBX.out)
            have HB7 := Lib.hid (chain HB6.out HBX.out)
            clear HBX HK6 HST6 HP6 HT6 HB6 MP0 MP1 HSO HSD
            go_wp2_with fail
            go_roundw
            case rel => exact ⟨k + 1, ps', .slice ad jj c, q, by omega, by omega, by go_num, rfl, by omega, HST7, HP7, HT7, HB7⟩
            case measure => simp [intOf]; omega
    · by_cases h : k < len
      · have hd : decide ((k : Int) < (len : Int)) = true := decide_eq_true (by omega)
        have hdn : decide (k < len) = true := decide_eq_true h
        have hd7 : decide ((k : Int) < 50) = false := decide_eq_false (fun h2 => hkn ⟨h, by omega⟩)
        have hd7n : decide (k < 50) = false := decide_eq_false (fun h2 => hkn ⟨h, h2⟩)
        clear HST HP HT2
        go_wp2_with fail
        refine (HLV _).out.mono ?_
        rintro e w5 ⟨rfl, hb5⟩
        have HB5 := Lib.hid (chain HB.out hb5)
        clear hb5 HLV
        go_wp2_with fail
        go_ret
        exact ⟨rfl, HB5.out⟩
      · have hd : decide ((k : Int) < (len : Int)) = false := decide_eq_false (by omega)
        have hdn : decide (k < len) = false := decide_eq_false h
        clear HST HP HT2
        go_wp2_with fail
        refine (HLV _).out.mono ?_
        rintro e w5 ⟨rfl, hb5⟩
        have HB5 := Lib.hid (chain HB.out hb5)
        clear hb5 HLV
        go_wp2_with fail
        go_ret
        exact ⟨rfl, HB5.out⟩

set_option maxRecDepth 100000 in
theorem lifted (os : Os) (started : os.Started) (H : Type) (enc : TypeId × Value → H) :
    ReturnsInHanded {} Try.checked os 3 .any (Rows.cachePlaysSpec.pre6 enc Try.prog Try.f3 Rows.cachePlaysRow.domain false) (Rows.cachePlaysSpec.post enc Try.prog Try.f3 false true false false) := by
  refine returnsInHanded_of_change (C := Try.checked) own started (by kernel_rfl) Try.func3
    (ChangeSpec.witness6 (enc := enc) (C := Try.checked) false ⟨#[], #[.int .i64 0, .slice none 0 0], []⟩ 8 (by kernel_rfl) (by kernel_rfl) (by kernel_rfl) (by kernel_rfl)) ?_
  intro W base args ds gs before hval0 hW hcnd _
  have hval : ∀ (j : Nat) t v, Try.f3.params[j]? = some t → args[j]? = some v → Value.okWide Try.prog W .any base t v := hval0
  have hW' := hW
  obtain ⟨p, q, hA0, hV, rfl, hfz, hnd⟩ := hW
  have hA : DataW.TrodAll enc Try.prog W 0 (fun _ => true) true Try.f3.params.toList args.toList ds p := hA0
  rw [Try.params3] at hA hval
  obtain ⟨v0, vs0, d0, ds0, p0, q0, hargs, rfl, rfl, h0, r0⟩ := trodAll_cons hA
  obtain ⟨v1, vs1, d1, ds1, p1, q1, rfl, rfl, rfl, h1, r1⟩ := trodAll_cons r0
  obtain ⟨rfl, rfl, rfl⟩ := trodAll_nil r1
  obtain rfl : args = #[v0, v1] := by cases args; simp_all
  obtain ⟨rfl, rfl⟩ := trodVars_none hV
  obtain ⟨a0, rfl, rfl, rfl, w0⟩ := open_int Try.underlying3 (hval 0 3 v0 rfl rfl) h0
  obtain ⟨a1, len1, cap1, rfl⟩ := okWide_slice Try.underlying22 (hval 1 22 v1 rfl rfl)
  have k1 := h1
  have lt1 : ∀ x ∈ p1, x.block < W.heap.size := by obtain ⟨m, hm⟩ := k1; exact DataW.trod_lt m _ _ _ hm
  obtain ⟨z1, w1⟩ := open_deeds10 h1
  clear hA0 hval0
  refine (walk a0 a1 len1 cap1 z1 W w0 w1).mono fun e W' ⟨he, bel⟩ => ?_
  subst he
  exact ⟨_, rfl, _, _, _, [], _, [], hW', trodAll_mk1 (shut_bool Try.underlying4 _), (trodAll_cons_mk (shut_int Try.underlying3 w0) (trodAll_cons_mk (Below.trod laidOut (by kernel_rfl) (of_decide_eq_true (by kernel_rfl)) k1 bel lt1) trodAll_mk0)), rfl, bel.frame _, fun h => by cases h⟩

theorem over : Rows.cachePlaysRow.holds Try.pinned (OpenSpec.ofChange Rows.cachePlaysSpec) :=
  OpenClaim.holds_of_wide 3 Try.f3 rfl rfl rfl rfl rfl rfl rfl ⟨rfl, rfl, rfl, rfl, rfl⟩ rfl rfl rfl rfl rfl (by kernel_rfl) Try.func3 (by kernel_rfl)
    (of_decide_eq_true (by kernel_rfl)) (by unfold Func.isWrapper; first | (rw [if_pos (by decide +kernel)]; kernel_rfl) | (rw [if_neg (by decide +kernel)]; exact ⟨rfl, rfl⟩))
    (fun os started H enc _ => lifted os started H enc)


theorem proved : Rows.CachePlaysSaid := over
#print axioms proved
end Go.Proofs.Ytjmmedpkcedngaa.cachePlays

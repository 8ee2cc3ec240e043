/- For every prefix and address (made such as may be) and every space: a prefix that is added to the empty map is of its space, where it has the address; what is out of it stays as it was in the map that is told first; true is answered, and what came in stays. -/
import Derived.Test.YtgbajagacmfcmaaDoorB10
import Derived.Test.YtgbajagacmfcmaaDoorTie
import Derived.Test.YtgbajagacmfcmaaDoorCards
import Derived.ProofKit
import Derived.OpenShut
import Derived.ShutString
import Derived.ChangeOld
import Derived.Below
namespace Go.Proofs.YtgbajagacmfcmaaDoor.spaceAdds
open Go.ChangeShapes Go.WideShapes Go.ChangeAt Go.RowKit
open Go.ChangeMaps (open_string shut_string)
set_option linter.unusedVariables false
set_option maxRecDepth 20000

theorem own : ownKnob Tryd.prog.godebug = none := by kernel_rfl

set_option maxRecDepth 100000 in
set_option maxHeartbeats 4000000 in
theorem walk (f0 : Int) (z0 : List Nat) (n0 : Int) (x : Int) (f2 : Int) (z2 : List Nat) (fw0 : (Lit.int .i64 f0).wf = true) (l0 : z0.length = 16) (w0 : ∀ x ∈ z0, x < 256) (nw0 : (Lit.int .i64 n0).wf = true) (xw : (Lit.int .i64 x).wf = true) (fw2 : (Lit.int .i64 f2).wf = true) (l2 : z2.length = 16) (w2 : ∀ x ∈ z2, x < 256) (w : World) (ht : Tabs w) :
    Calls Tryd.prog 7 #[prefV f0 z0 n0, .int .i64 x, addrV f2 z2] w fun e w' => e = .returned (.bool true) ∧ Below w.heap.size w w' := by
  have HTB := Lib.hid ht
  have hp := goodP_is f0 z0 n0
  have hu := good_is f2 z2 l2 w2
  have HG0 := fun W => Lib.hid (refGoodP_any f0 z0 n0 W l0 w0 nw0)
  have HG1 := fun W => Lib.hid (refGood_any f2 z2 W l2 w2)
  generalize goodF f0 = F at *
  generalize goodP f0 z0 n0 = P at *
  generalize goodN f0 n0 = n at *
  generalize goodF f2 = Gf at *
  generalize goodB f2 z2 = U at *
  have hN := bitsN_le F
  have hn := hp.le
  have HLP := Lib.hid hp.len
  have HLU := Lib.hid hu.len
  have hs3 := aroundN_lt x 3 (by decide)
  have HAR := fun W => Lib.hid (around_any x 3 W xw (by decide) (by decide))
  generalize aroundN x 3 = s at *
  have HLV := fun W (h : Tabs W) => Lib.hid (lives7_any W h)
  have HDE := fun W (h : Tabs W) => Lib.hid (default_any W h)
  have HNW := fun W => Lib.hid (mapNew_nil none 0 W)
  have hisp : isSp (s : Int) = true := by unfold isSp; simp; omega
  have hac : addC F P (n : Int) (s : Int) = 0 := by rw [(addE_in [] F P (n : Int) (s : Int) hisp).2, if_pos hp.may]
  have he1 : addE [] F P (n : Int) (s : Int) = [⟨F, P, n, (s : Int)⟩] := by rw [(addE_in [] F P (n : Int) (s : Int) hisp).1, setE_nil _ _ _ _ hp.may, Int.toNat_natCast]
  have hdl : (defE 11).length ≤ 11 := defE_len 11
  have hal := addE_len (defE 11) F P (n : Int) (s : Int)
  have HA1 := fun W G Fs h => Lib.hid (mapAdd_any G [] 0 Fs F P (n : Int) (s : Int) W h hp.len hp.lt (wf_small (by omega)) (wf_small (by omega)) (by decide))
  have HA2 := fun W G st Fs h => Lib.hid (mapAdd_any G (defE 11) st Fs F P (n : Int) (s : Int) W h hp.len hp.lt (wf_small (by omega)) (wf_small (by omega)) (by omega))
  rw [hac, he1] at HA1
  rw [hac] at HA2
  have hul := unmap_len Gf U hu.len hu.lt
  have HUM := fun W => Lib.hid (refUnmap_any Gf U W hu.len hu.lt)
  have HOD := fun W G Fs h => Lib.hid (mapOf_few G (defE 11) 0 Fs Gf U W h hu.len hu.lt (by decide) (by decide) (by omega))
  have HO1 := fun W G st Fs h h0 h1 => Lib.hid (mapOf_few G [⟨F, P, n, (s : Int)⟩] st Fs Gf U W h hu.len hu.lt h0 h1 (by simp))
  have HO2 := fun W G st Fs h h0 h1 => Lib.hid (mapOf_few G (addE (defE 11) F P (n : Int) (s : Int)) st Fs Gf U W h hu.len hu.lt h0 h1 (by omega))
  have HLN := fun W G st Fs h => Lib.hid (mapLen_any G [⟨F, P, n, (s : Int)⟩] st Fs W h)
  rw [show (([⟨F, P, n, (s : Int)⟩] : List Ent).length : Int) = 1 from rfl] at HLN
  have HHA := fun W => Lib.hid (refHas_any F P n Gf U W hp.len hu.len hp.lt hu.lt (by omega))
  have HW1 : Hid (ofE [⟨F, P, n, (s : Int)⟩] Gf U = if hasB F P n Gf U = true then (s : Int) else 2) := Lib.hid (by
    unfold ofE
    rw [findE_one]
    show (match (if hasB F P n Gf U = true then some (⟨F, P, n, (s : Int)⟩ : Ent) else none) with | none => 2 | some e => e.v) = _
    cases hasB F P n Gf U <;> rfl)
  have HW2 : Hid (hasB F P n Gf U = false → ofE (addE (defE 11) F P (n : Int) (s : Int)) Gf U = ofE (defE 11) Gf U) := Lib.hid (fun h => by
    unfold ofE
    rw [(addE_in (defE 11) F P (n : Int) (s : Int) hisp).1, findE_off (defE 11) F P (n : Int) (s : Int) Gf U (by rw [Int.toNat_natCast]; exact h)])
  generalize hasB F P n Gf U = b at *
  have gd := guard_addr
  have q1 := fun W => run_neq_addr (unmapF Gf U) Gf (unmapB Gf U) U W hul.1 hu.len
  obtain ⟨cs, ds, ecs, eds, H1, H2, HB⟩ := pref_addr_boxed f0 z0 n0 f2 z2 w l0 l2
  rw [ecs, eds]
  clear ecs eds l0 w0 l2 w2 hp hu ht nw0 fw0 fw2 xw hisp hac he1 hul
  generalize defE 11 = D at *
  generalize addE D F P (n : Int) (s : Int) = D2 at *
  generalize ([⟨F, P, n, (s : Int)⟩] : List Ent) = D1 at *
  generalize unmapF Gf U = UF at *
  generalize unmapB Gf U = UB at *
  obtain ⟨WAS, hWAS⟩ : ∃ y, ofE D UF UB = y := ⟨_, rfl⟩
  rw [hWAS] at HOD
  have HWA := Lib.hid hWAS
  clear hWAS
  go_enter Tryd.func7, Tryd.ntmps7
  go_upto_region 1 with fail
  generalize ((w.alloc (.cells cs 27)).alloc (.cells ds 25)) = W at *
  go_wp2_with (refine load_pref_g H1 _ rfl rfl rfl ?_)
  refine (HG0 _).out.mono ?_
  rintro e w1 ⟨rfl, hb1⟩
  replace H1 := Lib.hid (H1.out.below hb1)
  replace H2 := Lib.hid (H2.out.below hb1)
  replace HB := Lib.hid (chain HB.out hb1)
  clear hb1 HG0
  go_upto_region 2 with (refine store_pref H1 _ _ HLP rfl rfl rfl rfl (fun W1 HWW1 H1n => ?_))
  replace H2 := Lib.hid (show AddrAt W1 (w.heap.size + 1) f2 z2 by rw [HWW1.out]; exact H2.out.apart (by omega) _)
  replace HB := Lib.hid (show Below w.heap.size w W1 by rw [HWW1.out]; exact below_cells (by omega) _ _ _ HB.out)
  clear HWW1 H1
  go_wp2_with (refine load_addr_g H2 _ rfl rfl rfl ?_)
  refine (HG1 _).out.mono ?_
  rintro e w2 ⟨rfl, hb2⟩
  replace H1n := Lib.hid (H1n.out.below hb2)
  replace H2 := Lib.hid (H2.out.below hb2)
  replace HB := Lib.hid (chain HB.out hb2)
  clear hb2 HG1
  go_upto_region 3 with (refine store_addr H2 _ _ HLU rfl rfl rfl rfl (fun W2 HWW2 H2n => ?_))
  have H1 := Lib.hid (show PrefAt W2 w.heap.size F P (n : Int) by rw [HWW2.out]; exact H1n.out.apart (by omega) _)
  replace HB := Lib.hid (show Below w.heap.size w W2 by rw [HWW2.out]; exact below_cells (by omega) _ _ _ HB.out)
  replace H2 := H2n
  clear HWW2 H1n H2n
  go_wp2_with fail
  refine (HAR _).out.mono ?_
  rintro e w3 ⟨rfl, rfl⟩
  clear HAR
  go_wp2_with fail
  refine (HNW _).out.mono ?_
  rintro e V1 ⟨G1, F1, rfl, hT1, hF1, hb1⟩
  have HT1 := Lib.hid hT1
  have HL1 : Hid (w.heap.size + 1 < G1) := Lib.hid (by have := hF1 G1 hT1.lt.1; have := H2.out.lt; omega)
  have HM1 : Hid (∀ k ∈ F1, w.heap.size + 1 < k) := Lib.hid (fun k hk => by have := hF1 k hk; have := H2.out.lt; omega)
  replace H1 := Lib.hid (H1.out.below hb1)
  replace H2 := Lib.hid (H2.out.below hb1)
  replace HB := Lib.hid (chain HB.out hb1)
  clear hT1 hF1 hb1 HNW
  go_wp2_with fail
  refine (HDE _ (HTB.out.below HB.out)).out.mono ?_
  rintro e V2 ⟨G2, F2, rfl, hT2, hF2, hb2⟩
  have HT2 := Lib.hid hT2
  have HL2 : Hid (w.heap.size + 1 < G2) := Lib.hid (by have := hF2 G2 hT2.lt.1; have := H2.out.lt; omega)
  have HM2 : Hid (∀ k ∈ F2, w.heap.size + 1 < k) := Lib.hid (fun k hk => by have := hF2 k hk; have := H2.out.lt; omega)
  have HDJ0 : Hid (∀ k ∈ F2, k ∉ F1) := Lib.hid (fun k hk hk1 => by have := hF2 k hk; have := HT1.out.lt.2 k hk1; omega)
  replace H1 := Lib.hid (H1.out.below hb2)
  replace H2 := Lib.hid (H2.out.below hb2)
  replace HB := Lib.hid (chain HB.out hb2)
  replace HT1 := Lib.hid (HT1.out.below hb2)
  clear hT2 hF2 hb2 HDE
  go_wp2_with (refine load_addr_g H2 _ rfl rfl rfl ?_)
  refine (HOD _ G2 F2 HT2.out).out.mono ?_
  rintro e V3 ⟨rfl, ⟨st2, hT2, hs2, hs2b⟩, hf2⟩
  replace hs2 := And.intro hs2 hs2b
  have HG2i : Hid (G2 ∈ F2) := Lib.hid HT2.out.lt.1
  replace HT1 := Lib.hid (HT1.out.keep hf2.size (fun k hk => hf2.keep k (HT1.out.lt.2 k hk) (fun e => HDJ0.out G2 HG2i.out (by rw [← List.mem_singleton.1 e]; exact hk))))
  replace HT2 := Lib.hid hT2
  replace HB := Lib.hid (HB.out.trans (hf2.below (B := w.heap.size) (by have := HL2.out; simp; omega) HB.out.size))
  replace H1 := Lib.hid (H1.out.foot hf2 (by have := HL2.out; simp; omega))
  replace H2 := Lib.hid (H2.out.foot7 hf2 (by have := HL2.out; simp; omega))
  clear hT2 hf2 HOD hs2b
  go_wp2_with (refine load_pref_g H1 _ rfl rfl rfl ?_)
  refine (HA1 _ G1 F1 HT1.out).out.mono ?_
  rintro e V5 ⟨rfl, F1b, hT1, hf1⟩
  have HDJ : Hid (∀ k ∈ F2, k ∉ F1b) := Lib.hid (fun k hk h => by
    rcases hf1.new k h with e | e
    · exact HDJ0.out k hk e
    · have := HT2.out.lt.2 k hk; omega)
  have HG1 : Hid (G1 ∈ F1b) := Lib.hid hT1.lt.1
  have HM1b : Hid (∀ k ∈ F1b, w.heap.size + 1 < k) := Lib.hid (fun k hk => by
    rcases hf1.new k hk with e | e
    · exact HM1.out k e
    · have := HB.out.size; have := H2.out.lt; omega)
  replace HT2 := Lib.hid (HT2.out.keep hf1.size (fun k hk => hf1.keep k (HT2.out.lt.2 k hk) (HDJ0.out k hk)))
  replace HB := Lib.hid (HB.out.trans (hf1.below (B := w.heap.size) (fun k hk => by have := HM1.out k hk; omega) HB.out.size))
  replace H1 := Lib.hid (H1.out.foot hf1 (fun e => by have := HM1.out _ e; omega))
  replace H2 := Lib.hid (H2.out.foot7 hf1 (fun e => by have := HM1.out _ e; omega))
  replace HT1 := Lib.hid hT1
  clear hT1 hf1 HA1 HDJ0 HM1
  go_wp2_with (refine load_pref_g H1 _ rfl rfl rfl ?_)
  refine (HA2 _ G2 st2 F2 HT2.out).out.mono ?_
  rintro e V4 ⟨rfl, F2b, hT2, hf2⟩
  have HTL := Lib.hid HT1.out.lt.2
  replace HT1 := Lib.hid (HT1.out.keep hf2.size (fun k hk => hf2.keep k (HT1.out.lt.2 k hk) (fun e => HDJ.out k e hk)))
  replace HDJ : Hid (∀ k ∈ F2b, k ∉ F1b) := Lib.hid (fun k hk h => by
    rcases hf2.new k hk with e | e
    · exact HDJ.out k e h
    · have h5 : k < V5.heap.size := by have h6 := HTL.out k h; exact h6
      omega)
  replace HB := Lib.hid (HB.out.trans (hf2.below (B := w.heap.size) (fun k hk => by have := HM2.out k hk; omega) HB.out.size))
  replace H1 := Lib.hid (H1.out.foot hf2 (fun e => by have := HM2.out _ e; omega))
  replace H2 := Lib.hid (H2.out.foot7 hf2 (fun e => by have := HM2.out _ e; omega))
  replace HT2 := Lib.hid hT2
  clear hT2 hf2 HA2 HM2
  by_cases hsame : UF = Gf ∧ UB = U
  · obtain ⟨rfl, rfl⟩ := hsame
    have q2 : ∀ W, (binOp .neq 25 (addrV UF UB) (addrV UF UB)).run Tryd.prog W = .ok (.bool false) W := fun W => by rw [q1 W]; simp
    clear q1
    rw [HW1.out] at HO1
    clear HW1
    go_wp2_with fail
    obtain ⟨L, hL⟩ : ∃ L, [(w.heap.size + 1, 0, addrL UF UB)] = L := ⟨_, rfl⟩
    have HK : Hid (HeldL L V4.drew) := Lib.hid (by rw [← hL]; intro y hy; rw [List.mem_singleton.1 hy]; exact H2.out.range)
    have MA : Hid (InL L (w.heap.size + 1) 0 (addrL UF UB)) := Lib.hid (fun W h => h.get (by rw [← hL]; simp))
    have HLD : Hid (∀ y ∈ L, y.1 < V4.drew.heap.size) := Lib.hid (by rw [← hL]; intro y hy; rw [List.mem_singleton.1 hy]; exact H2.out.lt)
    clear hL
    refine wp_region_noPanic ?_
    refine wp_region_held_drew (S := HeldL L) (by kernel_rfl) HK.out (fun hHeld => ?_)
    refine wpAnyH_take (i := 0) rfl (by kernel_rfl) (by kernel_rfl) (by kernel_rfl) (fun _ _ _ h => h) (yields_addr_l HLU MA (by rfl) _ rfl rfl) (by assumption) ?_
    try simp only [Act.put, List.getElem_toArray, List.getElem_cons_zero, List.setIfInBounds_toArray, List.set_cons_zero, List.set_cons_succ]
    refine wpAnyH_take (i := 2) rfl (by kernel_rfl) (by kernel_rfl) (by kernel_rfl) (fun _ _ _ h => h) (yields_addr_l HLU MA (by rfl) _ rfl rfl) (by assumption) ?_
    try simp only [Act.put, List.getElem_toArray, List.getElem_cons_zero, List.getElem_cons_succ, List.setIfInBounds_toArray, List.set_cons_zero, List.set_cons_succ]
    refine wpAnyH_ready (rs := [1]) (by kernel_rfl) (by simp) ?_
    refine AllReadyH.cons rfl (fun K hK => ?_) AllReadyH.nil
    go_simp
    refine (HUM V4.drew).out.mono ?_
    rintro e V6 ⟨rfl, hb6⟩
    have hb6' : Below V4.heap.size V4 V6 := (Below.refl _ _).drew.trans hb6
    have HB6 := Lib.hid (chain HB.out hb6')
    have H26 := Lib.hid (H2.out.below hb6')
    have H16 := Lib.hid (H1.out.below hb6')
    have HT16 := Lib.hid (HT1.out.below hb6')
    have HT26 := Lib.hid (HT2.out.below hb6')
    have hS6 := HeldL.below HK.out hb6 HLD.out
    clear hb6 hb6' HUM HB H2 H1 HT1 HT2
    go_wp2_with fail
    refine hK.out _ _ hS6 (fun hHeld => ?_)
    clear hK K
    try simp only [Act.put, List.getElem_toArray, List.getElem_cons_zero, List.getElem_cons_succ, List.setIfInBounds_toArray, List.set_cons_zero, List.set_cons_succ]
    refine wpAnyH_take (i := 3) (v := ?_) rfl (by kernel_rfl) (by kernel_rfl) (by kernel_rfl) (fun _ _ _ h => h) (Or.inl ⟨by rfl, ?_⟩) (by assumption) ?_
    rotate_left
    · (intro w hSw; go_simp; try (with_reducible rfl))
    try simp only [Act.put, List.getElem_toArray, List.getElem_cons_zero, List.getElem_cons_succ, List.setIfInBounds_toArray, List.set_cons_zero, List.set_cons_succ]
    refine wpAnyH_done (by kernel_rfl) ?_ _
    refine NoPanic.normal ?_
    rename Hid (AddrAt V6 (w.heap.size + 1) UF UB) => H2
    rename Hid (PrefAt V6 w.heap.size F P (n : Int)) => H1
    rename Hid (TabAt V6 G1 D1 0 F1b) => HT1
    rename Hid (TabAt V6 G2 D2 st2 F2b) => HT2
    rename Hid (Below w.heap.size w V6) => HB
    go_wp2_with (first | refine load_pref_g H1 _ rfl rfl rfl ?_ | refine load_addr_g H2 _ rfl rfl rfl ?_)
    refine (HHA _).out.mono ?_
    rintro e V6b ⟨rfl, hb6⟩
    replace H2 := Lib.hid (H2.out.below hb6)
    replace HT1 := Lib.hid (HT1.out.below hb6)
    replace HT2 := Lib.hid (HT2.out.below hb6)
    replace HB := Lib.hid (chain HB.out hb6)
    clear hb6 HHA H1
    cases b with
    | true =>
      rw [if_pos rfl] at HO1
      clear HO2 HW2
      go_wp2_with (refine load_addr_g H2 _ rfl rfl rfl ?_)
      refine (HO1 _ G1 0 F1b HT1.out (by decide) (by decide)).out.mono ?_
      rintro e V7 ⟨rfl, ⟨st7, hT7, hs7, hs7b⟩, hf7⟩
      have HT1 := Lib.hid hT7
      replace HT2 := Lib.hid (HT2.out.keep hf7.size (fun k hk => hf7.keep k (HT2.out.lt.2 k hk) (fun e => HDJ.out k hk (by rw [List.mem_singleton.1 e]; exact HG1.out))))
      replace HB := Lib.hid (HB.out.trans (hf7.below (B := w.heap.size) (by have := HL1.out; simp; omega) HB.out.size))
      replace H2 := Lib.hid (H2.out.foot7 hf7 (by have := HL1.out; simp; omega))
      clear hT7 hf7 HO1 hs7 hs7b
      go_wp2_with fail
      refine (HLN _ G1 st7 F1b HT1.out).out.mono ?_
      rintro e V8 ⟨rfl, rfl⟩
      clear HLN HT1
      go_wp2_with fail
      refine (HLV _ (HTB.out.below HB.out)).out.mono ?_
      rintro e V9 ⟨rfl, hb9⟩
      have HB9 := Lib.hid (chain HB.out hb9)
      clear hb9
      go_wp2_with fail
      go_ret
      exact ⟨rfl, HB9.out⟩
    | false =>
      rw [if_neg (by decide)] at HO1
      rw [HW2.out rfl, HWA.out] at HO2
      clear HW2
      go_wp2_with (refine load_addr_g H2 _ rfl rfl rfl ?_)
      refine (HO1 _ G1 0 F1b HT1.out (by decide) (by decide)).out.mono ?_
      rintro e V7 ⟨rfl, ⟨st7, hT7, hs7, hs7b⟩, hf7⟩
      have HT1 := Lib.hid hT7
      replace HT2 := Lib.hid (HT2.out.keep hf7.size (fun k hk => hf7.keep k (HT2.out.lt.2 k hk) (fun e => HDJ.out k hk (by rw [List.mem_singleton.1 e]; exact HG1.out))))
      replace HB := Lib.hid (HB.out.trans (hf7.below (B := w.heap.size) (by have := HL1.out; simp; omega) HB.out.size))
      replace H2 := Lib.hid (H2.out.foot7 hf7 (by have := HL1.out; simp; omega))
      clear hT7 hf7 HO1 hs7 hs7b
      go_wp2_with fail
      refine (HLN _ G1 st7 F1b HT1.out).out.mono ?_
      rintro e V8 ⟨rfl, rfl⟩
      clear HLN HT1
      go_wp2_with (refine load_addr_g H2 _ rfl rfl rfl ?_)
      refine (HO2 _ G2 st2 F2b HT2.out hs2.1 (by omega)).out.mono ?_
      rintro e Va ⟨rfl, ⟨sta, hTa, hsa, hsab⟩, hfa⟩
      replace HB := Lib.hid (HB.out.trans (hfa.below (B := w.heap.size) (by have := HL2.out; simp; omega) HB.out.size))
      clear hTa hfa HO2 hsa hsab
      go_wp2_with fail
      refine (HLV _ (HTB.out.below HB.out)).out.mono ?_
      rintro e V9 ⟨rfl, hb9⟩
      have HB9 := Lib.hid (chain HB.out hb9)
      clear hb9
      go_wp2_with fail
      go_ret
      exact ⟨rfl, HB9.out⟩
  · have q2 : ∀ W, (binOp .neq 25 (addrV UF UB) (addrV Gf U)).run Tryd.prog W = .ok (.bool true) W := fun W => by rw [q1 W, decide_eq_false hsame]; rfl
    clear q1 HO1 HO2 HW1 HW2
    go_wp2_with fail
    obtain ⟨L, hL⟩ : ∃ L, [(w.heap.size + 1, 0, addrL Gf U)] = L := ⟨_, rfl⟩
    have HK : Hid (HeldL L V4.drew) := Lib.hid (by rw [← hL]; intro y hy; rw [List.mem_singleton.1 hy]; exact H2.out.range)
    have MA : Hid (InL L (w.heap.size + 1) 0 (addrL Gf U)) := Lib.hid (fun W h => h.get (by rw [← hL]; simp))
    have HLD : Hid (∀ y ∈ L, y.1 < V4.drew.heap.size) := Lib.hid (by rw [← hL]; intro y hy; rw [List.mem_singleton.1 hy]; exact H2.out.lt)
    clear hL
    refine wp_region_noPanic ?_
    refine wp_region_held_drew (S := HeldL L) (by kernel_rfl) HK.out (fun hHeld => ?_)
    refine wpAnyH_take (i := 0) rfl (by kernel_rfl) (by kernel_rfl) (by kernel_rfl) (fun _ _ _ h => h) (yields_addr_l HLU MA (by rfl) _ rfl rfl) (by assumption) ?_
    try simp only [Act.put, List.getElem_toArray, List.getElem_cons_zero, List.setIfInBounds_toArray, List.set_cons_zero, List.set_cons_succ]
    refine wpAnyH_take (i := 2) rfl (by kernel_rfl) (by kernel_rfl) (by kernel_rfl) (fun _ _ _ h => h) (yields_addr_l HLU MA (by rfl) _ rfl rfl) (by assumption) ?_
    try simp only [Act.put, List.getElem_toArray, List.getElem_cons_zero, List.getElem_cons_succ, List.setIfInBounds_toArray, List.set_cons_zero, List.set_cons_succ]
    refine wpAnyH_ready (rs := [1]) (by kernel_rfl) (by simp) ?_
    refine AllReadyH.cons rfl (fun K hK => ?_) AllReadyH.nil
    go_simp
    refine (HUM V4.drew).out.mono ?_
    rintro e V6 ⟨rfl, hb6⟩
    have hb6' : Below V4.heap.size V4 V6 := (Below.refl _ _).drew.trans hb6
    have HB6 := Lib.hid (chain HB.out hb6')
    have H26 := Lib.hid (H2.out.below hb6')
    have H16 := Lib.hid (H1.out.below hb6')
    have HT16 := Lib.hid (HT1.out.below hb6')
    have HT26 := Lib.hid (HT2.out.below hb6')
    have hS6 := HeldL.below HK.out hb6 HLD.out
    clear hb6 hb6' HUM HB H2 H1 HT1 HT2
    go_wp2_with fail
    refine hK.out _ _ hS6 (fun hHeld => ?_)
    clear hK K
    try simp only [Act.put, List.getElem_toArray, List.getElem_cons_zero, List.getElem_cons_succ, List.setIfInBounds_toArray, List.set_cons_zero, List.set_cons_succ]
    refine wpAnyH_take (i := 3) (v := ?_) rfl (by kernel_rfl) (by kernel_rfl) (by kernel_rfl) (fun _ _ _ h => h) (Or.inl ⟨by rfl, ?_⟩) (by assumption) ?_
    rotate_left
    · (intro w hSw; go_simp; try (with_reducible rfl))
    try simp only [Act.put, List.getElem_toArray, List.getElem_cons_zero, List.getElem_cons_succ, List.setIfInBounds_toArray, List.set_cons_zero, List.set_cons_succ]
    refine wpAnyH_done (by kernel_rfl) ?_ _
    refine NoPanic.normal ?_
    go_wp2_with fail
    refine (HLV _ (HTB.out.below HB6.out)).out.mono ?_
    rintro e V9 ⟨rfl, hb9⟩
    have HB9 := Lib.hid (chain HB6.out hb9)
    clear hb9
    go_wp2_with fail
    go_ret
    exact ⟨rfl, HB9.out⟩

theorem door_met (os : Os) (args : Array Value) : laidMetH Tryd.prog Rows.spaceAddsRow.laid ((World.doorLaid Tryd.prog 400 os).forCall (fun _ _ => 0) ⟨#[], args, []⟩).memory :=
  laidMetH_of_parts3 (fuel := 8) (laidMet_of_run' 8 (by kernel_rfl) (by kernel_rfl)) (by kernel_rfl) (by kernel_rfl)

set_option maxRecDepth 100000 in
theorem lifted (os : Os) (started : os.Started) (H : Type) (enc : TypeId × Value → H) :
    ReturnsInHanded {} Tryd.checked os 7 .any (fun w args => (Rows.spaceAddsSpec.pre enc Tryd.prog Tryd.f7 [] false w args ∧ laidMetH Tryd.prog Rows.spaceAddsRow.laid w) ∧ sizedMet enc Tryd.prog Tryd.f7 (OpenSpec.ofChange Rows.spaceAddsSpec) false w args)
      (Rows.spaceAddsSpec.post enc Tryd.prog Tryd.f7 false true false false) := by
  refine handed_shaped (C := Tryd.checked) (X := fun w _ => laidMetH Tryd.prog Rows.spaceAddsRow.laid w) (fun _ _ _ hh h => h.of_heap hh) own started (by kernel_rfl) Tryd.func7
    (ChangeSpec.witness_shaped (enc := enc) (C := Tryd.checked) (os := os) (X := fun w _ => laidMetH Tryd.prog Rows.spaceAddsRow.laid w) false (World.doorLaid Tryd.prog 400 os) #[.agg #[.int .i64 0, .int .u8 0, .int .u8 0, .int .u8 0, .int .u8 0, .int .u8 0, .int .u8 0, .int .u8 0, .int .u8 0, .int .u8 0, .int .u8 0, .int .u8 0, .int .u8 0, .int .u8 0, .int .u8 0, .int .u8 0, .int .u8 0, .int .i64 0], .int .i64 0, .agg #[.int .i64 0, .int .u8 0, .int .u8 0, .int .u8 0, .int .u8 0, .int .u8 0, .int .u8 0, .int .u8 0, .int .u8 0, .int .u8 0, .int .u8 0, .int .u8 0, .int .u8 0, .int .u8 0, .int .u8 0, .int .u8 0, .int .u8 0]] 8 rfl (World.shaped_of_RefB (by kernel_rfl) (by kernel_rfl)) (by kernel_rfl) (by kernel_rfl) (by kernel_rfl) (door_met os _)) ?_
  intro W base args ds gs before hval0 hW hL hsh
  have hval : ∀ (j : Nat) t v, Tryd.f7.params[j]? = some t → args[j]? = some v → Value.okWide Tryd.prog W .any base t v := hval0
  have hW' := hW
  obtain ⟨p, q, hA0, hV, rfl, hfz, hnd⟩ := hW
  have hA : DataW.TrodAll enc Tryd.prog W 0 (fun _ => true) true Tryd.f7.params.toList args.toList ds p := hA0
  rw [Tryd.params7] at hA hval
  obtain ⟨v0, vs0, d0, ds0, p0, q0, hargs, rfl, rfl, h0, r0⟩ := trodAll_cons hA
  obtain ⟨v1, vs1, d1, ds1, p1, q1, rfl, rfl, rfl, h1, r1⟩ := trodAll_cons r0
  obtain ⟨v2, vs2, d2, ds2, p2, q2, rfl, rfl, rfl, h2, r2⟩ := trodAll_cons r1
  obtain ⟨rfl, rfl, rfl⟩ := trodAll_nil r2
  obtain rfl : args = #[v0, v1, v2] := by cases args; simp_all
  obtain ⟨rfl, rfl⟩ := trodVars_none hV
  have k0 := h0
  have lt0 : ∀ x ∈ p0, x.block < W.heap.size := by obtain ⟨m, hm⟩ := k0; exact DataW.trod_lt m _ _ _ hm
  obtain ⟨f0, z0, n0, rfl, fw0, l0, w0, nw0⟩ := open_pref (hval 0 27 v0 rfl rfl) h0
  obtain ⟨a1, rfl, rfl, rfl, w1⟩ := open_int Tryd.underlying3 (hval 1 3 v1 rfl rfl) h1
  have k2 := h2
  have lt2 : ∀ x ∈ p2, x.block < W.heap.size := by obtain ⟨m, hm⟩ := k2; exact DataW.trod_lt m _ _ _ hm
  obtain ⟨f2, z2, rfl, fw2, l2, w2⟩ := open_addr (hval 2 25 v2 rfl rfl) h2
  clear hA0 hval0
  refine (walk f0 z0 n0 a1 f2 z2 fw0 l0 w0 nw0 w1 fw2 l2 w2 W (tabs_of Rows.spaceAddsRow.laid rfl hL hsh)).mono fun e W' ⟨he, bel⟩ => ?_
  subst he
  exact ⟨_, rfl, _, _, _, [], _, [], hW', trodAll_mk1 (shut_bool Tryd.underlying4 _), (trodAll_cons_mk (Below.trod laidOut (by kernel_rfl) (of_decide_eq_true (by kernel_rfl)) k0 bel lt0) (trodAll_cons_mk (shut_int Tryd.underlying3 w1) (trodAll_cons_mk (Below.trod laidOut (by kernel_rfl) (of_decide_eq_true (by kernel_rfl)) k2 bel lt2) trodAll_mk0))), rfl, bel.frame _, fun h => by cases h⟩

theorem over : Rows.SpaceAddsSaid :=
  OpenClaim.holds_of_wide 7 Tryd.f7 rfl rfl rfl rfl rfl rfl rfl ⟨rfl, rfl, rfl, rfl, rfl⟩ rfl rfl rfl rfl rfl (by kernel_rfl) Tryd.func7 (by kernel_rfl)
    (of_decide_eq_true (by kernel_rfl)) (by unfold Func.isWrapper; first | (rw [if_pos (by decide +kernel)]; kernel_rfl) | (rw [if_neg (by decide +kernel)]; exact ⟨rfl, rfl⟩))
    (fun os started H enc _ => lifted os started H enc)


theorem proved : Rows.SpaceAddsCardSaid :=
  Claim7.holds_tied_plain_at .later [] [.data, .data, .data] true _ false
    over (fun _ h => by cases h) (by kernel_rfl) (fun _ h => by cases h) spaceAdds_row_tie rfl ⟨rfl, rfl⟩ (by kernel_rfl) rfl
    (fun f fn hf hfn => by
      obtain rfl : f = 7 := Option.some.inj ((show Tryd.prog.funcNamed "abatis/abatislaw07.SpaceAdds" = some 7 by kernel_rfl).symm.trans hf) |>.symm
      obtain rfl : fn = Tryd.f7 := (Option.some.inj (Tryd.func7.symm.trans hfn)).symm
      exact ⟨by kernel_rfl, fun j t ht => by
        rw [Tryd.params7] at ht
        have hm : t ∈ [27, 3, 25] := by simpa using Array.mem_of_getElem? ht
        have hall : ([27, 3, 25].all fun u => !Tryd.prog.wantsStandIn u) = true := by kernel_rfl
        exact (show Tryd.prog.wantsStandIn t = false by simpa using List.all_eq_true.1 hall t hm)⟩)
    (by kernel_rfl)
#print axioms proved
end Go.Proofs.YtgbajagacmfcmaaDoor.spaceAdds

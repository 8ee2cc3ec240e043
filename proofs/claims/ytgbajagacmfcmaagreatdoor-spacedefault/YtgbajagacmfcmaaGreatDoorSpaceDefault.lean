/- For every address (made one that may be): its space by the map that is told first is the one of the reference, and so is how many entries it has; true is answered, and what came in stays. -/
import Derived.Test.YtgbajagacmfcmaaGreatDoorB11
import Derived.Test.YtgbajagacmfcmaaGreatDoorTie
import Derived.Test.YtgbajagacmfcmaaGreatDoorCards
import Derived.ProofKit
import Derived.OpenShut
import Derived.ShutString
import Derived.ChangeOld
import Derived.Below
namespace Go.Proofs.YtgbajagacmfcmaaGreatDoor.spaceDefault
open Go.ChangeShapes Go.WideShapes Go.ChangeAt Go.RowKit
open Go.ChangeMaps (open_string shut_string)
set_option linter.unusedVariables false
set_option maxRecDepth 20000

theorem own : ownKnob Tryz.prog.godebug = none := by kernel_rfl

/-- A row of entries that isn't empty lies in another block than a table. -/
theorem rowE_apart {w : World} {base G : Nat} {v : Value} {es fs : List Ent} {st : Int} {F : List Nat} (h : RowE w base v es) (hT : TabAt w G fs st F) (hne : es ≠ []) : NotIn v [G] := by
  intro g hg hm
  rw [List.mem_singleton] at hm
  subst hm
  obtain ⟨e, r, rfl⟩ := List.exists_cons_of_ne_nil hne
  obtain ⟨u, rfl, hB, hR, _, _⟩ := hT
  rcases h.form with ⟨rfl, h2⟩ | ⟨g2, cap, rfl, _, _, _, _, hr⟩
  · cases h2
  · cases hg
    have h3 := hr 0 (.int .i64 e.f) (by show (e.L ++ flatE r)[0]? = _; rfl)
    rw [Nat.add_zero, hB.row] at h3
    rcases hR.form with ⟨rfl, _⟩ | ⟨g3, c3, rfl, _⟩ <;> cases h3
set_option maxRecDepth 100000 in
set_option maxHeartbeats 2000000 in
theorem walk (f : Int) (z : List Nat) (fw : (Lit.int .i64 f).wf = true) (h16 : z.length = 16) (hlt : ∀ x ∈ z, x < 256) (w : World) (ht : Tabs w) :
    Calls Tryz.prog 3 #[addrV f z] w fun e w' => e = .returned (.bool true) ∧ Below w.heap.size w w' := by
  have HLV := fun W (h : Tabs W) => Lib.hid (lives7_any W h)
  have HDE := fun W (h : Tabs W) => Lib.hid (default_any W h)
  have HRD := fun W => Lib.hid (refDefault7_any W)
  have HGO := fun W => Lib.hid (refGood_any f z W h16 hlt)
  have hg := good_is f z h16 hlt
  have G16 := Lib.hid hg.len
  have hle : (defE 11).length ≤ 1000 := by rw [defE_eleven]; decide
  have HOF := fun W G st F h h0 h1 => Lib.hid (mapOf_few G (defE 11) st F (goodF f) (goodB f z) W h hg.len hg.lt h0 h1 hle)
  have HRO := fun W v h => Lib.hid (refOf7_any v (defE 11) (goodF f) (goodB f z) W 0 h hg.len hg.lt)
  have HLE := fun W G st F h => Lib.hid (mapLen_any G (defE 11) st F W h)
  have HNE : Hid (defE 11 ≠ []) := Lib.hid (fun h => by have := defE_eleven; rw [h] at this; cases this)
  have HEL := Lib.hid defE_eleven
  rw [defE_eleven, show ((11 : Nat) : Int) = 11 from rfl] at HLE
  have HTB := Lib.hid ht
  obtain ⟨cs, ecs, HA, HB⟩ := addr_boxed f z w h16
  have H16 := Lib.hid h16
  rw [ecs]
  clear ecs h16 hlt fw ht hg hle
  generalize defE 11 = es at *
  generalize goodF f = gf at *
  generalize goodB f z = gb at *
  generalize ofE es (unmapF gf gb) (unmapB gf gb) = X at *
  go_enter Tryz.func3, Tryz.ntmps3
  go_upto_region 1 with fail
  generalize (w.alloc (.cells cs 24)) = W at *
  go_wp2_with (refine load_addr_g HA _ rfl rfl rfl ?_)
  refine (HGO _).out.mono ?_
  rintro e w1 ⟨rfl, hb1⟩
  have HA1 := Lib.hid (HA.out.below hb1)
  have HB1 := Lib.hid (chain HB.out hb1)
  clear hb1 HGO HA HB
  go_upto_region 2 with (refine store_addr HA1 _ _ G16 rfl rfl rfl rfl (fun W2 HW2 HA2 => ?_))
  have HB2 : Hid (Below w.heap.size w W2) := Lib.hid (by rw [HW2.out]; exact below_cells (Nat.le_refl _) _ _ _ HB1.out)
  clear HA1 HB1 HW2
  go_wp2_with fail
  refine (HDE _ (HTB.out.below HB2.out)).out.mono ?_
  rintro e w3 ⟨G, F, rfl, hT3, hF3, hb3⟩
  have HT3 := Lib.hid hT3
  have HGL : Hid (W2.heap.size ≤ G) := Lib.hid (hF3 G hT3.lt.1)
  have HA3 := Lib.hid (HA2.out.below hb3)
  have HB3 := Lib.hid (chain HB2.out hb3)
  have HNG : Hid (w.heap.size < G) := Lib.hid (by have := HGL.out; have := HA2.out.lt; omega)
  clear hT3 hF3 hb3 HDE HA2 HB2 HGL
  go_wp2_with fail
  refine (HRD _).out.mono ?_
  rintro e w4 ⟨v, rfl, hr4, hb4⟩
  have HT4 := Lib.hid (HT3.out.below hb4)
  have HR4 := Lib.hid hr4
  have HA4 := Lib.hid (HA3.out.below hb4)
  have HB4 := Lib.hid (chain HB3.out hb4)
  have HNV := Lib.hid (rowE_apart hr4 HT4.out HNE.out)
  clear hb4 HRD HT3 HA3 HB3
  rcases hr4.form with ⟨_, h0⟩ | ⟨gv, cv, rfl, _⟩
  · exact absurd h0 HNE.out
  rw [HEL.out] at HR4 HNV ⊢
  clear hr4 HNE
  go_wp2_with fail
  obtain ⟨L, hL⟩ : ∃ L, [(w.heap.size, 0, addrL gf gb)] = L := ⟨_, rfl⟩
  have HK : Hid (HeldL L w4.drew) := Lib.hid (by rw [← hL]; intro y hy; rw [List.mem_singleton.1 hy]; exact HA4.out.range)
  have MA : Hid (InL L w.heap.size 0 (addrL gf gb)) := Lib.hid (fun W h => h.get (by rw [← hL]; simp))
  have HLD : Hid (∀ y ∈ L, y.1 < w4.drew.heap.size ∧ y.1 ∉ [G]) := Lib.hid (by rw [← hL]; intro y hy; rw [List.mem_singleton.1 hy]; exact ⟨HA4.out.lt, by have := HNG.out; simp; omega⟩)
  have HTD := Lib.hid (HT4.out.below (Below.refl _ _).drew)
  have HRD := Lib.hid (HR4.out.below (Below.refl _ _).drew)
  have HBD : Hid (Below w.heap.size w w4.drew) := Lib.hid HB4.out.drew
  clear hL HA4 HT4 HR4 HB4
  refine wp_region_noPanic ?_
  refine wp_region_held_drew (S := HeldL L) (by kernel_rfl) HK.out (fun hHeld => ?_)
  generalize w4.drew = V at *
  refine wpAnyH_take (i := 0) (v := ?_) rfl (by kernel_rfl) (by kernel_rfl) (by kernel_rfl) (fun _ _ _ h => h) (Or.inl ⟨by rfl, ?_⟩) (by assumption) ?_
  rotate_left
  · (intro w hSw; go_simp; try (with_reducible rfl))
  try simp only [Act.put, List.getElem_toArray, List.getElem_cons_zero, List.setIfInBounds_toArray, List.set_cons_zero, List.set_cons_succ]
  refine wpAnyH_take (i := 1) rfl (by kernel_rfl) (by kernel_rfl) (by kernel_rfl) (fun _ _ _ h => h) (yields_addr_l G16 MA (by rfl) _ rfl rfl) (by assumption) ?_
  try simp only [Act.put, List.getElem_toArray, List.getElem_cons_zero, List.getElem_cons_succ, List.setIfInBounds_toArray, List.set_cons_zero, List.set_cons_succ]
  refine wpAnyH_take (i := 3) (v := ?_) rfl (by kernel_rfl) (by kernel_rfl) (by kernel_rfl) (fun _ _ _ h => h) (Or.inl ⟨by rfl, ?_⟩) (by assumption) ?_
  rotate_left
  · (intro w hSw; go_simp; try (with_reducible rfl))
  try simp only [Act.put, List.getElem_toArray, List.getElem_cons_zero, List.getElem_cons_succ, List.setIfInBounds_toArray, List.set_cons_zero, List.set_cons_succ]
  refine wpAnyH_take (i := 4) rfl (by kernel_rfl) (by kernel_rfl) (by kernel_rfl) (fun _ _ _ h => h) (yields_addr_l G16 MA (by rfl) _ rfl rfl) (by assumption) ?_
  try simp only [Act.put, List.getElem_toArray, List.getElem_cons_zero, List.getElem_cons_succ, List.setIfInBounds_toArray, List.set_cons_zero, List.set_cons_succ]
  refine wpAnyH_ready (rs := [2]) (by kernel_rfl) (by simp) ?_
  refine AllReadyH.cons rfl (fun K hK => ?_) AllReadyH.nil
  go_simp
  refine (HOF _ G 0 F HTD.out (by decide) (by decide)).out.mono ?_
  rintro e V1 ⟨rfl, ⟨st1, hT1, hs0, hs1⟩, hf1⟩
  have HT1 := Lib.hid hT1
  have HR1 := Lib.hid (HRD.out.foot hf1 HNV.out)
  have HB1 := Lib.hid (HBD.out.trans (hf1.below (B := w.heap.size) (by have := HNG.out; simp; omega) HBD.out.size))
  have hS1 := HeldL.foot HK.out hf1 HLD.out
  have HL1 : Hid (∀ y ∈ L, y.1 < V1.heap.size) := Lib.hid (fun y hy => Nat.lt_of_lt_of_le (HLD.out y hy).1 hf1.size)
  clear hT1 hf1 HOF HTD HBD HLD HRD hs0 hs1
  go_wp2_with fail
  refine hK.out _ _ hS1 (fun hHeld => ?_)
  clear hK K
  try simp only [Act.put, List.getElem_toArray, List.getElem_cons_zero, List.getElem_cons_succ, List.setIfInBounds_toArray, List.set_cons_zero, List.set_cons_succ]
  refine wpAnyH_ready (rs := [5]) (by kernel_rfl) (by simp) ?_
  refine AllReadyH.cons rfl (fun K hK => ?_) AllReadyH.nil
  go_simp
  refine (HRO _ _ HR1.out).out.mono ?_
  rintro e V2 ⟨rfl, hb2⟩
  have HT2 := Lib.hid (HT1.out.below hb2)
  have HB2 := Lib.hid (chain HB1.out hb2)
  have hS2 := HeldL.below hS1 hb2 HL1.out
  have HL2 : Hid (∀ y ∈ L, y.1 < V2.heap.size) := Lib.hid (fun y hy => Nat.lt_of_lt_of_le (HL1.out y hy) hb2.size)
  clear hb2 HRO HT1 HB1 hS1 HL1 HR1
  go_wp2_with fail
  refine hK.out _ _ hS2 (fun hHeld => ?_)
  clear hK K
  try simp only [Act.put, List.getElem_toArray, List.getElem_cons_zero, List.getElem_cons_succ, List.setIfInBounds_toArray, List.set_cons_zero, List.set_cons_succ]
  refine wpAnyH_take (i := 6) (v := ?_) rfl (by kernel_rfl) (by kernel_rfl) (by kernel_rfl) (fun _ _ _ h => h) (Or.inl ⟨by rfl, ?_⟩) (by assumption) ?_
  rotate_left
  · (intro w hSw; go_simp; try (with_reducible rfl))
  try simp only [Act.put, List.getElem_toArray, List.getElem_cons_zero, List.getElem_cons_succ, List.setIfInBounds_toArray, List.set_cons_zero, List.set_cons_succ]
  refine wpAnyH_take (i := 7) (v := ?_) rfl (by kernel_rfl) (by kernel_rfl) (by kernel_rfl) (fun _ _ _ h => h) (Or.inl ⟨by rfl, ?_⟩) (by assumption) ?_
  rotate_left
  · (intro w hSw; go_simp; try (with_reducible rfl))
  try simp only [Act.put, List.getElem_toArray, List.getElem_cons_zero, List.getElem_cons_succ, List.setIfInBounds_toArray, List.set_cons_zero, List.set_cons_succ]
  refine wpAnyH_take (i := 8) (v := ?_) rfl (by kernel_rfl) (by kernel_rfl) (by kernel_rfl) (fun _ _ _ h => h) (Or.inl ⟨by rfl, ?_⟩) (by assumption) ?_
  rotate_left
  · (intro w hSw; go_simp; try (with_reducible rfl))
  try simp only [Act.put, List.getElem_toArray, List.getElem_cons_zero, List.getElem_cons_succ, List.setIfInBounds_toArray, List.set_cons_zero, List.set_cons_succ]
  refine wpAnyH_take (i := 9) (v := ?_) rfl (by kernel_rfl) (by kernel_rfl) (by kernel_rfl) (fun _ _ _ h => h) (Or.inl ⟨by rfl, ?_⟩) (by assumption) ?_
  rotate_left
  · (intro w hSw; go_simp; try (with_reducible rfl))
  try simp only [Act.put, List.getElem_toArray, List.getElem_cons_zero, List.getElem_cons_succ, List.setIfInBounds_toArray, List.set_cons_zero, List.set_cons_succ]
  refine wpAnyH_take (i := 10) (v := ?_) rfl (by kernel_rfl) (by kernel_rfl) (by kernel_rfl) (fun _ _ _ h => h) (Or.inl ⟨by rfl, ?_⟩) (by assumption) ?_
  rotate_left
  · (intro w hSw; go_simp; try (with_reducible rfl))
  try simp only [Act.put, List.getElem_toArray, List.getElem_cons_zero, List.getElem_cons_succ, List.setIfInBounds_toArray, List.set_cons_zero, List.set_cons_succ]
  refine wpAnyH_take (i := 12) (v := ?_) rfl (by kernel_rfl) (by kernel_rfl) (by kernel_rfl) (fun _ _ _ h => h) (Or.inl ⟨by rfl, ?_⟩) (by assumption) ?_
  rotate_left
  · (intro w hSw; go_simp; try (with_reducible rfl))
  try simp only [Act.put, List.getElem_toArray, List.getElem_cons_zero, List.getElem_cons_succ, List.setIfInBounds_toArray, List.set_cons_zero, List.set_cons_succ]
  refine wpAnyH_take (i := 13) (v := ?_) rfl (by kernel_rfl) (by kernel_rfl) (by kernel_rfl) (fun _ _ _ h => h) (Or.inl ⟨by rfl, ?_⟩) (by assumption) ?_
  rotate_left
  · (intro w hSw; go_simp; try (with_reducible rfl))
  try simp only [Act.put, List.getElem_toArray, List.getElem_cons_zero, List.getElem_cons_succ, List.setIfInBounds_toArray, List.set_cons_zero, List.set_cons_succ]
  refine wpAnyH_ready (rs := [11]) (by kernel_rfl) (by simp) ?_
  refine AllReadyH.cons rfl (fun K hK => ?_) AllReadyH.nil
  go_simp
  refine (HLE _ G st1 F HT2.out).out.mono ?_
  rintro e V3 ⟨rfl, rfl⟩
  clear HLE HT2
  go_wp2_with fail
  refine hK.out _ _ hS2 (fun hHeld => ?_)
  clear hK K
  try simp only [Act.put, List.getElem_toArray, List.getElem_cons_zero, List.getElem_cons_succ, List.setIfInBounds_toArray, List.set_cons_zero, List.set_cons_succ]
  refine wpAnyH_take (i := 14) (v := ?_) rfl (by kernel_rfl) (by kernel_rfl) (by kernel_rfl) (fun _ _ _ h => h) (Or.inl ⟨by rfl, ?_⟩) (by assumption) ?_
  rotate_left
  · (intro w hSw; go_simp; try (with_reducible rfl))
  try simp only [Act.put, List.getElem_toArray, List.getElem_cons_zero, List.getElem_cons_succ, List.setIfInBounds_toArray, List.set_cons_zero, List.set_cons_succ]
  refine wpAnyH_take (i := 15) (v := ?_) rfl (by kernel_rfl) (by kernel_rfl) (by kernel_rfl) (fun _ _ _ h => h) (Or.inl ⟨by rfl, ?_⟩) (by assumption) ?_
  rotate_left
  · (intro w hSw; go_simp; try (with_reducible rfl))
  try simp only [Act.put, List.getElem_toArray, List.getElem_cons_zero, List.getElem_cons_succ, List.setIfInBounds_toArray, List.set_cons_zero, List.set_cons_succ]
  refine wpAnyH_take (i := 16) (v := ?_) rfl (by kernel_rfl) (by kernel_rfl) (by kernel_rfl) (fun _ _ _ h => h) (Or.inl ⟨by rfl, ?_⟩) (by assumption) ?_
  rotate_left
  · (intro w hSw; go_simp; try (with_reducible rfl))
  try simp only [Act.put, List.getElem_toArray, List.getElem_cons_zero, List.getElem_cons_succ, List.setIfInBounds_toArray, List.set_cons_zero, List.set_cons_succ]
  refine wpAnyH_ready (rs := [17]) (by kernel_rfl) (by simp) ?_
  refine AllReadyH.cons rfl (fun K hK => ?_) AllReadyH.nil
  go_simp
  refine (HLV _ (HTB.out.below HB2.out)).out.mono ?_
  rintro e V4 ⟨rfl, hb4⟩
  have HB4 := Lib.hid (chain HB2.out hb4)
  have hS4 := HeldL.below hS2 hb4 HL2.out
  clear hb4 HLV HB2 hS2 HL2
  go_wp2_with fail
  refine hK.out _ _ hS4 (fun hHeld => ?_)
  clear hK K
  try simp only [Act.put, List.getElem_toArray, List.getElem_cons_zero, List.getElem_cons_succ, List.setIfInBounds_toArray, List.set_cons_zero, List.set_cons_succ]
  refine wpAnyH_take (i := 18) (v := ?_) rfl (by kernel_rfl) (by kernel_rfl) (by kernel_rfl) (fun _ _ _ h => h) (Or.inl ⟨by rfl, ?_⟩) (by assumption) ?_
  rotate_left
  · (intro w hSw; go_simp; try (with_reducible rfl))
  try simp only [Act.put, List.getElem_toArray, List.getElem_cons_zero, List.getElem_cons_succ, List.setIfInBounds_toArray, List.set_cons_zero, List.set_cons_succ]
  refine wpAnyH_take (i := 19) (v := ?_) rfl (by kernel_rfl) (by kernel_rfl) (by kernel_rfl) (fun _ _ _ h => h) (Or.inl ⟨by rfl, ?_⟩) (by assumption) ?_
  rotate_left
  · (intro w hSw; go_simp; try (with_reducible rfl))
  try simp only [Act.put, List.getElem_toArray, List.getElem_cons_zero, List.getElem_cons_succ, List.setIfInBounds_toArray, List.set_cons_zero, List.set_cons_succ]
  refine wpAnyH_done (by kernel_rfl) ?_ _
  refine NoPanic.normal ?_
  go_wp2_with fail
  go_ret
  exact ⟨rfl, HB4.out⟩

theorem door_met (os : Os) (args : Array Value) : laidMetH Tryz.prog Rows.spaceDefaultRow.laid ((World.doorLaid Tryz.prog 400 os).forCall (fun _ _ => 0) ⟨#[], args, []⟩).memory :=
  laidMetH_of_parts3 (fuel := 8) (laidMet_of_run' 8 (by kernel_rfl) (by kernel_rfl)) (by kernel_rfl) (by kernel_rfl)

set_option maxRecDepth 100000 in
theorem lifted (os : Os) (started : os.Started) (H : Type) (enc : TypeId × Value → H) :
    ReturnsInHanded {} Tryz.checked os 3 .any (fun w args => (Rows.spaceDefaultSpec.pre enc Tryz.prog Tryz.f3 [] false w args ∧ laidMetH Tryz.prog Rows.spaceDefaultRow.laid w) ∧ sizedMet enc Tryz.prog Tryz.f3 (OpenSpec.ofChange Rows.spaceDefaultSpec) false w args)
      (Rows.spaceDefaultSpec.post enc Tryz.prog Tryz.f3 false true false false) := by
  refine handed_shaped (C := Tryz.checked) (X := fun w _ => laidMetH Tryz.prog Rows.spaceDefaultRow.laid w) (fun _ _ _ hh h => h.of_heap hh) own started (by kernel_rfl) Tryz.func3
    (ChangeSpec.witness_shaped (enc := enc) (C := Tryz.checked) (os := os) (X := fun w _ => laidMetH Tryz.prog Rows.spaceDefaultRow.laid w) false (World.doorLaid Tryz.prog 400 os) #[.agg #[.int .i64 0, .int .u8 0, .int .u8 0, .int .u8 0, .int .u8 0, .int .u8 0, .int .u8 0, .int .u8 0, .int .u8 0, .int .u8 0, .int .u8 0, .int .u8 0, .int .u8 0, .int .u8 0, .int .u8 0, .int .u8 0, .int .u8 0]] 8 rfl (World.shaped_of_RefB (by kernel_rfl) (by kernel_rfl)) (by kernel_rfl) (by kernel_rfl) (by kernel_rfl) (door_met os _)) ?_
  intro W base args ds gs before hval0 hW hL hsh
  have hval : ∀ (j : Nat) t v, Tryz.f3.params[j]? = some t → args[j]? = some v → Value.okWide Tryz.prog W .any base t v := hval0
  have hW' := hW
  obtain ⟨p, q, hA0, hV, rfl, hfz, hnd⟩ := hW
  have hA : DataW.TrodAll enc Tryz.prog W 0 (fun _ => true) true Tryz.f3.params.toList args.toList ds p := hA0
  rw [Tryz.params3] at hA hval
  obtain ⟨v0, vs0, d0, ds0, p0, q0, hargs, rfl, rfl, h0, r0⟩ := trodAll_cons hA
  obtain ⟨rfl, rfl, rfl⟩ := trodAll_nil r0
  obtain rfl : args = #[v0] := by cases args; simp_all
  obtain ⟨rfl, rfl⟩ := trodVars_none hV
  have k0 := h0
  have lt0 : ∀ x ∈ p0, x.block < W.heap.size := by obtain ⟨m, hm⟩ := k0; exact DataW.trod_lt m _ _ _ hm
  obtain ⟨f0, z0, rfl, fw0, l0, w0⟩ := open_addr (hval 0 24 v0 rfl rfl) h0
  clear hA0 hval0
  refine (walk f0 z0 fw0 l0 w0 W (tabs_of Rows.spaceDefaultRow.laid rfl hL hsh)).mono fun e W' ⟨he, bel⟩ => ?_
  subst he
  exact ⟨_, rfl, _, _, _, [], _, [], hW', trodAll_mk1 (shut_bool Tryz.underlying4 _), (trodAll_cons_mk (Below.trod laidOut (by kernel_rfl) (of_decide_eq_true (by kernel_rfl)) k0 bel lt0) trodAll_mk0), rfl, bel.frame _, fun h => by cases h⟩

theorem over : Rows.SpaceDefaultSaid :=
  OpenClaim.holds_of_wide 3 Tryz.f3 rfl rfl rfl rfl rfl rfl rfl ⟨rfl, rfl, rfl, rfl, rfl⟩ rfl rfl rfl rfl rfl (by kernel_rfl) Tryz.func3 (by kernel_rfl)
    (of_decide_eq_true (by kernel_rfl)) (by unfold Func.isWrapper; first | (rw [if_pos (by decide +kernel)]; kernel_rfl) | (rw [if_neg (by decide +kernel)]; exact ⟨rfl, rfl⟩))
    (fun os started H enc _ => lifted os started H enc)


theorem proved : Rows.SpaceDefaultCardSaid :=
  Claim7.holds_tied_plain_at .later [] [.data, .data, .data] true _ false
    over (fun _ h => by cases h) (by kernel_rfl) (fun _ h => by cases h) spaceDefault_row_tie rfl ⟨rfl, rfl⟩ (by kernel_rfl) rfl
    (fun f fn hf hfn => by
      obtain rfl : f = 3 := Option.some.inj ((show Tryz.prog.funcNamed "abatis/abatislaw07.SpaceDefault" = some 3 by kernel_rfl).symm.trans hf) |>.symm
      obtain rfl : fn = Tryz.f3 := (Option.some.inj (Tryz.func3.symm.trans hfn)).symm
      exact ⟨by kernel_rfl, fun j t ht => by
        rw [Tryz.params3] at ht
        have hm : t ∈ [24] := by simpa using Array.mem_of_getElem? ht
        have hall : ([24].all fun u => !Tryz.prog.wantsStandIn u) = true := by kernel_rfl
        exact (show Tryz.prog.wantsStandIn t = false by simpa using List.all_eq_true.1 hall t hm)⟩)
    (by kernel_rfl)
#print axioms proved
end Go.Proofs.YtgbajagacmfcmaaGreatDoor.spaceDefault

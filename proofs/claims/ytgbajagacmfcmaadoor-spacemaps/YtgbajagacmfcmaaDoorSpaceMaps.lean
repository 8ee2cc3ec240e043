/- For every row of entries (the first 12), every prefix and number added, every address (made one that may be): the space by the map is the one of the reference, as is how many entries there are, what may not be is refused, and the whole address added as loopback is loopback; true is answered, and what came in stays. -/
import Derived.Test.YtgbajagacmfcmaaDoorB10
import Derived.Test.YtgbajagacmfcmaaDoorTie
import Derived.Test.YtgbajagacmfcmaaDoorCards
import Derived.ProofKit
import Derived.OpenShut
import Derived.ShutString
import Derived.ChangeOld
import Derived.Below
namespace Go.Proofs.YtgbajagacmfcmaaDoor.spaceMaps
open Go.ChangeShapes Go.WideShapes Go.ChangeAt Go.RowKit
open Go.ChangeMaps (open_string shut_string)
set_option linter.unusedVariables false
set_option maxRecDepth 20000

theorem own : ownKnob Tryd.prog.godebug = none := by kernel_rfl

/-- Rows that came in, in a later world. -/
theorem raws_below {w w' : World} {a : Option Addr} {len cap : Nat} {D : List Raw} (h : RawsAt w a len cap D) (hb : Below w.heap.size w w') : RawsAt w' a len cap D := by
  obtain ⟨h1, h2, h3, h4, h5⟩ := h
  refine ⟨h1, h2, h3, h4, ?_⟩
  rcases h5 with h | ⟨g, o, e, hr, hg⟩
  · exact .inl h
  · exact .inr ⟨g, o, e, range_belowB hr hb hg, Nat.lt_of_lt_of_le hg hb.size⟩
theorem rowE_slice {w : World} {base : Nat} {v : Value} {es : List Ent} (h : RowE w base v es) : ∃ a c, v = .slice a es.length c := by
  rcases h.form with ⟨rfl, rfl⟩ | ⟨g, cap, rfl, _⟩
  · exact ⟨_, _, rfl⟩
  · exact ⟨_, _, rfl⟩
/-- A prefix laid into a block of its own: all else stays. -/
theorem own_laid {w V : World} {G BO : Nat} {es : List Ent} {st : Int} {F : List Nat} {v : Value} {f : Int} {us : List Nat} {cs : List Value} (hT : TabAt V G es st F) (hR : RowE V 0 v es) (hA : AddrAt V (w.heap.size + 1) f us) (hB : Below w.heap.size w V) (hF : ∀ k ∈ F, k < BO) (hv : ∀ g, v.ownBlock = some g → g < BO) (hw : w.heap.size + 1 < BO) :
    TabAt (V.setCells BO 0 cs) G es st F ∧ RowE (V.setCells BO 0 cs) 0 v es ∧ AddrAt (V.setCells BO 0 cs) (w.heap.size + 1) f us ∧ Below w.heap.size w (V.setCells BO 0 cs) := by
  have hf : Foot [BO] [BO] V (V.setCells BO 0 cs) := foot_cells _ _ _
  refine ⟨hT.keep hf.size (fun k hk => hf.keep k (hT.lt.2 k hk) (by have := hF k hk; simp; omega)), hR.foot hf (fun g hg e => by have := hv g hg; rw [List.mem_singleton.1 e] at this; omega), hA.foot7 hf (by simp; omega), hB.trans (hf.below (by simp; omega) hB.size)⟩
set_option maxRecDepth 100000 in
set_option maxHeartbeats 8000000 in
theorem walk (a : Option Addr) (len cap : Nat) (D : List Raw) (f1 : Int) (z1 : List Nat) (n1 : Int) (x : Int) (f3 : Int) (z3 : List Nat) (w : World) (hD : RawsAt w a len cap D) (fw1 : (Lit.int .i64 f1).wf = true) (l1 : z1.length = 16) (w1 : ∀ x ∈ z1, x < 256) (nw1 : (Lit.int .i64 n1).wf = true) (xw : (Lit.int .i64 x).wf = true) (fw3 : (Lit.int .i64 f3).wf = true) (l3 : z3.length = 16) (w3 : ∀ x ∈ z3, x < 256) (ht : Tabs w) :
    Calls Tryd.prog 3 #[.slice a len cap, prefV f1 z1 n1, .int .i64 x, addrV f3 z3] w fun e w' => e = .returned (.bool true) ∧ Below w.heap.size w w' := by
  have HTB := Lib.hid ht
  have hu := good_is f3 z3 l3 w3
  have HG1 := fun W => Lib.hid (refGood_any f3 z3 W l3 w3)
  generalize goodF f3 = Gf at *
  generalize goodB f3 z3 = U at *
  have HLU := Lib.hid hu.len
  have HL1 := Lib.hid l1
  have HLV := fun W (h : Tabs W) => Lib.hid (lives7_any W h)
  have HRW := Lib.hid hD
  have hul := unmap_len Gf U hu.len hu.lt
  have HUM := fun W => Lib.hid (refUnmap_any Gf U W hu.len hu.lt)
  have HBI := fun W => Lib.hid (refBits_any Gf U W hu.len)
  have hbn := bitsN_le Gf
  have HMK := fun W => Lib.hid (refMask_any Gf U ((bitsN Gf : Nat) : Int) W hu.len hu.lt (wf_small (by omega)))
  rw [maskN_nat Gf (bitsN Gf) (Nat.le_refl _)] at HMK
  have hq := hu.mask (bitsN Gf) (Nat.le_refl _)
  have HOW := Lib.hid hq.len
  have HOF := fun W G es st Fs h h0 h1 hle => Lib.hid (mapOf_few G es st Fs Gf U W h hu.len hu.lt h0 h1 hle)
  have HRO := fun W v es h => Lib.hid (refOf7_any v es Gf U W 0 h hu.len hu.lt)
  have HLN := fun W G es st Fs h => Lib.hid (mapLen_any G es st Fs W h)
  have HAR := fun W v es h hle => Lib.hid (refAdd7_any v es f1 z1 n1 x W 0 h l1 w1 xw hle)
  have HAM := fun W G es st Fs h hle => Lib.hid (mapAdd_any G es st Fs f1 z1 n1 x W h l1 w1 nw1 xw hle)
  have HAO := fun W G es st Fs h hle => Lib.hid (mapAdd_any G es st Fs Gf (withL (bitsN Gf) U (bitsN Gf) 0) ((bitsN Gf : Nat) : Int) 0 W h hq.len hq.lt (wf_small (by omega)) (by decide) hle)
  have hac : addC Gf (withL (bitsN Gf) U (bitsN Gf) 0) ((bitsN Gf : Nat) : Int) 0 = 0 := by rw [(addE_in [] Gf _ ((bitsN Gf : Nat) : Int) 0 rfl).2, if_pos hq.may]
  rw [hac] at HAO
  have HTOP : Hid (∀ es, AllGood es → ofE (addE es Gf (withL (bitsN Gf) U (bitsN Gf) 0) ((bitsN Gf : Nat) : Int) 0) Gf U = 0) := Lib.hid (fun es hg => by
    unfold ofE
    rw [(addE_in es Gf _ ((bitsN Gf : Nat) : Int) 0 rfl).1, findE_top es Gf U 0 hg hu.len hq (by decide)])
  have gd := guard_addr
  have q1 := fun W => run_neq_addr (unmapF Gf U) Gf (unmapB Gf U) U W hul.1 hu.len
  have HAL := fun es => addE_len es f1 z1 n1 x
  have HAL2 := fun es => addE_len es Gf (withL (bitsN Gf) U (bitsN Gf) 0) ((bitsN Gf : Nat) : Int) 0
  have hm : maxLen ≤ 9223372036854775807 := by unfold maxLen; omega
  have HLE := fun k => newA_len D k
  obtain ⟨cs, ds, ecs, eds, H1, H2, HB⟩ := pref_addr_boxed f1 z1 n1 f3 z3 w l1 l3
  rw [ecs, eds]
  obtain ⟨hc1, hc2, hl, hok, hrow⟩ := hD
  have HNR := fun W h k hk hle => Lib.hid (mapNew_raws a len cap D W h k hk hle)
  clear ecs eds l1 w1 l3 w3 hu ht nw1 fw1 fw3 xw hul hac hq hl hok
  generalize withL (bitsN Gf) U (bitsN Gf) 0 = OW at *
  generalize bitsN Gf = OB at *
  generalize unmapF Gf U = UF at *
  generalize unmapB Gf U = UB at *
  by_cases h12 : 12 < len
  · have hd : decide ((12 : Int) < (len : Int)) = true := by simp; omega
    have hdn : decide (12 < len) = true := by simp; omega
    have hcp : 12 ≤ cap := by omega
    rcases hrow with h0 | ⟨g0, o0, ha0, hr0, hg0⟩
    · omega
    clear hr0 hg0
    subst ha0
    clear HLE
    go_enter Tryd.func3, Tryd.ntmps3
    go_upto_region 1 with fail
    generalize ((w.alloc (.cells cs 27)).alloc (.cells ds 25)) = W at *
    go_wp2_with (refine load_addr_g H2 _ rfl rfl rfl ?_)
    refine (HG1 _).out.mono ?_
    rintro e w2 ⟨rfl, hb2⟩
    replace H1 := Lib.hid (H1.out.below hb2)
    replace H2 := Lib.hid (H2.out.below hb2)
    replace HB := Lib.hid (chain HB.out hb2)
    clear hb2 HG1
    go_upto_region 2 with (refine store_addr H2 _ _ HLU rfl rfl rfl rfl (fun W2 HWW2 H2n => ?_))
    replace H1 := Lib.hid (show PrefAt W2 w.heap.size f1 z1 n1 by rw [HWW2.out]; exact H1.out.apart (by omega) _)
    replace HB := Lib.hid (show Below w.heap.size w W2 by rw [HWW2.out]; exact below_cells (by omega) _ _ _ HB.out)
    replace H2 := H2n
    have HNW := HNR W2 (raws_below HRW.out HB.out) 12 (by omega) (by omega)
    clear HWW2 H2n HNR
    go_wp2_with fail
    refine HNW.out.mono ?_
    rintro e V1 ⟨G, F, rfl, hT1, hF1, hb1⟩
    have HT := Lib.hid hT1
    have HGL : Hid (w.heap.size + 1 < G) := Lib.hid (by have := hF1 G hT1.lt.1; have := H2.out.lt; omega)
    have HM : Hid (∀ k ∈ F, w.heap.size + 1 < k) := Lib.hid (fun k hk => by have := hF1 k hk; have := H2.out.lt; omega)
    have HFV : Hid (∀ k ∈ F, k < V1.heap.size) := Lib.hid hT1.lt.2
    have HGF : Hid (G ∈ F) := Lib.hid hT1.lt.1
    replace H1 := Lib.hid (H1.out.below hb1)
    replace H2 := Lib.hid (H2.out.below hb1)
    replace HB := Lib.hid (chain HB.out hb1)
    clear hT1 hF1 hb1 HNW
    go_wp2_with fail
    go_loopw [10, 11] (fun r i wr => ∃ (k : Nat) (v : Value), k ≤ 12 ∧ v = r ∧ i = .int .i64 (k : Int) ∧ Hid (RowE wr 0 v (newA D k)) ∧ Hid (∀ g, v.ownBlock = some g → V1.heap.size ≤ g) ∧ Hid (Below V1.heap.size V1 wr)) (fun _ i _ => 12 - (intOf i).toNat)
    case atStart => exact ⟨0, _, Nat.zero_le _, rfl, rfl, Lib.hid (RowE.nil _ _), Lib.hid (fun g hg => by cases hg), Lib.hid (Below.refl _ _)⟩
    case round =>
      obtain ⟨k, v, hk, rfl, rfl, HR, HV, HBr⟩ := hrel
      by_cases hkK : k < 12
      · have hd9 : decide ((k : Int) < (12 : Int)) = true := by simp; omega
        have hd9n : decide (k < 12) = true := by simp; omega
        have hd9c : decide ((k : Int) < ((12 : Nat) : Int)) = true := by simp; omega
        obtain ⟨_, _, hl, hok, hrow⟩ := HRW.out
        rcases hrow with h0 | ⟨g, o, hao, hr, hg⟩
        · omega
        cases hao
        have hkr : k < D.length := by omega
        obtain ⟨r, hrk⟩ : ∃ r, D[k] = r := ⟨_, rfl⟩
        have HRK : Hid (wr.drew.rangeAt g0 (o0 + k * 19) (entL r.f r.b r.n r.v)) := Lib.hid (by have := range_raw_o (range_belowB (range_belowB hr HB.out hg) HBr.out (Nat.lt_of_lt_of_le hg HB.out.size)) hok k hkr; rw [hrk] at this; exact this)
        have HOR : Hid r.Ok := Lib.hid (by rw [← hrk]; exact hok _ (List.getElem_mem hkr))
        have HSU : Hid (newA D (k + 1) = addE (newA D k) r.f r.b r.n r.v) := Lib.hid (by rw [newA_succ D k hkr, hrk])
        have H16 := Lib.hid HOR.out.1
        have HRA := fun W h => Lib.hid (refAdd7_any v (newA D k) r.f r.b r.n r.v W 0 h HOR.out.1 HOR.out.2.1 HOR.out.2.2.2 (Nat.le_trans (newA_len D k) (by omega)))
        rw [← HSU.out] at HRA
        have hb1 : (0 : Int) ≤ (k : Int) := by omega
        have hb2 : (k : Int) < (12 : Int) := by omega
        have hb2c : (k : Int) < ((12 : Nat) : Int) := by omega
        have HGR : Hid (g0 < wr.drew.heap.size) := Lib.hid (Nat.lt_of_lt_of_le (Nat.lt_of_lt_of_le hg HB.out.size) HBr.out.size)
        clear hrk hkr hr hg hl hok
        go_wp2_with fail
        obtain ⟨L, hL⟩ : ∃ L, [(g0, o0 + k * 19, entL r.f r.b r.n r.v)] = L := ⟨_, rfl⟩
        have HK : Hid (HeldL L wr.drew) := Lib.hid (by rw [← hL]; intro y hy; rw [List.mem_singleton.1 hy]; exact HRK.out)
        have MP : Hid (InL L g0 (o0 + k * 19) (prefL r.f r.b r.n)) := Lib.hid (fun W h j u hu => h.get (b := g0) (o := o0 + k * 19) (cs := entL r.f r.b r.n r.v) (by rw [← hL]; simp) j u (by unfold entL; rw [List.getElem?_append_left (List.getElem?_eq_some_iff.1 hu).1]; exact hu))
        have MV : Hid (∀ w', HeldL L w' → w'.cell? ⟨g0, o0 + k * 19 + 18, none⟩ = some (.int .i64 r.v)) := Lib.hid (fun w' h => h.get (b := g0) (o := o0 + k * 19) (cs := entL r.f r.b r.n r.v) (by rw [← hL]; simp) 18 (.int .i64 r.v) (by unfold entL; rw [List.getElem?_append_right (by rw [prefL_len _ _ _ H16.out]; exact Nat.le_refl _), prefL_len _ _ _ H16.out]; rfl))
        have HLD : Hid (∀ y ∈ L, y.1 < wr.drew.heap.size) := Lib.hid (by rw [← hL]; intro y hy; rw [List.mem_singleton.1 hy]; exact HGR.out)
        clear hL HRK
        refine wp_region_noPanic ?_
        refine wp_region_held_drew (S := HeldL L) (by kernel_rfl) HK.out (fun hHeld => ?_)
        refine wpAnyH_take (i := 0) (v := ?_) rfl (by kernel_rfl) (by kernel_rfl) (by kernel_rfl) (fun _ _ _ h => h) (Or.inl ⟨by rfl, ?_⟩) (by assumption) ?_
        rotate_left
        · (intro w hSw; go_simp; try (with_reducible rfl))
        try simp only [Act.put, List.getElem_toArray, List.getElem_cons_zero, List.setIfInBounds_toArray, List.set_cons_zero, List.set_cons_succ]
        refine wpAnyH_take (i := 1) (v := ?_) rfl (by kernel_rfl) (by kernel_rfl) (by kernel_rfl) (fun _ _ _ h => h) (Or.inl ⟨by rfl, ?_⟩) (by assumption) ?_
        rotate_left
        · (intro w hSw; go_simp; try (with_reducible rfl))
        try simp only [Act.put, List.getElem_toArray, List.getElem_cons_zero, List.getElem_cons_succ, List.setIfInBounds_toArray, List.set_cons_zero, List.set_cons_succ]
        refine wpAnyH_take (i := 2) (v := ?_) rfl (by kernel_rfl) (by kernel_rfl) (by kernel_rfl) (fun _ _ _ h => h) (Or.inl ⟨by rfl, ?_⟩) (by assumption) ?_
        rotate_left
        · (intro w hSw; go_simp; try (with_reducible rfl))
        try simp only [Act.put, List.getElem_toArray, List.getElem_cons_zero, List.getElem_cons_succ, List.setIfInBounds_toArray, List.set_cons_zero, List.set_cons_succ]
        refine wpAnyH_take (i := 3) (v := ?_) rfl (by kernel_rfl) (by kernel_rfl) (by kernel_rfl) (fun _ _ _ h => h) (Or.inl ⟨by rfl, ?_⟩) (by assumption) ?_
        rotate_left
        · (intro w hSw; go_simp; try (with_reducible rfl))
        try simp only [Act.put, List.getElem_toArray, List.getElem_cons_zero, List.getElem_cons_succ, List.setIfInBounds_toArray, List.set_cons_zero, List.set_cons_succ]
        refine wpAnyH_take (i := 4) (v := ?_) rfl (by kernel_rfl) (by kernel_rfl) (by kernel_rfl) (fun _ _ _ h => h) (Or.inl ⟨by rfl, ?_⟩) (by assumption) ?_
        rotate_left
        · (intro w hSw; go_simp; try (with_reducible rfl))
        try simp only [Act.put, List.getElem_toArray, List.getElem_cons_zero, List.getElem_cons_succ, List.setIfInBounds_toArray, List.set_cons_zero, List.set_cons_succ]
        refine wpAnyH_take (i := 5) rfl (by kernel_rfl) (by kernel_rfl) (by kernel_rfl) (fun _ _ _ h => h) (yields_pref_l H16 MP (by rfl) _ rfl rfl) (by assumption) ?_
        try simp only [Act.put, List.getElem_toArray, List.getElem_cons_zero, List.getElem_cons_succ, List.setIfInBounds_toArray, List.set_cons_zero, List.set_cons_succ]
        refine wpAnyH_take (i := 6) (v := ?_) rfl (by kernel_rfl) (by kernel_rfl) (by kernel_rfl) (fun _ _ _ h => h) (Or.inl ⟨by rfl, ?_⟩) (by assumption) ?_
        rotate_left
        · (intro w hSw; go_simp; try (with_reducible rfl))
        try simp only [Act.put, List.getElem_toArray, List.getElem_cons_zero, List.getElem_cons_succ, List.setIfInBounds_toArray, List.set_cons_zero, List.set_cons_succ]
        refine wpAnyH_take (i := 7) (v := ?_) rfl (by kernel_rfl) (by kernel_rfl) (by kernel_rfl) (fun _ _ _ h => h) (Or.inl ⟨by rfl, ?_⟩) (by assumption) ?_
        rotate_left
        · (intro w hSw; go_simp; try (with_reducible rfl))
        try simp only [Act.put, List.getElem_toArray, List.getElem_cons_zero, List.getElem_cons_succ, List.setIfInBounds_toArray, List.set_cons_zero, List.set_cons_succ]
        refine wpAnyH_take (i := 8) (v := ?_) rfl (by kernel_rfl) (by kernel_rfl) (by kernel_rfl) (fun _ _ _ h => h) (Or.inl ⟨by rfl, ?_⟩) (by assumption) ?_
        rotate_left
        · (intro w hSw; go_simp; try (with_reducible rfl))
        try simp only [Act.put, List.getElem_toArray, List.getElem_cons_zero, List.getElem_cons_succ, List.setIfInBounds_toArray, List.set_cons_zero, List.set_cons_succ]
        refine wpAnyH_take (i := 9) (v := ?_) rfl (by kernel_rfl) (by kernel_rfl) (by kernel_rfl) (fun _ _ _ h => h) (Or.inl ⟨by rfl, ?_⟩) (by assumption) ?_
        rotate_left
        · (intro w hSw; go_simp; try (with_reducible rfl))
        try simp only [Act.put, List.getElem_toArray, List.getElem_cons_zero, List.getElem_cons_succ, List.setIfInBounds_toArray, List.set_cons_zero, List.set_cons_succ]
        refine wpAnyH_take (i := 10) (v := ?_) rfl (by kernel_rfl) (by kernel_rfl) (by kernel_rfl) (fun _ _ _ h => h) (Or.inl ⟨by rfl, ?_⟩) (by assumption) ?_
        rotate_left
        · (intro w hSw; have hc0 := MV.out w hSw; go_simp; try (with_reducible rfl))
        try simp only [Act.put, List.getElem_toArray, List.getElem_cons_zero, List.getElem_cons_succ, List.setIfInBounds_toArray, List.set_cons_zero, List.set_cons_succ]
        refine wpAnyH_ready (rs := [11]) (by kernel_rfl) (by simp) ?_
        refine AllReadyH.cons rfl (fun K hK => ?_) AllReadyH.nil
        go_simp
        refine (HRA _ (HR.out.below (Below.refl _ _).drew)).out.mono ?_
        rintro e Va ⟨va, rfl, hra, hva, hba⟩
        have HRn := Lib.hid hra
        have HBn : Hid (Below V1.heap.size V1 Va) := Lib.hid (chain HBr.out.drew hba)
        have HVn : Hid (∀ g0, va.ownBlock = some g0 → V1.heap.size ≤ g0) := Lib.hid (fun g0 hg => by
          rcases hva with rfl | h
          · exact HV.out g0 hg
          · exact Nat.le_trans HBr.out.size (h.blockLt g0 hg).1)
        have hSa := HeldL.below HK.out hba HLD.out
        clear hra hva hba HRA HR HV HBr
        go_wp2_with fail
        refine hK.out _ _ hSa (fun hHeld => ?_)
        clear hK K
        try simp only [Act.put, List.getElem_toArray, List.getElem_cons_zero, List.getElem_cons_succ, List.setIfInBounds_toArray, List.set_cons_zero, List.set_cons_succ]
        refine wpAnyH_take (i := 12) (v := ?_) rfl (by kernel_rfl) (by kernel_rfl) (by kernel_rfl) (fun _ _ _ h => h) (Or.inl ⟨by rfl, ?_⟩) (by assumption) ?_
        rotate_left
        · (intro w hSw; go_simp; try (with_reducible rfl))
        try simp only [Act.put, List.getElem_toArray, List.getElem_cons_zero, List.getElem_cons_succ, List.setIfInBounds_toArray, List.set_cons_zero, List.set_cons_succ]
        refine wpAnyH_take (i := 13) (v := ?_) rfl (by kernel_rfl) (by kernel_rfl) (by kernel_rfl) (fun _ _ _ h => h) (Or.inl ⟨by rfl, ?_⟩) (by assumption) ?_
        rotate_left
        · (intro w hSw; go_simp; try (with_reducible rfl))
        try simp only [Act.put, List.getElem_toArray, List.getElem_cons_zero, List.getElem_cons_succ, List.setIfInBounds_toArray, List.set_cons_zero, List.set_cons_succ]
        refine wpAnyH_take (i := 14) (v := ?_) rfl (by kernel_rfl) (by kernel_rfl) (by kernel_rfl) (fun _ _ _ h => h) (Or.inl ⟨by rfl, ?_⟩) (by assumption) ?_
        rotate_left
        · (intro w hSw; go_simp; try (with_reducible rfl))
        try simp only [Act.put, List.getElem_toArray, List.getElem_cons_zero, List.getElem_cons_succ, List.setIfInBounds_toArray, List.set_cons_zero, List.set_cons_succ]
        refine wpAnyH_take (i := 15) (v := ?_) rfl (by kernel_rfl) (by kernel_rfl) (by kernel_rfl) (fun _ _ _ h => h) (Or.inl ⟨by rfl, ?_⟩) (by assumption) ?_
        rotate_left
        · (intro w hSw; go_simp; try (with_reducible rfl))
        try simp only [Act.put, List.getElem_toArray, List.getElem_cons_zero, List.getElem_cons_succ, List.setIfInBounds_toArray, List.set_cons_zero, List.set_cons_succ]
        refine wpAnyH_take (i := 16) (v := ?_) rfl (by kernel_rfl) (by kernel_rfl) (by kernel_rfl) (fun _ _ _ h => h) (Or.inl ⟨by rfl, ?_⟩) (by assumption) ?_
        rotate_left
        · (intro w hSw; go_simp; try (with_reducible rfl))
        try simp only [Act.put, List.getElem_toArray, List.getElem_cons_zero, List.getElem_cons_succ, List.setIfInBounds_toArray, List.set_cons_zero, List.set_cons_succ]
        refine wpAnyH_done (by kernel_rfl) ?_ _
        refine NoPanic.normal ?_
        go_wp2_with fail
        go_roundw
        case rel => exact ⟨k + 1, va, by omega, rfl, by go_num, HRn, HVn, HBn⟩
        case measure => simp [intOf]; omega
      · have hd9 : decide ((k : Int) < (12 : Int)) = false := by simp; omega
        have hd9n : decide (k < 12) = false := by simp; omega
        have hd9c : decide ((k : Int) < ((12 : Nat) : Int)) = false := by simp; omega
        have hle12 : (newA D k).length ≤ 12 := Nat.le_trans (newA_len D k) (by omega)
        have HKK : Hid (newA D 12 = newA D k) := Lib.hid (by rw [show k = 12 by omega])
        rw [HKK.out] at HT
        clear HKK
        replace H1 := Lib.hid (H1.out.below HBr.out)
        replace H2 := Lib.hid (H2.out.below HBr.out)
        replace HB := Lib.hid (chain HB.out HBr.out)
        replace HT := Lib.hid (HT.out.below HBr.out)
        obtain ⟨ra, rc, hrv⟩ := rowE_slice HR.out
        subst hrv
        have HNV : Hid (NotIn (.slice ra (newA D k).length rc) F) := Lib.hid (fun g hg e => by have := HV.out g hg; have := HFV.out g e; omega)
        have HVL : Hid (∀ g, Value.ownBlock (.slice ra (newA D k).length rc) = some g → g < wr.heap.size) := Lib.hid (fun g hg => (HR.out.blockLt g hg).2)
        clear HV HBr HRW
        generalize newA D k = es at *
        go_wp2_with fail
        obtain ⟨L, hL⟩ : ∃ L, [(w.heap.size + 1, 0, addrL Gf U)] = L := ⟨_, rfl⟩
        have HK : Hid (HeldL L wr.drew) := Lib.hid (by rw [← hL]; intro y hy; rw [List.mem_singleton.1 hy]; exact H2.out.range)
        have MA : Hid (InL L (w.heap.size + 1) 0 (addrL Gf U)) := Lib.hid (fun W h => h.get (by rw [← hL]; simp))
        have HLD : Hid (∀ y ∈ L, y.1 < wr.drew.heap.size ∧ y.1 ∉ [G]) := Lib.hid (by rw [← hL]; intro y hy; rw [List.mem_singleton.1 hy]; exact ⟨H2.out.lt, by have := HGL.out; simp; omega⟩)
        clear hL
        have HTD := Lib.hid (HT.out.below (Below.refl _ _).drew)
        have HRD := Lib.hid (HR.out.below (Below.refl _ _).drew)
        have HBD : Hid (Below w.heap.size w wr.drew) := Lib.hid HB.out.drew
        have H1D := Lib.hid (H1.out.below (Below.refl _ _).drew)
        have H2D := Lib.hid (H2.out.below (Below.refl _ _).drew)
        clear HT HR HB H1 H2
        refine wp_region_noPanic ?_
        refine wp_region_held_drew (S := HeldL L) (by kernel_rfl) HK.out (fun hHeld => ?_)
        generalize wr.drew = V at *
        refine wpAnyH_take (i := 0) (v := ?_) rfl (by kernel_rfl) (by kernel_rfl) (by kernel_rfl) (fun _ _ _ h => h) (Or.inl ⟨by rfl, ?_⟩) (by assumption) ?_
        rotate_left
        · (intro w hSw; go_simp; try (with_reducible rfl))
        try simp only [Act.put, List.getElem_toArray, List.getElem_cons_zero, List.setIfInBounds_toArray, List.set_cons_zero, List.set_cons_succ]
        refine wpAnyH_take (i := 1) rfl (by kernel_rfl) (by kernel_rfl) (by kernel_rfl) (fun _ _ _ h => h) (yields_addr_l HLU MA (by rfl) _ rfl rfl) (by assumption) ?_
        try simp only [Act.put, List.getElem_toArray, List.getElem_cons_zero, List.getElem_cons_succ, List.setIfInBounds_toArray, List.set_cons_zero, List.set_cons_succ]
        refine wpAnyH_take (i := 3) (v := ?_) rfl (by kernel_rfl) (by kernel_rfl) (by kernel_rfl) (fun _ _ _ h => h) (Or.inl ⟨by rfl, ?_⟩) (by assumption) ?_
        rotate_left
        · (intro w hSw; go_simp; try (with_reducible rfl))
        try simp only [Act.put, List.getElem_toArray, List.getElem_cons_zero, List.getElem_cons_succ, List.setIfInBounds_toArray, List.set_cons_zero, List.set_cons_succ]
        refine wpAnyH_take (i := 4) rfl (by kernel_rfl) (by kernel_rfl) (by kernel_rfl) (fun _ _ _ h => h) (yields_addr_l HLU MA (by rfl) _ rfl rfl) (by assumption) ?_
        try simp only [Act.put, List.getElem_toArray, List.getElem_cons_zero, List.getElem_cons_succ, List.setIfInBounds_toArray, List.set_cons_zero, List.set_cons_succ]
        refine wpAnyH_ready (rs := [2]) (by kernel_rfl) (by simp) ?_
        refine AllReadyH.cons rfl (fun K hK => ?_) AllReadyH.nil
        go_simp
        refine (HOF _ G es 0 F HTD.out (by decide) (by decide) (by omega)).out.mono ?_
        rintro e V2 ⟨rfl, ⟨st, hT2, hs0, hs1⟩, hf2⟩
        have HT := Lib.hid hT2
        have HR := Lib.hid (HRD.out.foot hf2 (fun g hg e => HNV.out g hg (by rw [List.mem_singleton.1 e]; exact HGF.out)))
        have HB := Lib.hid (HBD.out.trans (hf2.below (B := w.heap.size) (by have := HGL.out; simp; omega) HBD.out.size))
        have H1 := Lib.hid (H1D.out.foot hf2 (by have := HGL.out; simp; omega))
        have H2 := Lib.hid (H2D.out.foot7 hf2 (by have := HGL.out; simp; omega))
        have hS2 := HeldL.foot HK.out hf2 HLD.out
        have HL2 : Hid (∀ y ∈ L, y.1 < V2.heap.size) := Lib.hid (fun y hy => Nat.lt_of_lt_of_le (HLD.out y hy).1 hf2.size)
        clear hT2 hf2 HTD HRD HBD H1D H2D HLD
        go_wp2_with fail
        refine hK.out _ _ hS2 (fun hHeld => ?_)
        clear hK K
        try simp only [Act.put, List.getElem_toArray, List.getElem_cons_zero, List.getElem_cons_succ, List.setIfInBounds_toArray, List.set_cons_zero, List.set_cons_succ]
        refine wpAnyH_ready (rs := [5]) (by kernel_rfl) (by simp) ?_
        refine AllReadyH.cons rfl (fun K hK => ?_) AllReadyH.nil
        go_simp
        refine (HRO _ _ es HR.out).out.mono ?_
        rintro e V3 ⟨rfl, hb3⟩
        replace HT := Lib.hid (HT.out.below hb3)
        replace HR := Lib.hid (HR.out.below hb3)
        replace HB := Lib.hid (chain HB.out hb3)
        replace H1 := Lib.hid (H1.out.below hb3)
        replace H2 := Lib.hid (H2.out.below hb3)
        have hS3 := HeldL.below hS2 hb3 HL2.out
        clear hb3 hS2 HL2
        go_wp2_with fail
        refine hK.out _ _ hS3 (fun hHeld => ?_)
        clear hK K
        try simp only [Act.put, List.getElem_toArray, List.getElem_cons_zero, List.getElem_cons_succ, List.setIfInBounds_toArray, List.set_cons_zero, List.set_cons_succ]
        obtain ⟨X, hX⟩ : ∃ X, ofE es UF UB = X := ⟨_, rfl⟩
        rw [hX]
        have hXX : (X != X) = false := by simp
        have hEE : (((es.length : Nat) : Int) != ((es.length : Nat) : Int)) = false := by simp
        clear hX
        refine wpAnyH_take (i := 6) (v := ?_) rfl (by kernel_rfl) (by kernel_rfl) (by kernel_rfl) (fun _ _ _ h => h) (Or.inl ⟨by rfl, ?_⟩) (by assumption) ?_
        rotate_left
        · (intro w hSw; go_simp; try (with_reducible rfl))
        try simp only [Act.put, List.getElem_toArray, List.getElem_cons_zero, List.getElem_cons_succ, List.setIfInBounds_toArray, List.set_cons_zero, List.set_cons_succ]
        refine wpAnyH_take (i := 7) (v := ?_) rfl (by kernel_rfl) (by kernel_rfl) (by kernel_rfl) (fun _ _ _ h => h) (Or.inl ⟨by rfl, ?_⟩) (by assumption) ?_
        rotate_left
        · (intro w hSw; go_simp; try (with_reducible rfl))
        try simp only [Act.put, List.getElem_toArray, List.getElem_cons_zero, List.getElem_cons_succ, List.setIfInBounds_toArray, List.set_cons_zero, List.set_cons_succ]
        refine wpAnyH_take (i := 8) (v := ?_) rfl (by kernel_rfl) (by kernel_rfl) (by kernel_rfl) (fun _ _ _ h => h) (Or.inl ⟨by rfl, ?_⟩) (by assumption) ?_
        rotate_left
        · (intro w hSw; go_simp; try (with_reducible rfl))
        try simp only [Act.put, List.getElem_toArray, List.getElem_cons_zero, List.getElem_cons_succ, List.setIfInBounds_toArray, List.set_cons_zero, List.set_cons_succ]
        refine wpAnyH_take (i := 9) (v := ?_) rfl (by kernel_rfl) (by kernel_rfl) (by kernel_rfl) (fun _ _ _ h => h) (Or.inl ⟨by rfl, ?_⟩) (by assumption) ?_
        rotate_left
        · (intro w hSw; go_simp; try (with_reducible rfl))
        try simp only [Act.put, List.getElem_toArray, List.getElem_cons_zero, List.getElem_cons_succ, List.setIfInBounds_toArray, List.set_cons_zero, List.set_cons_succ]
        refine wpAnyH_take (i := 10) (v := ?_) rfl (by kernel_rfl) (by kernel_rfl) (by kernel_rfl) (fun _ _ _ h => h) (Or.inl ⟨by rfl, ?_⟩) (by assumption) ?_
        rotate_left
        · (intro w hSw; go_simp; try (with_reducible rfl))
        try simp only [Act.put, List.getElem_toArray, List.getElem_cons_zero, List.getElem_cons_succ, List.setIfInBounds_toArray, List.set_cons_zero, List.set_cons_succ]
        refine wpAnyH_take (i := 12) (v := ?_) rfl (by kernel_rfl) (by kernel_rfl) (by kernel_rfl) (fun _ _ _ h => h) (Or.inl ⟨by rfl, ?_⟩) (by assumption) ?_
        rotate_left
        · (intro w hSw; go_simp; try (with_reducible rfl))
        try simp only [Act.put, List.getElem_toArray, List.getElem_cons_zero, List.getElem_cons_succ, List.setIfInBounds_toArray, List.set_cons_zero, List.set_cons_succ]
        refine wpAnyH_take (i := 13) (v := ?_) rfl (by kernel_rfl) (by kernel_rfl) (by kernel_rfl) (fun _ _ _ h => h) (Or.inl ⟨by rfl, ?_⟩) (by assumption) ?_
        rotate_left
        · (intro w hSw; go_simp; try (with_reducible rfl))
        try simp only [Act.put, List.getElem_toArray, List.getElem_cons_zero, List.getElem_cons_succ, List.setIfInBounds_toArray, List.set_cons_zero, List.set_cons_succ]
        refine wpAnyH_ready (rs := [11]) (by kernel_rfl) (by simp) ?_
        refine AllReadyH.cons rfl (fun K hK => ?_) AllReadyH.nil
        go_simp
        refine (HLN _ G es st F HT.out).out.mono ?_
        rintro e V4 ⟨rfl, rfl⟩
        skip
        go_wp2_with fail
        refine hK.out _ _ hS3 (fun hHeld => ?_)
        clear hK K
        try simp only [Act.put, List.getElem_toArray, List.getElem_cons_zero, List.getElem_cons_succ, List.setIfInBounds_toArray, List.set_cons_zero, List.set_cons_succ]
        refine wpAnyH_take (i := 14) (v := ?_) rfl (by kernel_rfl) (by kernel_rfl) (by kernel_rfl) (fun _ _ _ h => h) (Or.inl ⟨by rfl, ?_⟩) (by assumption) ?_
        rotate_left
        · (intro w hSw; go_simp; try (with_reducible rfl))
        try simp only [Act.put, List.getElem_toArray, List.getElem_cons_zero, List.getElem_cons_succ, List.setIfInBounds_toArray, List.set_cons_zero, List.set_cons_succ]
        refine wpAnyH_take (i := 15) (v := ?_) rfl (by kernel_rfl) (by kernel_rfl) (by kernel_rfl) (fun _ _ _ h => h) (Or.inl ⟨by rfl, ?_⟩) (by assumption) ?_
        rotate_left
        · (intro w hSw; go_simp; try (with_reducible rfl))
        try simp only [Act.put, List.getElem_toArray, List.getElem_cons_zero, List.getElem_cons_succ, List.setIfInBounds_toArray, List.set_cons_zero, List.set_cons_succ]
        refine wpAnyH_done (by kernel_rfl) ?_ _
        refine NoPanic.normal ?_
        clear hXX hEE hHeld hS3 MA HK
        have hal := HAL es
        have hal2 := HAL2 (addE es f1 z1 n1 x)
        go_wp2_with (refine load_pref_g H1 _ rfl rfl rfl ?_)
        refine (HAR _ _ es HR.out (by omega)).out.mono ?_
        rintro e V5 ⟨vn, rfl, hrn, hvn, hb5⟩
        have HNN : Hid (NotIn vn F) := Lib.hid (fun g hg e => by
          rcases hvn with rfl | h
          · exact HNV.out g hg e
          · have := (h.blockLt g hg).1; have := HT.out.lt.2 g e; omega)
        have HRn := Lib.hid hrn
        replace HT := Lib.hid (HT.out.below hb5)
        replace HB := Lib.hid (chain HB.out hb5)
        replace H1 := Lib.hid (H1.out.below hb5)
        replace H2 := Lib.hid (H2.out.below hb5)
        clear hrn hvn hb5 HR HAR HNV HVL
        go_wp2_with (refine load_pref_g H1 _ rfl rfl rfl ?_)
        refine (HAM _ G es st F HT.out (by omega)).out.mono ?_
        rintro e V6 ⟨rfl, F6, hT6, hf6⟩
        have HT6 := Lib.hid hT6
        have HR6 := Lib.hid (HRn.out.foot hf6 HNN.out)
        have HM6 : Hid (∀ k ∈ F6, w.heap.size + 1 < k) := Lib.hid (fun k hk => by
          rcases hf6.new k hk with e | e
          · exact HM.out k e
          · have := H2.out.lt; omega)
        have HN6 : Hid (NotIn vn F6) := Lib.hid (fun g hg => hf6.out (HRn.out.blockLt g hg).2 (HNN.out g hg))
        have HB6 := Lib.hid (HB.out.trans (hf6.below (B := w.heap.size) (fun k hk => by have := HM.out k hk; omega) HB.out.size))
        have H26 := Lib.hid (H2.out.foot7 hf6 (fun e => by have := HM.out _ e; omega))
        have HG6 : Hid (G ∈ F6) := Lib.hid hT6.lt.1
        clear hT6 hf6 HT HRn HNN HM HB H1 H2 HAM HGF HFV
        generalize addC f1 z1 n1 x = c at *
        have HGE : Hid (AllGood (addE es f1 z1 n1 x)) := Lib.hid HR6.out.2.1
        obtain ⟨sa, sc, hsv⟩ := rowE_slice HR6.out
        subst hsv
        generalize addE es f1 z1 n1 x = es2 at *
        go_upto_region 17 with fail
        go_cut [17] from 78 (fun s17 wx => ∃ BO : Nat, s17 = .pointer (some ⟨BO, 0, none⟩) ∧ Hid (w.heap.size + 1 < BO ∧ ∀ k ∈ F6, k < BO) ∧ Hid (PrefAt wx BO Gf OW (OB : Int)) ∧ Hid (TabAt wx G es2 st F6) ∧ Hid (RowE wx 0 (.slice sa es2.length sc) es2) ∧ Hid (AddrAt wx (w.heap.size + 1) Gf U) ∧ Hid (Below w.heap.size w wx))
        case first =>
          obtain ⟨L, hL⟩ : ∃ L, [(w.heap.size + 1, 0, addrL Gf U)] = L := ⟨_, rfl⟩
          have HK : Hid (HeldL L V6.drew) := Lib.hid (by rw [← hL]; intro y hy; rw [List.mem_singleton.1 hy]; exact H26.out.range)
          have MA : Hid (InL L (w.heap.size + 1) 0 (addrL Gf U)) := Lib.hid (fun W h => h.get (by rw [← hL]; simp))
          have HLA : Hid (∀ A B, HeldL L A → w.heap.size + 1 < A.heap.size → Below A.heap.size A B → HeldL L B) := Lib.hid (fun A B h h2 hb => HeldL.below h hb (by rw [← hL]; intro y hy; rw [List.mem_singleton.1 hy]; exact h2))
          have HLS : Hid (∀ A BO cs, HeldL L A → w.heap.size + 1 < BO → HeldL L (A.setCells BO 0 cs)) := Lib.hid (fun A BO cs h h2 => by
            rw [← hL] at h ⊢; intro y hy; rw [List.mem_singleton.1 hy]
            exact World.rangeAt_setCells_apart (h _ (by simp)) BO 0 cs (.inl (by show w.heap.size + 1 ≠ BO; omega)))
          clear hL
          have HTD := Lib.hid (HT6.out.below (Below.refl _ _).drew)
          have HRD := Lib.hid (HR6.out.below (Below.refl _ _).drew)
          have HBD : Hid (Below w.heap.size w V6.drew) := Lib.hid HB6.out.drew
          have H2D := Lib.hid (H26.out.below (Below.refl _ _).drew)
          clear HT6 HR6 HB6 H26
          refine wp_region_noPanic ?_
          refine wp_region_held_drew (S := HeldL L) (by kernel_rfl) HK.out (fun hHeld => ?_)
          generalize V6.drew = V at *
          refine wpAnyH_take (i := 0) rfl (by kernel_rfl) (by kernel_rfl) (by kernel_rfl) (fun _ _ _ h => h) (yields_addr_l HLU MA (by rfl) _ rfl rfl) (by assumption) ?_
          try simp only [Act.put, List.getElem_toArray, List.getElem_cons_zero, List.setIfInBounds_toArray, List.set_cons_zero, List.set_cons_succ]
          refine wpAnyH_take (i := 1) rfl (by kernel_rfl) (by kernel_rfl) (by kernel_rfl) (fun _ _ _ h => h) (yields_addr_l HLU MA (by rfl) _ rfl rfl) (by assumption) ?_
          try simp only [Act.put, List.getElem_toArray, List.getElem_cons_zero, List.getElem_cons_succ, List.setIfInBounds_toArray, List.set_cons_zero, List.set_cons_succ]
          refine wpAnyH_ready (rs := [2, 4]) (by kernel_rfl) (by simp) ?_
          refine AllReadyH.cons rfl (fun K hK => ?_) (AllReadyH.one rfl rfl (fun K hK => ?_))
          · go_simp
            refine (HBI _).out.mono ?_
            rintro e Va ⟨rfl, hba⟩
            have HTa := Lib.hid (HTD.out.below hba)
            have HRa := Lib.hid (HRD.out.below hba)
            have HBa := Lib.hid (chain HBD.out hba)
            have H2a := Lib.hid (H2D.out.below hba)
            have hSa := HLA.out _ _ HK.out H2D.out.lt hba
            clear hba HTD HRD HBD H2D
            go_wp2_with fail
            refine hK.out _ _ hSa (fun hHelda => ?_)
            clear hK K
            try simp only [Act.put, List.getElem_toArray, List.getElem_cons_zero, List.getElem_cons_succ, List.setIfInBounds_toArray, List.set_cons_zero, List.set_cons_succ]
            refine wpAnyH_ready (rs := [3, 4]) (by kernel_rfl) (by simp) ?_
            refine AllReadyH.cons rfl (fun K hK => ?_) (AllReadyH.one rfl rfl (fun K hK => ?_))
            · go_simp
              refine (HMK _).out.mono ?_
              rintro e Vb ⟨rfl, hbb⟩
              have HTb := Lib.hid (HTa.out.below hbb)
              have HRb := Lib.hid (HRa.out.below hbb)
              have HBb := Lib.hid (chain HBa.out hbb)
              have H2b := Lib.hid (H2a.out.below hbb)
              have hSb := HLA.out _ _ hSa H2a.out.lt hbb
              clear hbb HTa HRa HBa H2a
              go_wp2_with fail
              refine hK.out _ _ hSb (fun hHeldb => ?_)
              clear hK K
              try simp only [Act.put, List.getElem_toArray, List.getElem_cons_zero, List.getElem_cons_succ, List.setIfInBounds_toArray, List.set_cons_zero, List.set_cons_succ]
              refine wpAnyH_ready (rs := [4]) (by kernel_rfl) (by simp) ?_
              refine AllReadyH.one rfl rfl (fun K hK => ?_)
              have hbc : Below Vb.heap.size Vb (Vb.alloc (.cells zP 27)) := (Below.refl _ _).alloc (Nat.le_refl _) _
              have HTc := Lib.hid (HTb.out.below hbc)
              have HRc := Lib.hid (HRb.out.below hbc)
              have HBc := Lib.hid (chain HBb.out hbc)
              have H2c := Lib.hid (H2b.out.below hbc)
              have hSc := HLA.out _ _ hSb H2b.out.lt hbc
              have HZc := Lib.hid (pref_zeroed Vb)
              have HBOc : Hid (w.heap.size + 1 < Vb.heap.size ∧ ∀ k ∈ F6, k < Vb.heap.size) := Lib.hid ⟨H2b.out.lt, HTb.out.lt.2⟩
              have HVOc : Hid (∀ g, Value.ownBlock (.slice sa es2.length sc) = some g → g < Vb.heap.size) := Lib.hid (fun g hg => (HRb.out.blockLt g hg).2)
              clear hbc HTb HRb HBb H2b
              go_wp2_with fail
              refine hK.out _ _ hSc (fun hHeldc => ?_)
              clear hK K
              try simp only [Act.put, List.getElem_toArray, List.getElem_cons_zero, List.getElem_cons_succ, List.setIfInBounds_toArray, List.set_cons_zero, List.set_cons_succ]
              generalize (Vb.alloc (.cells zP 27)) = Xc at *
              generalize Vb.heap.size = BO at *
              have HBO := HBOc
              have HVO := HVOc
              refine wpAnyH_ready (rs := [5]) (by kernel_rfl) (by simp) ?_
              refine AllReadyH.one rfl rfl (fun K hK => ?_)
              refine wp_store_pref HZc _ _ HOW rfl rfl rfl (fun HQ => ?_)
              refine hK.out _ _ (HLS.out _ _ _ (by assumption) HBO.out.1) (fun hHeld9 => ?_)
              clear hK K
              try simp only [Act.put, List.getElem_toArray, List.getElem_cons_zero, List.getElem_cons_succ]
              refine wpAnyH_done (by kernel_rfl) ?_ _
              refine NoPanic.normal ?_
              go_wp2_with fail
              go_meet
              case rel =>
                have h := own_laid (cs := prefL Gf OW (OB : Int)) HTc.out HRc.out H2c.out HBc.out HBO.out.2 HVO.out HBO.out.1
                exact ⟨BO, rfl, HBO, HQ, Lib.hid h.1, Lib.hid h.2.1, Lib.hid h.2.2.1, Lib.hid h.2.2.2⟩
            · have hbb : Below Va.heap.size Va (Va.alloc (.cells zP 27)) := (Below.refl _ _).alloc (Nat.le_refl _) _
              have HTb := Lib.hid (HTa.out.below hbb)
              have HRb := Lib.hid (HRa.out.below hbb)
              have HBb := Lib.hid (chain HBa.out hbb)
              have H2b := Lib.hid (H2a.out.below hbb)
              have hSb := HLA.out _ _ hSa H2a.out.lt hbb
              have HZb := Lib.hid (pref_zeroed Va)
              have HBOb : Hid (w.heap.size + 1 < Va.heap.size ∧ ∀ k ∈ F6, k < Va.heap.size) := Lib.hid ⟨H2a.out.lt, HTa.out.lt.2⟩
              have HVOb : Hid (∀ g, Value.ownBlock (.slice sa es2.length sc) = some g → g < Va.heap.size) := Lib.hid (fun g hg => (HRa.out.blockLt g hg).2)
              clear hbb HTa HRa HBa H2a
              go_wp2_with fail
              refine hK.out _ _ hSb (fun hHeldb => ?_)
              clear hK K
              try simp only [Act.put, List.getElem_toArray, List.getElem_cons_zero, List.getElem_cons_succ, List.setIfInBounds_toArray, List.set_cons_zero, List.set_cons_succ]
              generalize (Va.alloc (.cells zP 27)) = Xb at *
              generalize Va.heap.size = BO at *
              have HBO := HBOb
              have HVO := HVOb
              refine wpAnyH_ready (rs := [3]) (by kernel_rfl) (by simp) ?_
              refine AllReadyH.cons rfl (fun K hK => ?_) AllReadyH.nil
              go_simp
              refine (HMK _).out.mono ?_
              rintro e Vc ⟨rfl, hbc⟩
              have HTc := Lib.hid (HTb.out.below hbc)
              have HRc := Lib.hid (HRb.out.below hbc)
              have HBc := Lib.hid (chain HBb.out hbc)
              have H2c := Lib.hid (H2b.out.below hbc)
              have hSc := HLA.out _ _ hSb H2b.out.lt hbc
              have HZc := Lib.hid (HZb.out.below hbc)
              clear hbc HTb HRb HBb H2b
              go_wp2_with fail
              refine hK.out _ _ hSc (fun hHeldc => ?_)
              clear hK K
              try simp only [Act.put, List.getElem_toArray, List.getElem_cons_zero, List.getElem_cons_succ, List.setIfInBounds_toArray, List.set_cons_zero, List.set_cons_succ]
              refine wpAnyH_ready (rs := [5]) (by kernel_rfl) (by simp) ?_
              refine AllReadyH.one rfl rfl (fun K hK => ?_)
              refine wp_store_pref HZc _ _ HOW rfl rfl rfl (fun HQ => ?_)
              refine hK.out _ _ (HLS.out _ _ _ (by assumption) HBO.out.1) (fun hHeld9 => ?_)
              clear hK K
              try simp only [Act.put, List.getElem_toArray, List.getElem_cons_zero, List.getElem_cons_succ]
              refine wpAnyH_done (by kernel_rfl) ?_ _
              refine NoPanic.normal ?_
              go_wp2_with fail
              go_meet
              case rel =>
                have h := own_laid (cs := prefL Gf OW (OB : Int)) HTc.out HRc.out H2c.out HBc.out HBO.out.2 HVO.out HBO.out.1
                exact ⟨BO, rfl, HBO, HQ, Lib.hid h.1, Lib.hid h.2.1, Lib.hid h.2.2.1, Lib.hid h.2.2.2⟩
          · have hba : Below V.heap.size V (V.alloc (.cells zP 27)) := (Below.refl _ _).alloc (Nat.le_refl _) _
            have HTa := Lib.hid (HTD.out.below hba)
            have HRa := Lib.hid (HRD.out.below hba)
            have HBa := Lib.hid (chain HBD.out hba)
            have H2a := Lib.hid (H2D.out.below hba)
            have hSa := HLA.out _ _ HK.out H2D.out.lt hba
            have HZa := Lib.hid (pref_zeroed V)
            have HBOa : Hid (w.heap.size + 1 < V.heap.size ∧ ∀ k ∈ F6, k < V.heap.size) := Lib.hid ⟨H2D.out.lt, HTD.out.lt.2⟩
            have HVOa : Hid (∀ g, Value.ownBlock (.slice sa es2.length sc) = some g → g < V.heap.size) := Lib.hid (fun g hg => (HRD.out.blockLt g hg).2)
            clear hba HTD HRD HBD H2D
            go_wp2_with fail
            refine hK.out _ _ hSa (fun hHelda => ?_)
            clear hK K
            try simp only [Act.put, List.getElem_toArray, List.getElem_cons_zero, List.getElem_cons_succ, List.setIfInBounds_toArray, List.set_cons_zero, List.set_cons_succ]
            generalize (V.alloc (.cells zP 27)) = Xa at *
            generalize V.heap.size = BO at *
            have HBO := HBOa
            have HVO := HVOa
            refine wpAnyH_ready (rs := [2]) (by kernel_rfl) (by simp) ?_
            refine AllReadyH.cons rfl (fun K hK => ?_) AllReadyH.nil
            go_simp
            refine (HBI _).out.mono ?_
            rintro e Vb ⟨rfl, hbb⟩
            have HTb := Lib.hid (HTa.out.below hbb)
            have HRb := Lib.hid (HRa.out.below hbb)
            have HBb := Lib.hid (chain HBa.out hbb)
            have H2b := Lib.hid (H2a.out.below hbb)
            have hSb := HLA.out _ _ hSa H2a.out.lt hbb
            have HZb := Lib.hid (HZa.out.below hbb)
            clear hbb HTa HRa HBa H2a
            go_wp2_with fail
            refine hK.out _ _ hSb (fun hHeldb => ?_)
            clear hK K
            try simp only [Act.put, List.getElem_toArray, List.getElem_cons_zero, List.getElem_cons_succ, List.setIfInBounds_toArray, List.set_cons_zero, List.set_cons_succ]
            refine wpAnyH_ready (rs := [3]) (by kernel_rfl) (by simp) ?_
            refine AllReadyH.cons rfl (fun K hK => ?_) AllReadyH.nil
            go_simp
            refine (HMK _).out.mono ?_
            rintro e Vc ⟨rfl, hbc⟩
            have HTc := Lib.hid (HTb.out.below hbc)
            have HRc := Lib.hid (HRb.out.below hbc)
            have HBc := Lib.hid (chain HBb.out hbc)
            have H2c := Lib.hid (H2b.out.below hbc)
            have hSc := HLA.out _ _ hSb H2b.out.lt hbc
            have HZc := Lib.hid (HZb.out.below hbc)
            clear hbc HTb HRb HBb H2b
            go_wp2_with fail
            refine hK.out _ _ hSc (fun hHeldc => ?_)
            clear hK K
            try simp only [Act.put, List.getElem_toArray, List.getElem_cons_zero, List.getElem_cons_succ, List.setIfInBounds_toArray, List.set_cons_zero, List.set_cons_succ]
            refine wpAnyH_ready (rs := [5]) (by kernel_rfl) (by simp) ?_
            refine AllReadyH.one rfl rfl (fun K hK => ?_)
            refine wp_store_pref HZc _ _ HOW rfl rfl rfl (fun HQ => ?_)
            refine hK.out _ _ (HLS.out _ _ _ (by assumption) HBO.out.1) (fun hHeld9 => ?_)
            clear hK K
            try simp only [Act.put, List.getElem_toArray, List.getElem_cons_zero, List.getElem_cons_succ]
            refine wpAnyH_done (by kernel_rfl) ?_ _
            refine NoPanic.normal ?_
            go_wp2_with fail
            go_meet
            case rel =>
              have h := own_laid (cs := prefL Gf OW (OB : Int)) HTc.out HRc.out H2c.out HBc.out HBO.out.2 HVO.out HBO.out.1
              exact ⟨BO, rfl, HBO, HQ, Lib.hid h.1, Lib.hid h.2.1, Lib.hid h.2.2.1, Lib.hid h.2.2.2⟩
        case rest =>
          obtain ⟨BO, rfl, HBO, HPO, HT6, HR6, H26, HB6⟩ := hcut
          clear HBI HMK
          have hcc : (c == c) = true := by simp
          obtain ⟨L, hL⟩ : ∃ L, [(w.heap.size + 1, 0, addrL Gf U), (BO, 0, prefL Gf OW (OB : Int))] = L := ⟨_, rfl⟩
          have HK : Hid (HeldL L wc.drew) := Lib.hid (by
            rw [← hL]; intro y hy
            simp only [List.mem_cons, List.not_mem_nil, or_false] at hy
            rcases hy with rfl | rfl
            · exact H26.out.range
            · exact HPO.out.range)
          have MA : Hid (InL L (w.heap.size + 1) 0 (addrL Gf U)) := Lib.hid (fun W h => h.get (by rw [← hL]; simp))
          have MP : Hid (InL L BO 0 (prefL Gf OW (OB : Int))) := Lib.hid (fun W h => h.get (by rw [← hL]; simp))
          have HLD : Hid (∀ y ∈ L, y.1 < wc.drew.heap.size ∧ y.1 ∉ F6) := Lib.hid (by
            rw [← hL]; intro y hy
            simp only [List.mem_cons, List.not_mem_nil, or_false] at hy
            rcases hy with rfl | rfl
            · exact ⟨H26.out.lt, fun e => by have := HM6.out _ e; omega⟩
            · exact ⟨HPO.out.addr.lt, fun e => by have := HBO.out.2 _ e; omega⟩)
          clear hL
          have HTD := Lib.hid (HT6.out.below (Below.refl _ _).drew)
          have HRD := Lib.hid (HR6.out.below (Below.refl _ _).drew)
          have HBD : Hid (Below w.heap.size w wc.drew) := Lib.hid HB6.out.drew
          clear HT6 HR6 HB6 H26 HPO HBO
          go_wp2_with fail
          refine wp_region_noPanic ?_
          refine wp_region_held_drew (S := HeldL L) (by kernel_rfl) HK.out (fun hHeld => ?_)
          generalize wc.drew = V at *
          refine wpAnyH_take (i := 0) (v := ?_) rfl (by kernel_rfl) (by kernel_rfl) (by kernel_rfl) (fun _ _ _ h => h) (Or.inl ⟨by rfl, ?_⟩) (by assumption) ?_
          rotate_left
          · (intro w hSw; go_simp; try (with_reducible rfl))
          try simp only [Act.put, List.getElem_toArray, List.getElem_cons_zero, List.setIfInBounds_toArray, List.set_cons_zero, List.set_cons_succ]
          refine wpAnyH_take (i := 1) (v := ?_) rfl (by kernel_rfl) (by kernel_rfl) (by kernel_rfl) (fun _ _ _ h => h) (Or.inl ⟨by rfl, ?_⟩) (by assumption) ?_
          rotate_left
          · (intro w hSw; go_simp; try (with_reducible rfl))
          try simp only [Act.put, List.getElem_toArray, List.getElem_cons_zero, List.getElem_cons_succ, List.setIfInBounds_toArray, List.set_cons_zero, List.set_cons_succ]
          refine wpAnyH_take (i := 2) (v := ?_) rfl (by kernel_rfl) (by kernel_rfl) (by kernel_rfl) (fun _ _ _ h => h) (Or.inl ⟨by rfl, ?_⟩) (by assumption) ?_
          rotate_left
          · (intro w hSw; go_simp; try (with_reducible rfl))
          try simp only [Act.put, List.getElem_toArray, List.getElem_cons_zero, List.getElem_cons_succ, List.setIfInBounds_toArray, List.set_cons_zero, List.set_cons_succ]
          refine wpAnyH_take (i := 3) (v := ?_) rfl (by kernel_rfl) (by kernel_rfl) (by kernel_rfl) (fun _ _ _ h => h) (Or.inl ⟨by rfl, ?_⟩) (by assumption) ?_
          rotate_left
          · (intro w hSw; go_simp; try (with_reducible rfl))
          try simp only [Act.put, List.getElem_toArray, List.getElem_cons_zero, List.getElem_cons_succ, List.setIfInBounds_toArray, List.set_cons_zero, List.set_cons_succ]
          refine wpAnyH_take (i := 4) (v := ?_) rfl (by kernel_rfl) (by kernel_rfl) (by kernel_rfl) (fun _ _ _ h => h) (Or.inl ⟨by rfl, ?_⟩) (by assumption) ?_
          rotate_left
          · (intro w hSw; go_simp; try (with_reducible rfl))
          try simp only [Act.put, List.getElem_toArray, List.getElem_cons_zero, List.getElem_cons_succ, List.setIfInBounds_toArray, List.set_cons_zero, List.set_cons_succ]
          refine wpAnyH_take (i := 5) rfl (by kernel_rfl) (by kernel_rfl) (by kernel_rfl) (fun _ _ _ h => h) (yields_addr_l HLU MA (by rfl) _ rfl rfl) (by assumption) ?_
          try simp only [Act.put, List.getElem_toArray, List.getElem_cons_zero, List.getElem_cons_succ, List.setIfInBounds_toArray, List.set_cons_zero, List.set_cons_succ]
          refine wpAnyH_take (i := 7) (v := ?_) rfl (by kernel_rfl) (by kernel_rfl) (by kernel_rfl) (fun _ _ _ h => h) (Or.inl ⟨by rfl, ?_⟩) (by assumption) ?_
          rotate_left
          · (intro w hSw; go_simp; try (with_reducible rfl))
          try simp only [Act.put, List.getElem_toArray, List.getElem_cons_zero, List.getElem_cons_succ, List.setIfInBounds_toArray, List.set_cons_zero, List.set_cons_succ]
          refine wpAnyH_take (i := 8) rfl (by kernel_rfl) (by kernel_rfl) (by kernel_rfl) (fun _ _ _ h => h) (yields_addr_l HLU MA (by rfl) _ rfl rfl) (by assumption) ?_
          try simp only [Act.put, List.getElem_toArray, List.getElem_cons_zero, List.getElem_cons_succ, List.setIfInBounds_toArray, List.set_cons_zero, List.set_cons_succ]
          refine wpAnyH_ready (rs := [6]) (by kernel_rfl) (by simp) ?_
          refine AllReadyH.cons rfl (fun K hK => ?_) AllReadyH.nil
          go_simp
          refine (HOF _ G es2 st F6 HTD.out hs0 (by omega) (by omega)).out.mono ?_
          rintro e V2 ⟨rfl, ⟨st2, hT2, hs2, hs2b⟩, hf2⟩
          have HT := Lib.hid hT2
          have HR := Lib.hid (HRD.out.foot hf2 (fun g hg e => HN6.out g hg (by rw [List.mem_singleton.1 e]; exact HG6.out)))
          have HB := Lib.hid (HBD.out.trans (hf2.below (B := w.heap.size) (by have := HGL.out; simp; omega) HBD.out.size))
          have hS2 := HeldL.foot HK.out hf2 (fun y hy => ⟨(HLD.out y hy).1, fun e => (HLD.out y hy).2 (by rw [List.mem_singleton.1 e]; exact HG6.out)⟩)
          have HL2 : Hid (∀ y ∈ L, y.1 < V2.heap.size ∧ y.1 ∉ F6) := Lib.hid (fun y hy => ⟨Nat.lt_of_lt_of_le (HLD.out y hy).1 hf2.size, (HLD.out y hy).2⟩)
          clear hT2 hf2 HTD HRD HBD HLD
          go_wp2_with fail
          refine hK.out _ _ hS2 (fun hHeld => ?_)
          clear hK K
          try simp only [Act.put, List.getElem_toArray, List.getElem_cons_zero, List.getElem_cons_succ, List.setIfInBounds_toArray, List.set_cons_zero, List.set_cons_succ]
          refine wpAnyH_ready (rs := [9]) (by kernel_rfl) (by simp) ?_
          refine AllReadyH.cons rfl (fun K hK => ?_) AllReadyH.nil
          go_simp
          refine (HRO _ _ es2 HR.out).out.mono ?_
          rintro e V3 ⟨rfl, hb3⟩
          replace HT := Lib.hid (HT.out.below hb3)
          replace HB := Lib.hid (chain HB.out hb3)
          have hS3 := HeldL.below hS2 hb3 (fun y hy => (HL2.out y hy).1)
          have HL3 : Hid (∀ y ∈ L, y.1 < V3.heap.size ∧ y.1 ∉ F6) := Lib.hid (fun y hy => ⟨Nat.lt_of_lt_of_le (HL2.out y hy).1 hb3.size, (HL2.out y hy).2⟩)
          clear hb3 HR HL2 hS2 HRO
          go_wp2_with fail
          refine hK.out _ _ hS3 (fun hHeld => ?_)
          clear hK K
          try simp only [Act.put, List.getElem_toArray, List.getElem_cons_zero, List.getElem_cons_succ, List.setIfInBounds_toArray, List.set_cons_zero, List.set_cons_succ]
          obtain ⟨X, hX⟩ : ∃ X, ofE es2 UF UB = X := ⟨_, rfl⟩
          rw [hX]
          have hXX : (X == X) = true := by simp
          have hEE : (((es2.length : Nat) : Int) == ((es2.length : Nat) : Int)) = true := by simp
          clear hX
          refine wpAnyH_take (i := 10) (v := ?_) rfl (by kernel_rfl) (by kernel_rfl) (by kernel_rfl) (fun _ _ _ h => h) (Or.inl ⟨by rfl, ?_⟩) (by assumption) ?_
          rotate_left
          · (intro w hSw; go_simp; try (with_reducible rfl))
          try simp only [Act.put, List.getElem_toArray, List.getElem_cons_zero, List.getElem_cons_succ, List.setIfInBounds_toArray, List.set_cons_zero, List.set_cons_succ]
          refine wpAnyH_take (i := 11) (v := ?_) rfl (by kernel_rfl) (by kernel_rfl) (by kernel_rfl) (fun _ _ _ h => h) (Or.inl ⟨by rfl, ?_⟩) (by assumption) ?_
          rotate_left
          · (intro w hSw; go_simp; try (with_reducible rfl))
          try simp only [Act.put, List.getElem_toArray, List.getElem_cons_zero, List.getElem_cons_succ, List.setIfInBounds_toArray, List.set_cons_zero, List.set_cons_succ]
          refine wpAnyH_take (i := 12) (v := ?_) rfl (by kernel_rfl) (by kernel_rfl) (by kernel_rfl) (fun _ _ _ h => h) (Or.inl ⟨by rfl, ?_⟩) (by assumption) ?_
          rotate_left
          · (intro w hSw; go_simp; try (with_reducible rfl))
          try simp only [Act.put, List.getElem_toArray, List.getElem_cons_zero, List.getElem_cons_succ, List.setIfInBounds_toArray, List.set_cons_zero, List.set_cons_succ]
          refine wpAnyH_take (i := 13) (v := ?_) rfl (by kernel_rfl) (by kernel_rfl) (by kernel_rfl) (fun _ _ _ h => h) (Or.inl ⟨by rfl, ?_⟩) (by assumption) ?_
          rotate_left
          · (intro w hSw; go_simp; try (with_reducible rfl))
          try simp only [Act.put, List.getElem_toArray, List.getElem_cons_zero, List.getElem_cons_succ, List.setIfInBounds_toArray, List.set_cons_zero, List.set_cons_succ]
          refine wpAnyH_take (i := 14) (v := ?_) rfl (by kernel_rfl) (by kernel_rfl) (by kernel_rfl) (fun _ _ _ h => h) (Or.inl ⟨by rfl, ?_⟩) (by assumption) ?_
          rotate_left
          · (intro w hSw; go_simp; try (with_reducible rfl))
          try simp only [Act.put, List.getElem_toArray, List.getElem_cons_zero, List.getElem_cons_succ, List.setIfInBounds_toArray, List.set_cons_zero, List.set_cons_succ]
          refine wpAnyH_take (i := 15) (v := ?_) rfl (by kernel_rfl) (by kernel_rfl) (by kernel_rfl) (fun _ _ _ h => h) (Or.inl ⟨by rfl, ?_⟩) (by assumption) ?_
          rotate_left
          · (intro w hSw; go_simp; try (with_reducible rfl))
          try simp only [Act.put, List.getElem_toArray, List.getElem_cons_zero, List.getElem_cons_succ, List.setIfInBounds_toArray, List.set_cons_zero, List.set_cons_succ]
          refine wpAnyH_take (i := 17) (v := ?_) rfl (by kernel_rfl) (by kernel_rfl) (by kernel_rfl) (fun _ _ _ h => h) (Or.inl ⟨by rfl, ?_⟩) (by assumption) ?_
          rotate_left
          · (intro w hSw; go_simp; try (with_reducible rfl))
          try simp only [Act.put, List.getElem_toArray, List.getElem_cons_zero, List.getElem_cons_succ, List.setIfInBounds_toArray, List.set_cons_zero, List.set_cons_succ]
          refine wpAnyH_take (i := 18) (v := ?_) rfl (by kernel_rfl) (by kernel_rfl) (by kernel_rfl) (fun _ _ _ h => h) (Or.inl ⟨by rfl, ?_⟩) (by assumption) ?_
          rotate_left
          · (intro w hSw; go_simp; try (with_reducible rfl))
          try simp only [Act.put, List.getElem_toArray, List.getElem_cons_zero, List.getElem_cons_succ, List.setIfInBounds_toArray, List.set_cons_zero, List.set_cons_succ]
          refine wpAnyH_ready (rs := [16]) (by kernel_rfl) (by simp) ?_
          refine AllReadyH.cons rfl (fun K hK => ?_) AllReadyH.nil
          go_simp
          refine (HLN _ G es2 st2 F6 HT.out).out.mono ?_
          rintro e V4 ⟨rfl, rfl⟩
          skip
          go_wp2_with fail
          refine hK.out _ _ hS3 (fun hHeld => ?_)
          clear hK K
          try simp only [Act.put, List.getElem_toArray, List.getElem_cons_zero, List.getElem_cons_succ, List.setIfInBounds_toArray, List.set_cons_zero, List.set_cons_succ]
          refine wpAnyH_take (i := 19) (v := ?_) rfl (by kernel_rfl) (by kernel_rfl) (by kernel_rfl) (fun _ _ _ h => h) (Or.inl ⟨by rfl, ?_⟩) (by assumption) ?_
          rotate_left
          · (intro w hSw; go_simp; try (with_reducible rfl))
          try simp only [Act.put, List.getElem_toArray, List.getElem_cons_zero, List.getElem_cons_succ, List.setIfInBounds_toArray, List.set_cons_zero, List.set_cons_succ]
          refine wpAnyH_take (i := 20) (v := ?_) rfl (by kernel_rfl) (by kernel_rfl) (by kernel_rfl) (fun _ _ _ h => h) (Or.inl ⟨by rfl, ?_⟩) (by assumption) ?_
          rotate_left
          · (intro w hSw; go_simp; try (with_reducible rfl))
          try simp only [Act.put, List.getElem_toArray, List.getElem_cons_zero, List.getElem_cons_succ, List.setIfInBounds_toArray, List.set_cons_zero, List.set_cons_succ]
          refine wpAnyH_take (i := 21) (v := ?_) rfl (by kernel_rfl) (by kernel_rfl) (by kernel_rfl) (fun _ _ _ h => h) (Or.inl ⟨by rfl, ?_⟩) (by assumption) ?_
          rotate_left
          · (intro w hSw; go_simp; try (with_reducible rfl))
          try simp only [Act.put, List.getElem_toArray, List.getElem_cons_zero, List.getElem_cons_succ, List.setIfInBounds_toArray, List.set_cons_zero, List.set_cons_succ]
          refine wpAnyH_take (i := 22) (v := ?_) rfl (by kernel_rfl) (by kernel_rfl) (by kernel_rfl) (fun _ _ _ h => h) (Or.inl ⟨by rfl, ?_⟩) (by assumption) ?_
          rotate_left
          · (intro w hSw; go_simp; try (with_reducible rfl))
          try simp only [Act.put, List.getElem_toArray, List.getElem_cons_zero, List.getElem_cons_succ, List.setIfInBounds_toArray, List.set_cons_zero, List.set_cons_succ]
          refine wpAnyH_take (i := 23) rfl (by kernel_rfl) (by kernel_rfl) (by kernel_rfl) (fun _ _ _ h => h) (yields_pref_l HOW MP (by rfl) _ rfl rfl) (by assumption) ?_
          try simp only [Act.put, List.getElem_toArray, List.getElem_cons_zero, List.getElem_cons_succ, List.setIfInBounds_toArray, List.set_cons_zero, List.set_cons_succ]
          refine wpAnyH_ready (rs := [24]) (by kernel_rfl) (by simp) ?_
          refine AllReadyH.cons rfl (fun K hK => ?_) AllReadyH.nil
          go_simp
          refine (HAO _ G es2 st2 F6 HT.out (by omega)).out.mono ?_
          rintro e V5 ⟨rfl, F7, hT5, hf5⟩
          have HT5 := Lib.hid hT5
          have HB5 := Lib.hid (HB.out.trans (hf5.below (B := w.heap.size) (fun k hk => by have := HM6.out k hk; omega) HB.out.size))
          have hS5 := HeldL.foot hS3 hf5 HL3.out
          have HL5 : Hid (∀ y ∈ L, y.1 < V5.heap.size ∧ y.1 ∉ F7) := Lib.hid (fun y hy => ⟨Nat.lt_of_lt_of_le (HL3.out y hy).1 hf5.size, hf5.out (HL3.out y hy).1 (HL3.out y hy).2⟩)
          have HG7 : Hid (G ∈ F7) := Lib.hid hT5.lt.1
          clear hT5 hf5 HT HB hS3 HL3
          go_wp2_with fail
          refine hK.out _ _ hS5 (fun hHeld => ?_)
          clear hK K
          try simp only [Act.put, List.getElem_toArray, List.getElem_cons_zero, List.getElem_cons_succ, List.setIfInBounds_toArray, List.set_cons_zero, List.set_cons_succ]
          refine wpAnyH_take (i := 25) (v := ?_) rfl (by kernel_rfl) (by kernel_rfl) (by kernel_rfl) (fun _ _ _ h => h) (Or.inl ⟨by rfl, ?_⟩) (by assumption) ?_
          rotate_left
          · (intro w hSw; go_simp; try (with_reducible rfl))
          try simp only [Act.put, List.getElem_toArray, List.getElem_cons_zero, List.getElem_cons_succ, List.setIfInBounds_toArray, List.set_cons_zero, List.set_cons_succ]
          refine wpAnyH_take (i := 26) (v := ?_) rfl (by kernel_rfl) (by kernel_rfl) (by kernel_rfl) (fun _ _ _ h => h) (Or.inl ⟨by rfl, ?_⟩) (by assumption) ?_
          rotate_left
          · (intro w hSw; go_simp; try (with_reducible rfl))
          try simp only [Act.put, List.getElem_toArray, List.getElem_cons_zero, List.getElem_cons_succ, List.setIfInBounds_toArray, List.set_cons_zero, List.set_cons_succ]
          refine wpAnyH_take (i := 27) (v := ?_) rfl (by kernel_rfl) (by kernel_rfl) (by kernel_rfl) (fun _ _ _ h => h) (Or.inl ⟨by rfl, ?_⟩) (by assumption) ?_
          rotate_left
          · (intro w hSw; go_simp; try (with_reducible rfl))
          try simp only [Act.put, List.getElem_toArray, List.getElem_cons_zero, List.getElem_cons_succ, List.setIfInBounds_toArray, List.set_cons_zero, List.set_cons_succ]
          refine wpAnyH_take (i := 28) rfl (by kernel_rfl) (by kernel_rfl) (by kernel_rfl) (fun _ _ _ h => h) (yields_addr_l HLU MA (by rfl) _ rfl rfl) (by assumption) ?_
          try simp only [Act.put, List.getElem_toArray, List.getElem_cons_zero, List.getElem_cons_succ, List.setIfInBounds_toArray, List.set_cons_zero, List.set_cons_succ]
          refine wpAnyH_take (i := 30) rfl (by kernel_rfl) (by kernel_rfl) (by kernel_rfl) (fun _ _ _ h => h) (yields_addr_l HLU MA (by rfl) _ rfl rfl) (by assumption) ?_
          try simp only [Act.put, List.getElem_toArray, List.getElem_cons_zero, List.getElem_cons_succ, List.setIfInBounds_toArray, List.set_cons_zero, List.set_cons_succ]
          refine wpAnyH_ready (rs := [29]) (by kernel_rfl) (by simp) ?_
          refine AllReadyH.cons rfl (fun K hK => ?_) AllReadyH.nil
          go_simp
          refine (HUM _).out.mono ?_
          rintro e V6b ⟨rfl, hb6⟩
          have HT6 := Lib.hid (HT5.out.below hb6)
          have HB6 := Lib.hid (chain HB5.out hb6)
          have hS6 := HeldL.below hS5 hb6 (fun y hy => (HL5.out y hy).1)
          have HL6 : Hid (∀ y ∈ L, y.1 < V6b.heap.size ∧ y.1 ∉ F7) := Lib.hid (fun y hy => ⟨Nat.lt_of_lt_of_le (HL5.out y hy).1 hb6.size, (HL5.out y hy).2⟩)
          clear hb6 HT5 HB5 hS5 HL5
          go_wp2_with fail
          refine hK.out _ _ hS6 (fun hHeld => ?_)
          clear hK K
          try simp only [Act.put, List.getElem_toArray, List.getElem_cons_zero, List.getElem_cons_succ, List.setIfInBounds_toArray, List.set_cons_zero, List.set_cons_succ]
          by_cases hsame : UF = Gf ∧ UB = U
          · obtain ⟨rfl, rfl⟩ := hsame
            have q2 : ∀ W, (binOp .neq 25 (addrV UF UB) (addrV UF UB)).run Tryd.prog W = .ok (.bool false) W := fun W => by rw [q1 W]; simp
            have HT0 := Lib.hid (HTOP.out es2 HGE.out)
            clear q1 HTOP HGE
            refine wpAnyH_take (i := 31) (v := ?_) rfl (by kernel_rfl) (by kernel_rfl) (by kernel_rfl) (fun _ _ _ h => h) (Or.inl ⟨by rfl, ?_⟩) (by assumption) ?_
            rotate_left
            · (intro w hSw; go_simp; try (with_reducible rfl))
            try simp only [Act.put, List.getElem_toArray, List.getElem_cons_zero, List.getElem_cons_succ, List.setIfInBounds_toArray, List.set_cons_zero, List.set_cons_succ]
            refine wpAnyH_take (i := 32) (v := ?_) rfl (by kernel_rfl) (by kernel_rfl) (by kernel_rfl) (fun _ _ _ h => h) (Or.inl ⟨by rfl, ?_⟩) (by assumption) ?_
            rotate_left
            · (intro w hSw; go_simp; try (with_reducible rfl))
            try simp only [Act.put, List.getElem_toArray, List.getElem_cons_zero, List.getElem_cons_succ, List.setIfInBounds_toArray, List.set_cons_zero, List.set_cons_succ]
            refine wpAnyH_take (i := 33) (v := ?_) rfl (by kernel_rfl) (by kernel_rfl) (by kernel_rfl) (fun _ _ _ h => h) (Or.inl ⟨by rfl, ?_⟩) (by assumption) ?_
            rotate_left
            · (intro w hSw; go_simp; try (with_reducible rfl))
            try simp only [Act.put, List.getElem_toArray, List.getElem_cons_zero, List.getElem_cons_succ, List.setIfInBounds_toArray, List.set_cons_zero, List.set_cons_succ]
            refine wpAnyH_take (i := 34) rfl (by kernel_rfl) (by kernel_rfl) (by kernel_rfl) (fun _ _ _ h => h) (yields_addr_l HLU MA (by rfl) _ rfl rfl) (by assumption) ?_
            try simp only [Act.put, List.getElem_toArray, List.getElem_cons_zero, List.getElem_cons_succ, List.setIfInBounds_toArray, List.set_cons_zero, List.set_cons_succ]
            refine wpAnyH_ready (rs := [35]) (by kernel_rfl) (by simp) ?_
            refine AllReadyH.cons rfl (fun K hK => ?_) AllReadyH.nil
            go_simp
            refine (HOF _ G _ st2 F7 HT6.out hs2 (by omega) (by omega)).out.mono ?_
            rintro e V7 ⟨rfl, ⟨st7, hT7, hs7, hs7b⟩, hf7⟩
            rw [HT0.out]
            have HBw := Lib.hid (HB6.out.trans (hf7.below (B := w.heap.size) (by have := HGL.out; simp; omega) HB6.out.size))
            have hSw := HeldL.foot hS6 hf7 (fun y hy => ⟨(HL6.out y hy).1, fun e => (HL6.out y hy).2 (by rw [List.mem_singleton.1 e]; exact HG7.out)⟩)
            have HLw : Hid (∀ y ∈ L, y.1 < V7.heap.size) := Lib.hid (fun y hy => Nat.lt_of_lt_of_le (HL6.out y hy).1 hf7.size)
            clear hT7 hf7 HT6 HB6 hS6 HL6
            go_wp2_with fail
            refine hK.out _ _ hSw (fun hHeld => ?_)
            clear hK K
            try simp only [Act.put, List.getElem_toArray, List.getElem_cons_zero, List.getElem_cons_succ, List.setIfInBounds_toArray, List.set_cons_zero, List.set_cons_succ]
            refine wpAnyH_take (i := 36) (v := ?_) rfl (by kernel_rfl) (by kernel_rfl) (by kernel_rfl) (fun _ _ _ h => h) (Or.inl ⟨by rfl, ?_⟩) (by assumption) ?_
            rotate_left
            · (intro w hSw; go_simp; try (with_reducible rfl))
            try simp only [Act.put, List.getElem_toArray, List.getElem_cons_zero, List.getElem_cons_succ, List.setIfInBounds_toArray, List.set_cons_zero, List.set_cons_succ]
            refine wpAnyH_take (i := 37) (v := ?_) rfl (by kernel_rfl) (by kernel_rfl) (by kernel_rfl) (fun _ _ _ h => h) (Or.inl ⟨by rfl, ?_⟩) (by assumption) ?_
            rotate_left
            · (intro w hSw; go_simp; try (with_reducible rfl))
            try simp only [Act.put, List.getElem_toArray, List.getElem_cons_zero, List.getElem_cons_succ, List.setIfInBounds_toArray, List.set_cons_zero, List.set_cons_succ]
            refine wpAnyH_take (i := 38) (v := ?_) rfl (by kernel_rfl) (by kernel_rfl) (by kernel_rfl) (fun _ _ _ h => h) (Or.inl ⟨by rfl, ?_⟩) (by assumption) ?_
            rotate_left
            · (intro w hSw; go_simp; try (with_reducible rfl))
            try simp only [Act.put, List.getElem_toArray, List.getElem_cons_zero, List.getElem_cons_succ, List.setIfInBounds_toArray, List.set_cons_zero, List.set_cons_succ]
            refine wpAnyH_take (i := 39) (v := ?_) rfl (by kernel_rfl) (by kernel_rfl) (by kernel_rfl) (fun _ _ _ h => h) (Or.inl ⟨by rfl, ?_⟩) (by assumption) ?_
            rotate_left
            · (intro w hSw; go_simp; try (with_reducible rfl))
            try simp only [Act.put, List.getElem_toArray, List.getElem_cons_zero, List.getElem_cons_succ, List.setIfInBounds_toArray, List.set_cons_zero, List.set_cons_succ]
            refine wpAnyH_ready (rs := [40]) (by kernel_rfl) (by simp) ?_
            refine AllReadyH.cons rfl (fun K hK => ?_) AllReadyH.nil
            go_simp
            refine (HLV _ (HTB.out.below HBw.out)).out.mono ?_
            rintro e V9 ⟨rfl, hb9⟩
            have HB9 := Lib.hid (chain HBw.out hb9)
            have hS9 := HeldL.below hSw hb9 HLw.out
            clear hb9
            go_wp2_with fail
            refine hK.out _ _ hS9 (fun hHeld => ?_)
            clear hK K
            try simp only [Act.put, List.getElem_toArray, List.getElem_cons_zero, List.getElem_cons_succ, List.setIfInBounds_toArray, List.set_cons_zero, List.set_cons_succ]
            refine wpAnyH_take (i := 41) (v := ?_) rfl (by kernel_rfl) (by kernel_rfl) (by kernel_rfl) (fun _ _ _ h => h) (Or.inl ⟨by rfl, ?_⟩) (by assumption) ?_
            rotate_left
            · (intro w hSw; go_simp; try (with_reducible rfl))
            try simp only [Act.put, List.getElem_toArray, List.getElem_cons_zero, List.getElem_cons_succ, List.setIfInBounds_toArray, List.set_cons_zero, List.set_cons_succ]
            refine wpAnyH_take (i := 42) (v := ?_) rfl (by kernel_rfl) (by kernel_rfl) (by kernel_rfl) (fun _ _ _ h => h) (Or.inl ⟨by rfl, ?_⟩) (by assumption) ?_
            rotate_left
            · (intro w hSw; go_simp; try (with_reducible rfl))
            try simp only [Act.put, List.getElem_toArray, List.getElem_cons_zero, List.getElem_cons_succ, List.setIfInBounds_toArray, List.set_cons_zero, List.set_cons_succ]
            refine wpAnyH_done (by kernel_rfl) ?_ _
            refine NoPanic.normal ?_
            go_wp2_with fail
            go_ret
            exact ⟨rfl, HB9.out⟩
          · have q2 : ∀ W, (binOp .neq 25 (addrV UF UB) (addrV Gf U)).run Tryd.prog W = .ok (.bool true) W := fun W => by rw [q1 W, decide_eq_false hsame]; rfl
            clear q1 HTOP HGE
            have HBw := HB6
            have hSw := hS6
            have HLw : Hid (∀ y ∈ L, y.1 < V6b.heap.size) := Lib.hid (fun y hy => (HL6.out y hy).1)
            refine wpAnyH_take (i := 31) (v := ?_) rfl (by kernel_rfl) (by kernel_rfl) (by kernel_rfl) (fun _ _ _ h => h) (Or.inl ⟨by rfl, ?_⟩) (by assumption) ?_
            rotate_left
            · (intro w hSw; go_simp; try (with_reducible rfl))
            try simp only [Act.put, List.getElem_toArray, List.getElem_cons_zero, List.getElem_cons_succ, List.setIfInBounds_toArray, List.set_cons_zero, List.set_cons_succ]
            refine wpAnyH_take (i := 32) (v := ?_) rfl (by kernel_rfl) (by kernel_rfl) (by kernel_rfl) (fun _ _ _ h => h) (Or.inl ⟨by rfl, ?_⟩) (by assumption) ?_
            rotate_left
            · (intro w hSw; go_simp; try (with_reducible rfl))
            try simp only [Act.put, List.getElem_toArray, List.getElem_cons_zero, List.getElem_cons_succ, List.setIfInBounds_toArray, List.set_cons_zero, List.set_cons_succ]
            refine wpAnyH_take (i := 33) (v := undef) rfl (by kernel_rfl) (by kernel_rfl) (by kernel_rfl) (fun _ _ _ h => h) (Or.inr ⟨by rfl, rfl⟩) (by assumption) ?_
            try simp only [Act.put, List.getElem_toArray, List.getElem_cons_zero, List.getElem_cons_succ, List.setIfInBounds_toArray, List.set_cons_zero, List.set_cons_succ]
            refine wpAnyH_take (i := 34) (v := undef) rfl (by kernel_rfl) (by kernel_rfl) (by kernel_rfl) (fun _ _ _ h => h) (Or.inr ⟨by rfl, rfl⟩) (by assumption) ?_
            try simp only [Act.put, List.getElem_toArray, List.getElem_cons_zero, List.getElem_cons_succ, List.setIfInBounds_toArray, List.set_cons_zero, List.set_cons_succ]
            refine wpAnyH_take (i := 35) (v := undef) rfl (by kernel_rfl) (by kernel_rfl) (by kernel_rfl) (fun _ _ _ h => h) (Or.inr ⟨by rfl, rfl⟩) (by assumption) ?_
            try simp only [Act.put, List.getElem_toArray, List.getElem_cons_zero, List.getElem_cons_succ, List.setIfInBounds_toArray, List.set_cons_zero, List.set_cons_succ]
            refine wpAnyH_take (i := 36) (v := undef) rfl (by kernel_rfl) (by kernel_rfl) (by kernel_rfl) (fun _ _ _ h => h) (Or.inr ⟨by rfl, rfl⟩) (by assumption) ?_
            try simp only [Act.put, List.getElem_toArray, List.getElem_cons_zero, List.getElem_cons_succ, List.setIfInBounds_toArray, List.set_cons_zero, List.set_cons_succ]
            refine wpAnyH_take (i := 37) (v := ?_) rfl (by kernel_rfl) (by kernel_rfl) (by kernel_rfl) (fun _ _ _ h => h) (Or.inl ⟨by rfl, ?_⟩) (by assumption) ?_
            rotate_left
            · (intro w hSw; go_simp; try (with_reducible rfl))
            try simp only [Act.put, List.getElem_toArray, List.getElem_cons_zero, List.getElem_cons_succ, List.setIfInBounds_toArray, List.set_cons_zero, List.set_cons_succ]
            refine wpAnyH_take (i := 38) (v := ?_) rfl (by kernel_rfl) (by kernel_rfl) (by kernel_rfl) (fun _ _ _ h => h) (Or.inl ⟨by rfl, ?_⟩) (by assumption) ?_
            rotate_left
            · (intro w hSw; go_simp; try (with_reducible rfl))
            try simp only [Act.put, List.getElem_toArray, List.getElem_cons_zero, List.getElem_cons_succ, List.setIfInBounds_toArray, List.set_cons_zero, List.set_cons_succ]
            refine wpAnyH_take (i := 39) (v := ?_) rfl (by kernel_rfl) (by kernel_rfl) (by kernel_rfl) (fun _ _ _ h => h) (Or.inl ⟨by rfl, ?_⟩) (by assumption) ?_
            rotate_left
            · (intro w hSw; go_simp; try (with_reducible rfl))
            try simp only [Act.put, List.getElem_toArray, List.getElem_cons_zero, List.getElem_cons_succ, List.setIfInBounds_toArray, List.set_cons_zero, List.set_cons_succ]
            refine wpAnyH_ready (rs := [40]) (by kernel_rfl) (by simp) ?_
            refine AllReadyH.cons rfl (fun K hK => ?_) AllReadyH.nil
            go_simp
            refine (HLV _ (HTB.out.below HBw.out)).out.mono ?_
            rintro e V9 ⟨rfl, hb9⟩
            have HB9 := Lib.hid (chain HBw.out hb9)
            have hS9 := HeldL.below hSw hb9 HLw.out
            clear hb9
            go_wp2_with fail
            refine hK.out _ _ hS9 (fun hHeld => ?_)
            clear hK K
            try simp only [Act.put, List.getElem_toArray, List.getElem_cons_zero, List.getElem_cons_succ, List.setIfInBounds_toArray, List.set_cons_zero, List.set_cons_succ]
            refine wpAnyH_take (i := 41) (v := ?_) rfl (by kernel_rfl) (by kernel_rfl) (by kernel_rfl) (fun _ _ _ h => h) (Or.inl ⟨by rfl, ?_⟩) (by assumption) ?_
            rotate_left
            · (intro w hSw; go_simp; try (with_reducible rfl))
            try simp only [Act.put, List.getElem_toArray, List.getElem_cons_zero, List.getElem_cons_succ, List.setIfInBounds_toArray, List.set_cons_zero, List.set_cons_succ]
            refine wpAnyH_take (i := 42) (v := ?_) rfl (by kernel_rfl) (by kernel_rfl) (by kernel_rfl) (fun _ _ _ h => h) (Or.inl ⟨by rfl, ?_⟩) (by assumption) ?_
            rotate_left
            · (intro w hSw; go_simp; try (with_reducible rfl))
            try simp only [Act.put, List.getElem_toArray, List.getElem_cons_zero, List.getElem_cons_succ, List.setIfInBounds_toArray, List.set_cons_zero, List.set_cons_succ]
            refine wpAnyH_done (by kernel_rfl) ?_ _
            refine NoPanic.normal ?_
            go_wp2_with fail
            go_ret
            exact ⟨rfl, HB9.out⟩
  · have hd : decide ((12 : Int) < (len : Int)) = false := by simp; omega
    have hdn : decide (12 < len) = false := by simp; omega
    clear HLE hrow
    go_enter Tryd.func3, Tryd.ntmps3
    go_upto_region 1 with fail
    generalize ((w.alloc (.cells cs 27)).alloc (.cells ds 25)) = W at *
    go_wp2_with (refine load_addr_g H2 _ rfl rfl rfl ?_)
    refine (HG1 _).out.mono ?_
    rintro e w2 ⟨rfl, hb2⟩
    replace H1 := Lib.hid (H1.out.below hb2)
    replace H2 := Lib.hid (H2.out.below hb2)
    replace HB := Lib.hid (chain HB.out hb2)
    clear hb2 HG1
    go_upto_region 2 with (refine store_addr H2 _ _ HLU rfl rfl rfl rfl (fun W2 HWW2 H2n => ?_))
    replace H1 := Lib.hid (show PrefAt W2 w.heap.size f1 z1 n1 by rw [HWW2.out]; exact H1.out.apart (by omega) _)
    replace HB := Lib.hid (show Below w.heap.size w W2 by rw [HWW2.out]; exact below_cells (by omega) _ _ _ HB.out)
    replace H2 := H2n
    have HNW := HNR W2 (raws_below HRW.out HB.out) len (by omega) (by omega)
    clear HWW2 H2n HNR
    go_wp2_with fail
    refine HNW.out.mono ?_
    rintro e V1 ⟨G, F, rfl, hT1, hF1, hb1⟩
    have HT := Lib.hid hT1
    have HGL : Hid (w.heap.size + 1 < G) := Lib.hid (by have := hF1 G hT1.lt.1; have := H2.out.lt; omega)
    have HM : Hid (∀ k ∈ F, w.heap.size + 1 < k) := Lib.hid (fun k hk => by have := hF1 k hk; have := H2.out.lt; omega)
    have HFV : Hid (∀ k ∈ F, k < V1.heap.size) := Lib.hid hT1.lt.2
    have HGF : Hid (G ∈ F) := Lib.hid hT1.lt.1
    replace H1 := Lib.hid (H1.out.below hb1)
    replace H2 := Lib.hid (H2.out.below hb1)
    replace HB := Lib.hid (chain HB.out hb1)
    clear hT1 hF1 hb1 HNW
    go_wp2_with fail
    go_loopw [10, 11] (fun r i wr => ∃ (k : Nat) (v : Value), k ≤ len ∧ v = r ∧ i = .int .i64 (k : Int) ∧ Hid (RowE wr 0 v (newA D k)) ∧ Hid (∀ g, v.ownBlock = some g → V1.heap.size ≤ g) ∧ Hid (Below V1.heap.size V1 wr)) (fun _ i _ => len - (intOf i).toNat)
    case atStart => exact ⟨0, _, Nat.zero_le _, rfl, rfl, Lib.hid (RowE.nil _ _), Lib.hid (fun g hg => by cases hg), Lib.hid (Below.refl _ _)⟩
    case round =>
      obtain ⟨k, v, hk, rfl, rfl, HR, HV, HBr⟩ := hrel
      by_cases hkK : k < len
      · have hd9 : decide ((k : Int) < (len : Int)) = true := by simp; omega
        have hd9n : decide (k < len) = true := by simp; omega
        have hd9c : decide ((k : Int) < ((len : Nat) : Int)) = true := by simp; omega
        obtain ⟨_, _, hl, hok, hrow⟩ := HRW.out
        rcases hrow with h0 | ⟨g, o, rfl, hr, hg⟩
        · omega
        have hkr : k < D.length := by omega
        obtain ⟨r, hrk⟩ : ∃ r, D[k] = r := ⟨_, rfl⟩
        have HRK : Hid (wr.drew.rangeAt g (o + k * 19) (entL r.f r.b r.n r.v)) := Lib.hid (by have := range_raw_o (range_belowB (range_belowB hr HB.out hg) HBr.out (Nat.lt_of_lt_of_le hg HB.out.size)) hok k hkr; rw [hrk] at this; exact this)
        have HOR : Hid r.Ok := Lib.hid (by rw [← hrk]; exact hok _ (List.getElem_mem hkr))
        have HSU : Hid (newA D (k + 1) = addE (newA D k) r.f r.b r.n r.v) := Lib.hid (by rw [newA_succ D k hkr, hrk])
        have H16 := Lib.hid HOR.out.1
        have HRA := fun W h => Lib.hid (refAdd7_any v (newA D k) r.f r.b r.n r.v W 0 h HOR.out.1 HOR.out.2.1 HOR.out.2.2.2 (Nat.le_trans (newA_len D k) (by omega)))
        rw [← HSU.out] at HRA
        have hb1 : (0 : Int) ≤ (k : Int) := by omega
        have hb2 : (k : Int) < (len : Int) := by omega
        have hb2c : (k : Int) < ((len : Nat) : Int) := by omega
        have HGR : Hid (g < wr.drew.heap.size) := Lib.hid (Nat.lt_of_lt_of_le (Nat.lt_of_lt_of_le hg HB.out.size) HBr.out.size)
        clear hrk hkr hr hg hl hok
        go_wp2_with fail
        obtain ⟨L, hL⟩ : ∃ L, [(g, o + k * 19, entL r.f r.b r.n r.v)] = L := ⟨_, rfl⟩
        have HK : Hid (HeldL L wr.drew) := Lib.hid (by rw [← hL]; intro y hy; rw [List.mem_singleton.1 hy]; exact HRK.out)
        have MP : Hid (InL L g (o + k * 19) (prefL r.f r.b r.n)) := Lib.hid (fun W h j u hu => h.get (b := g) (o := o + k * 19) (cs := entL r.f r.b r.n r.v) (by rw [← hL]; simp) j u (by unfold entL; rw [List.getElem?_append_left (List.getElem?_eq_some_iff.1 hu).1]; exact hu))
        have MV : Hid (∀ w', HeldL L w' → w'.cell? ⟨g, o + k * 19 + 18, none⟩ = some (.int .i64 r.v)) := Lib.hid (fun w' h => h.get (b := g) (o := o + k * 19) (cs := entL r.f r.b r.n r.v) (by rw [← hL]; simp) 18 (.int .i64 r.v) (by unfold entL; rw [List.getElem?_append_right (by rw [prefL_len _ _ _ H16.out]; exact Nat.le_refl _), prefL_len _ _ _ H16.out]; rfl))
        have HLD : Hid (∀ y ∈ L, y.1 < wr.drew.heap.size) := Lib.hid (by rw [← hL]; intro y hy; rw [List.mem_singleton.1 hy]; exact HGR.out)
        clear hL HRK
        refine wp_region_noPanic ?_
        refine wp_region_held_drew (S := HeldL L) (by kernel_rfl) HK.out (fun hHeld => ?_)
        refine wpAnyH_take (i := 0) (v := ?_) rfl (by kernel_rfl) (by kernel_rfl) (by kernel_rfl) (fun _ _ _ h => h) (Or.inl ⟨by rfl, ?_⟩) (by assumption) ?_
        rotate_left
        · (intro w hSw; go_simp; try (with_reducible rfl))
        try simp only [Act.put, List.getElem_toArray, List.getElem_cons_zero, List.setIfInBounds_toArray, List.set_cons_zero, List.set_cons_succ]
        refine wpAnyH_take (i := 1) (v := ?_) rfl (by kernel_rfl) (by kernel_rfl) (by kernel_rfl) (fun _ _ _ h => h) (Or.inl ⟨by rfl, ?_⟩) (by assumption) ?_
        rotate_left
        · (intro w hSw; go_simp; try (with_reducible rfl))
        try simp only [Act.put, List.getElem_toArray, List.getElem_cons_zero, List.getElem_cons_succ, List.setIfInBounds_toArray, List.set_cons_zero, List.set_cons_succ]
        refine wpAnyH_take (i := 2) (v := ?_) rfl (by kernel_rfl) (by kernel_rfl) (by kernel_rfl) (fun _ _ _ h => h) (Or.inl ⟨by rfl, ?_⟩) (by assumption) ?_
        rotate_left
        · (intro w hSw; go_simp; try (with_reducible rfl))
        try simp only [Act.put, List.getElem_toArray, List.getElem_cons_zero, List.getElem_cons_succ, List.setIfInBounds_toArray, List.set_cons_zero, List.set_cons_succ]
        refine wpAnyH_take (i := 3) (v := ?_) rfl (by kernel_rfl) (by kernel_rfl) (by kernel_rfl) (fun _ _ _ h => h) (Or.inl ⟨by rfl, ?_⟩) (by assumption) ?_
        rotate_left
        · (intro w hSw; go_simp; try (with_reducible rfl))
        try simp only [Act.put, List.getElem_toArray, List.getElem_cons_zero, List.getElem_cons_succ, List.setIfInBounds_toArray, List.set_cons_zero, List.set_cons_succ]
        refine wpAnyH_take (i := 4) (v := ?_) rfl (by kernel_rfl) (by kernel_rfl) (by kernel_rfl) (fun _ _ _ h => h) (Or.inl ⟨by rfl, ?_⟩) (by assumption) ?_
        rotate_left
        · (intro w hSw; go_simp; try (with_reducible rfl))
        try simp only [Act.put, List.getElem_toArray, List.getElem_cons_zero, List.getElem_cons_succ, List.setIfInBounds_toArray, List.set_cons_zero, List.set_cons_succ]
        refine wpAnyH_take (i := 5) rfl (by kernel_rfl) (by kernel_rfl) (by kernel_rfl) (fun _ _ _ h => h) (yields_pref_l H16 MP (by rfl) _ rfl rfl) (by assumption) ?_
        try simp only [Act.put, List.getElem_toArray, List.getElem_cons_zero, List.getElem_cons_succ, List.setIfInBounds_toArray, List.set_cons_zero, List.set_cons_succ]
        refine wpAnyH_take (i := 6) (v := ?_) rfl (by kernel_rfl) (by kernel_rfl) (by kernel_rfl) (fun _ _ _ h => h) (Or.inl ⟨by rfl, ?_⟩) (by assumption) ?_
        rotate_left
        · (intro w hSw; go_simp; try (with_reducible rfl))
        try simp only [Act.put, List.getElem_toArray, List.getElem_cons_zero, List.getElem_cons_succ, List.setIfInBounds_toArray, List.set_cons_zero, List.set_cons_succ]
        refine wpAnyH_take (i := 7) (v := ?_) rfl (by kernel_rfl) (by kernel_rfl) (by kernel_rfl) (fun _ _ _ h => h) (Or.inl ⟨by rfl, ?_⟩) (by assumption) ?_
        rotate_left
        · (intro w hSw; go_simp; try (with_reducible rfl))
        try simp only [Act.put, List.getElem_toArray, List.getElem_cons_zero, List.getElem_cons_succ, List.setIfInBounds_toArray, List.set_cons_zero, List.set_cons_succ]
        refine wpAnyH_take (i := 8) (v := ?_) rfl (by kernel_rfl) (by kernel_rfl) (by kernel_rfl) (fun _ _ _ h => h) (Or.inl ⟨by rfl, ?_⟩) (by assumption) ?_
        rotate_left
        · (intro w hSw; go_simp; try (with_reducible rfl))
        try simp only [Act.put, List.getElem_toArray, List.getElem_cons_zero, List.getElem_cons_succ, List.setIfInBounds_toArray, List.set_cons_zero, List.set_cons_succ]
        refine wpAnyH_take (i := 9) (v := ?_) rfl (by kernel_rfl) (by kernel_rfl) (by kernel_rfl) (fun _ _ _ h => h) (Or.inl ⟨by rfl, ?_⟩) (by assumption) ?_
        rotate_left
        · (intro w hSw; go_simp; try (with_reducible rfl))
        try simp only [Act.put, List.getElem_toArray, List.getElem_cons_zero, List.getElem_cons_succ, List.setIfInBounds_toArray, List.set_cons_zero, List.set_cons_succ]
        refine wpAnyH_take (i := 10) (v := ?_) rfl (by kernel_rfl) (by kernel_rfl) (by kernel_rfl) (fun _ _ _ h => h) (Or.inl ⟨by rfl, ?_⟩) (by assumption) ?_
        rotate_left
        · (intro w hSw; have hc0 := MV.out w hSw; go_simp; try (with_reducible rfl))
        try simp only [Act.put, List.getElem_toArray, List.getElem_cons_zero, List.getElem_cons_succ, List.setIfInBounds_toArray, List.set_cons_zero, List.set_cons_succ]
        refine wpAnyH_ready (rs := [11]) (by kernel_rfl) (by simp) ?_
        refine AllReadyH.cons rfl (fun K hK => ?_) AllReadyH.nil
        go_simp
        refine (HRA _ (HR.out.below (Below.refl _ _).drew)).out.mono ?_
        rintro e Va ⟨va, rfl, hra, hva, hba⟩
        have HRn := Lib.hid hra
        have HBn : Hid (Below V1.heap.size V1 Va) := Lib.hid (chain HBr.out.drew hba)
        have HVn : Hid (∀ g, va.ownBlock = some g → V1.heap.size ≤ g) := Lib.hid (fun g hg => by
          rcases hva with rfl | h
          · exact HV.out g hg
          · exact Nat.le_trans HBr.out.size (h.blockLt g hg).1)
        have hSa := HeldL.below HK.out hba HLD.out
        clear hra hva hba HRA HR HV HBr
        go_wp2_with fail
        refine hK.out _ _ hSa (fun hHeld => ?_)
        clear hK K
        try simp only [Act.put, List.getElem_toArray, List.getElem_cons_zero, List.getElem_cons_succ, List.setIfInBounds_toArray, List.set_cons_zero, List.set_cons_succ]
        refine wpAnyH_take (i := 12) (v := ?_) rfl (by kernel_rfl) (by kernel_rfl) (by kernel_rfl) (fun _ _ _ h => h) (Or.inl ⟨by rfl, ?_⟩) (by assumption) ?_
        rotate_left
        · (intro w hSw; go_simp; try (with_reducible rfl))
        try simp only [Act.put, List.getElem_toArray, List.getElem_cons_zero, List.getElem_cons_succ, List.setIfInBounds_toArray, List.set_cons_zero, List.set_cons_succ]
        refine wpAnyH_take (i := 13) (v := ?_) rfl (by kernel_rfl) (by kernel_rfl) (by kernel_rfl) (fun _ _ _ h => h) (Or.inl ⟨by rfl, ?_⟩) (by assumption) ?_
        rotate_left
        · (intro w hSw; go_simp; try (with_reducible rfl))
        try simp only [Act.put, List.getElem_toArray, List.getElem_cons_zero, List.getElem_cons_succ, List.setIfInBounds_toArray, List.set_cons_zero, List.set_cons_succ]
        refine wpAnyH_take (i := 14) (v := ?_) rfl (by kernel_rfl) (by kernel_rfl) (by kernel_rfl) (fun _ _ _ h => h) (Or.inl ⟨by rfl, ?_⟩) (by assumption) ?_
        rotate_left
        · (intro w hSw; go_simp; try (with_reducible rfl))
        try simp only [Act.put, List.getElem_toArray, List.getElem_cons_zero, List.getElem_cons_succ, List.setIfInBounds_toArray, List.set_cons_zero, List.set_cons_succ]
        refine wpAnyH_take (i := 15) (v := ?_) rfl (by kernel_rfl) (by kernel_rfl) (by kernel_rfl) (fun _ _ _ h => h) (Or.inl ⟨by rfl, ?_⟩) (by assumption) ?_
        rotate_left
        · (intro w hSw; go_simp; try (with_reducible rfl))
        try simp only [Act.put, List.getElem_toArray, List.getElem_cons_zero, List.getElem_cons_succ, List.setIfInBounds_toArray, List.set_cons_zero, List.set_cons_succ]
        refine wpAnyH_take (i := 16) (v := ?_) rfl (by kernel_rfl) (by kernel_rfl) (by kernel_rfl) (fun _ _ _ h => h) (Or.inl ⟨by rfl, ?_⟩) (by assumption) ?_
        rotate_left
        · (intro w hSw; go_simp; try (with_reducible rfl))
        try simp only [Act.put, List.getElem_toArray, List.getElem_cons_zero, List.getElem_cons_succ, List.setIfInBounds_toArray, List.set_cons_zero, List.set_cons_succ]
        refine wpAnyH_done (by kernel_rfl) ?_ _
        refine NoPanic.normal ?_
        go_wp2_with fail
        go_roundw
        case rel => exact ⟨k + 1, va, by omega, rfl, by go_num, HRn, HVn, HBn⟩
        case measure => simp [intOf]; omega
      · have hd9 : decide ((k : Int) < (len : Int)) = false := by simp; omega
        have hd9n : decide (k < len) = false := by simp; omega
        have hd9c : decide ((k : Int) < ((len : Nat) : Int)) = false := by simp; omega
        have hle12 : (newA D k).length ≤ 12 := Nat.le_trans (newA_len D k) (by omega)
        have HKK : Hid (newA D len = newA D k) := Lib.hid (by rw [show k = len by omega])
        rw [HKK.out] at HT
        clear HKK
        replace H1 := Lib.hid (H1.out.below HBr.out)
        replace H2 := Lib.hid (H2.out.below HBr.out)
        replace HB := Lib.hid (chain HB.out HBr.out)
        replace HT := Lib.hid (HT.out.below HBr.out)
        obtain ⟨ra, rc, hrv⟩ := rowE_slice HR.out
        subst hrv
        have HNV : Hid (NotIn (.slice ra (newA D k).length rc) F) := Lib.hid (fun g hg e => by have := HV.out g hg; have := HFV.out g e; omega)
        have HVL : Hid (∀ g, Value.ownBlock (.slice ra (newA D k).length rc) = some g → g < wr.heap.size) := Lib.hid (fun g hg => (HR.out.blockLt g hg).2)
        clear HV HBr HRW
        generalize newA D k = es at *
        go_wp2_with fail
        obtain ⟨L, hL⟩ : ∃ L, [(w.heap.size + 1, 0, addrL Gf U)] = L := ⟨_, rfl⟩
        have HK : Hid (HeldL L wr.drew) := Lib.hid (by rw [← hL]; intro y hy; rw [List.mem_singleton.1 hy]; exact H2.out.range)
        have MA : Hid (InL L (w.heap.size + 1) 0 (addrL Gf U)) := Lib.hid (fun W h => h.get (by rw [← hL]; simp))
        have HLD : Hid (∀ y ∈ L, y.1 < wr.drew.heap.size ∧ y.1 ∉ [G]) := Lib.hid (by rw [← hL]; intro y hy; rw [List.mem_singleton.1 hy]; exact ⟨H2.out.lt, by have := HGL.out; simp; omega⟩)
        clear hL
        have HTD := Lib.hid (HT.out.below (Below.refl _ _).drew)
        have HRD := Lib.hid (HR.out.below (Below.refl _ _).drew)
        have HBD : Hid (Below w.heap.size w wr.drew) := Lib.hid HB.out.drew
        have H1D := Lib.hid (H1.out.below (Below.refl _ _).drew)
        have H2D := Lib.hid (H2.out.below (Below.refl _ _).drew)
        clear HT HR HB H1 H2
        refine wp_region_noPanic ?_
        refine wp_region_held_drew (S := HeldL L) (by kernel_rfl) HK.out (fun hHeld => ?_)
        generalize wr.drew = V at *
        refine wpAnyH_take (i := 0) (v := ?_) rfl (by kernel_rfl) (by kernel_rfl) (by kernel_rfl) (fun _ _ _ h => h) (Or.inl ⟨by rfl, ?_⟩) (by assumption) ?_
        rotate_left
        · (intro w hSw; go_simp; try (with_reducible rfl))
        try simp only [Act.put, List.getElem_toArray, List.getElem_cons_zero, List.setIfInBounds_toArray, List.set_cons_zero, List.set_cons_succ]
        refine wpAnyH_take (i := 1) rfl (by kernel_rfl) (by kernel_rfl) (by kernel_rfl) (fun _ _ _ h => h) (yields_addr_l HLU MA (by rfl) _ rfl rfl) (by assumption) ?_
        try simp only [Act.put, List.getElem_toArray, List.getElem_cons_zero, List.getElem_cons_succ, List.setIfInBounds_toArray, List.set_cons_zero, List.set_cons_succ]
        refine wpAnyH_take (i := 3) (v := ?_) rfl (by kernel_rfl) (by kernel_rfl) (by kernel_rfl) (fun _ _ _ h => h) (Or.inl ⟨by rfl, ?_⟩) (by assumption) ?_
        rotate_left
        · (intro w hSw; go_simp; try (with_reducible rfl))
        try simp only [Act.put, List.getElem_toArray, List.getElem_cons_zero, List.getElem_cons_succ, List.setIfInBounds_toArray, List.set_cons_zero, List.set_cons_succ]
        refine wpAnyH_take (i := 4) rfl (by kernel_rfl) (by kernel_rfl) (by kernel_rfl) (fun _ _ _ h => h) (yields_addr_l HLU MA (by rfl) _ rfl rfl) (by assumption) ?_
        try simp only [Act.put, List.getElem_toArray, List.getElem_cons_zero, List.getElem_cons_succ, List.setIfInBounds_toArray, List.set_cons_zero, List.set_cons_succ]
        refine wpAnyH_ready (rs := [2]) (by kernel_rfl) (by simp) ?_
        refine AllReadyH.cons rfl (fun K hK => ?_) AllReadyH.nil
        go_simp
        refine (HOF _ G es 0 F HTD.out (by decide) (by decide) (by omega)).out.mono ?_
        rintro e V2 ⟨rfl, ⟨st, hT2, hs0, hs1⟩, hf2⟩
        have HT := Lib.hid hT2
        have HR := Lib.hid (HRD.out.foot hf2 (fun g hg e => HNV.out g hg (by rw [List.mem_singleton.1 e]; exact HGF.out)))
        have HB := Lib.hid (HBD.out.trans (hf2.below (B := w.heap.size) (by have := HGL.out; simp; omega) HBD.out.size))
        have H1 := Lib.hid (H1D.out.foot hf2 (by have := HGL.out; simp; omega))
        have H2 := Lib.hid (H2D.out.foot7 hf2 (by have := HGL.out; simp; omega))
        have hS2 := HeldL.foot HK.out hf2 HLD.out
        have HL2 : Hid (∀ y ∈ L, y.1 < V2.heap.size) := Lib.hid (fun y hy => Nat.lt_of_lt_of_le (HLD.out y hy).1 hf2.size)
        clear hT2 hf2 HTD HRD HBD H1D H2D HLD
        go_wp2_with fail
        refine hK.out _ _ hS2 (fun hHeld => ?_)
        clear hK K
        try simp only [Act.put, List.getElem_toArray, List.getElem_cons_zero, List.getElem_cons_succ, List.setIfInBounds_toArray, List.set_cons_zero, List.set_cons_succ]
        refine wpAnyH_ready (rs := [5]) (by kernel_rfl) (by simp) ?_
        refine AllReadyH.cons rfl (fun K hK => ?_) AllReadyH.nil
        go_simp
        refine (HRO _ _ es HR.out).out.mono ?_
        rintro e V3 ⟨rfl, hb3⟩
        replace HT := Lib.hid (HT.out.below hb3)
        replace HR := Lib.hid (HR.out.below hb3)
        replace HB := Lib.hid (chain HB.out hb3)
        replace H1 := Lib.hid (H1.out.below hb3)
        replace H2 := Lib.hid (H2.out.below hb3)
        have hS3 := HeldL.below hS2 hb3 HL2.out
        clear hb3 hS2 HL2
        go_wp2_with fail
        refine hK.out _ _ hS3 (fun hHeld => ?_)
        clear hK K
        try simp only [Act.put, List.getElem_toArray, List.getElem_cons_zero, List.getElem_cons_succ, List.setIfInBounds_toArray, List.set_cons_zero, List.set_cons_succ]
        obtain ⟨X, hX⟩ : ∃ X, ofE es UF UB = X := ⟨_, rfl⟩
        rw [hX]
        have hXX : (X != X) = false := by simp
        have hEE : (((es.length : Nat) : Int) != ((es.length : Nat) : Int)) = false := by simp
        clear hX
        refine wpAnyH_take (i := 6) (v := ?_) rfl (by kernel_rfl) (by kernel_rfl) (by kernel_rfl) (fun _ _ _ h => h) (Or.inl ⟨by rfl, ?_⟩) (by assumption) ?_
        rotate_left
        · (intro w hSw; go_simp; try (with_reducible rfl))
        try simp only [Act.put, List.getElem_toArray, List.getElem_cons_zero, List.getElem_cons_succ, List.setIfInBounds_toArray, List.set_cons_zero, List.set_cons_succ]
        refine wpAnyH_take (i := 7) (v := ?_) rfl (by kernel_rfl) (by kernel_rfl) (by kernel_rfl) (fun _ _ _ h => h) (Or.inl ⟨by rfl, ?_⟩) (by assumption) ?_
        rotate_left
        · (intro w hSw; go_simp; try (with_reducible rfl))
        try simp only [Act.put, List.getElem_toArray, List.getElem_cons_zero, List.getElem_cons_succ, List.setIfInBounds_toArray, List.set_cons_zero, List.set_cons_succ]
        refine wpAnyH_take (i := 8) (v := ?_) rfl (by kernel_rfl) (by kernel_rfl) (by kernel_rfl) (fun _ _ _ h => h) (Or.inl ⟨by rfl, ?_⟩) (by assumption) ?_
        rotate_left
        · (intro w hSw; go_simp; try (with_reducible rfl))
        try simp only [Act.put, List.getElem_toArray, List.getElem_cons_zero, List.getElem_cons_succ, List.setIfInBounds_toArray, List.set_cons_zero, List.set_cons_succ]
        refine wpAnyH_take (i := 9) (v := ?_) rfl (by kernel_rfl) (by kernel_rfl) (by kernel_rfl) (fun _ _ _ h => h) (Or.inl ⟨by rfl, ?_⟩) (by assumption) ?_
        rotate_left
        · (intro w hSw; go_simp; try (with_reducible rfl))
        try simp only [Act.put, List.getElem_toArray, List.getElem_cons_zero, List.getElem_cons_succ, List.setIfInBounds_toArray, List.set_cons_zero, List.set_cons_succ]
        refine wpAnyH_take (i := 10) (v := ?_) rfl (by kernel_rfl) (by kernel_rfl) (by kernel_rfl) (fun _ _ _ h => h) (Or.inl ⟨by rfl, ?_⟩) (by assumption) ?_
        rotate_left
        · (intro w hSw; go_simp; try (with_reducible rfl))
        try simp only [Act.put, List.getElem_toArray, List.getElem_cons_zero, List.getElem_cons_succ, List.setIfInBounds_toArray, List.set_cons_zero, List.set_cons_succ]
        refine wpAnyH_take (i := 12) (v := ?_) rfl (by kernel_rfl) (by kernel_rfl) (by kernel_rfl) (fun _ _ _ h => h) (Or.inl ⟨by rfl, ?_⟩) (by assumption) ?_
        rotate_left
        · (intro w hSw; go_simp; try (with_reducible rfl))
        try simp only [Act.put, List.getElem_toArray, List.getElem_cons_zero, List.getElem_cons_succ, List.setIfInBounds_toArray, List.set_cons_zero, List.set_cons_succ]
        refine wpAnyH_take (i := 13) (v := ?_) rfl (by kernel_rfl) (by kernel_rfl) (by kernel_rfl) (fun _ _ _ h => h) (Or.inl ⟨by rfl, ?_⟩) (by assumption) ?_
        rotate_left
        · (intro w hSw; go_simp; try (with_reducible rfl))
        try simp only [Act.put, List.getElem_toArray, List.getElem_cons_zero, List.getElem_cons_succ, List.setIfInBounds_toArray, List.set_cons_zero, List.set_cons_succ]
        refine wpAnyH_ready (rs := [11]) (by kernel_rfl) (by simp) ?_
        refine AllReadyH.cons rfl (fun K hK => ?_) AllReadyH.nil
        go_simp
        refine (HLN _ G es st F HT.out).out.mono ?_
        rintro e V4 ⟨rfl, rfl⟩
        skip
        go_wp2_with fail
        refine hK.out _ _ hS3 (fun hHeld => ?_)
        clear hK K
        try simp only [Act.put, List.getElem_toArray, List.getElem_cons_zero, List.getElem_cons_succ, List.setIfInBounds_toArray, List.set_cons_zero, List.set_cons_succ]
        refine wpAnyH_take (i := 14) (v := ?_) rfl (by kernel_rfl) (by kernel_rfl) (by kernel_rfl) (fun _ _ _ h => h) (Or.inl ⟨by rfl, ?_⟩) (by assumption) ?_
        rotate_left
        · (intro w hSw; go_simp; try (with_reducible rfl))
        try simp only [Act.put, List.getElem_toArray, List.getElem_cons_zero, List.getElem_cons_succ, List.setIfInBounds_toArray, List.set_cons_zero, List.set_cons_succ]
        refine wpAnyH_take (i := 15) (v := ?_) rfl (by kernel_rfl) (by kernel_rfl) (by kernel_rfl) (fun _ _ _ h => h) (Or.inl ⟨by rfl, ?_⟩) (by assumption) ?_
        rotate_left
        · (intro w hSw; go_simp; try (with_reducible rfl))
        try simp only [Act.put, List.getElem_toArray, List.getElem_cons_zero, List.getElem_cons_succ, List.setIfInBounds_toArray, List.set_cons_zero, List.set_cons_succ]
        refine wpAnyH_done (by kernel_rfl) ?_ _
        refine NoPanic.normal ?_
        clear hXX hEE hHeld hS3 MA HK
        have hal := HAL es
        have hal2 := HAL2 (addE es f1 z1 n1 x)
        go_wp2_with (refine load_pref_g H1 _ rfl rfl rfl ?_)
        refine (HAR _ _ es HR.out (by omega)).out.mono ?_
        rintro e V5 ⟨vn, rfl, hrn, hvn, hb5⟩
        have HNN : Hid (NotIn vn F) := Lib.hid (fun g hg e => by
          rcases hvn with rfl | h
          · exact HNV.out g hg e
          · have := (h.blockLt g hg).1; have := HT.out.lt.2 g e; omega)
        have HRn := Lib.hid hrn
        replace HT := Lib.hid (HT.out.below hb5)
        replace HB := Lib.hid (chain HB.out hb5)
        replace H1 := Lib.hid (H1.out.below hb5)
        replace H2 := Lib.hid (H2.out.below hb5)
        clear hrn hvn hb5 HR HAR HNV HVL
        go_wp2_with (refine load_pref_g H1 _ rfl rfl rfl ?_)
        refine (HAM _ G es st F HT.out (by omega)).out.mono ?_
        rintro e V6 ⟨rfl, F6, hT6, hf6⟩
        have HT6 := Lib.hid hT6
        have HR6 := Lib.hid (HRn.out.foot hf6 HNN.out)
        have HM6 : Hid (∀ k ∈ F6, w.heap.size + 1 < k) := Lib.hid (fun k hk => by
          rcases hf6.new k hk with e | e
          · exact HM.out k e
          · have := H2.out.lt; omega)
        have HN6 : Hid (NotIn vn F6) := Lib.hid (fun g hg => hf6.out (HRn.out.blockLt g hg).2 (HNN.out g hg))
        have HB6 := Lib.hid (HB.out.trans (hf6.below (B := w.heap.size) (fun k hk => by have := HM.out k hk; omega) HB.out.size))
        have H26 := Lib.hid (H2.out.foot7 hf6 (fun e => by have := HM.out _ e; omega))
        have HG6 : Hid (G ∈ F6) := Lib.hid hT6.lt.1
        clear hT6 hf6 HT HRn HNN HM HB H1 H2 HAM HGF HFV
        generalize addC f1 z1 n1 x = c at *
        have HGE : Hid (AllGood (addE es f1 z1 n1 x)) := Lib.hid HR6.out.2.1
        obtain ⟨sa, sc, hsv⟩ := rowE_slice HR6.out
        subst hsv
        generalize addE es f1 z1 n1 x = es2 at *
        go_upto_region 17 with fail
        go_cut [17] from 78 (fun s17 wx => ∃ BO : Nat, s17 = .pointer (some ⟨BO, 0, none⟩) ∧ Hid (w.heap.size + 1 < BO ∧ ∀ k ∈ F6, k < BO) ∧ Hid (PrefAt wx BO Gf OW (OB : Int)) ∧ Hid (TabAt wx G es2 st F6) ∧ Hid (RowE wx 0 (.slice sa es2.length sc) es2) ∧ Hid (AddrAt wx (w.heap.size + 1) Gf U) ∧ Hid (Below w.heap.size w wx))
        case first =>
          obtain ⟨L, hL⟩ : ∃ L, [(w.heap.size + 1, 0, addrL Gf U)] = L := ⟨_, rfl⟩
          have HK : Hid (HeldL L V6.drew) := Lib.hid (by rw [← hL]; intro y hy; rw [List.mem_singleton.1 hy]; exact H26.out.range)
          have MA : Hid (InL L (w.heap.size + 1) 0 (addrL Gf U)) := Lib.hid (fun W h => h.get (by rw [← hL]; simp))
          have HLA : Hid (∀ A B, HeldL L A → w.heap.size + 1 < A.heap.size → Below A.heap.size A B → HeldL L B) := Lib.hid (fun A B h h2 hb => HeldL.below h hb (by rw [← hL]; intro y hy; rw [List.mem_singleton.1 hy]; exact h2))
          have HLS : Hid (∀ A BO cs, HeldL L A → w.heap.size + 1 < BO → HeldL L (A.setCells BO 0 cs)) := Lib.hid (fun A BO cs h h2 => by
            rw [← hL] at h ⊢; intro y hy; rw [List.mem_singleton.1 hy]
            exact World.rangeAt_setCells_apart (h _ (by simp)) BO 0 cs (.inl (by show w.heap.size + 1 ≠ BO; omega)))
          clear hL
          have HTD := Lib.hid (HT6.out.below (Below.refl _ _).drew)
          have HRD := Lib.hid (HR6.out.below (Below.refl _ _).drew)
          have HBD : Hid (Below w.heap.size w V6.drew) := Lib.hid HB6.out.drew
          have H2D := Lib.hid (H26.out.below (Below.refl _ _).drew)
          clear HT6 HR6 HB6 H26
          refine wp_region_noPanic ?_
          refine wp_region_held_drew (S := HeldL L) (by kernel_rfl) HK.out (fun hHeld => ?_)
          generalize V6.drew = V at *
          refine wpAnyH_take (i := 0) rfl (by kernel_rfl) (by kernel_rfl) (by kernel_rfl) (fun _ _ _ h => h) (yields_addr_l HLU MA (by rfl) _ rfl rfl) (by assumption) ?_
          try simp only [Act.put, List.getElem_toArray, List.getElem_cons_zero, List.setIfInBounds_toArray, List.set_cons_zero, List.set_cons_succ]
          refine wpAnyH_take (i := 1) rfl (by kernel_rfl) (by kernel_rfl) (by kernel_rfl) (fun _ _ _ h => h) (yields_addr_l HLU MA (by rfl) _ rfl rfl) (by assumption) ?_
          try simp only [Act.put, List.getElem_toArray, List.getElem_cons_zero, List.getElem_cons_succ, List.setIfInBounds_toArray, List.set_cons_zero, List.set_cons_succ]
          refine wpAnyH_ready (rs := [2, 4]) (by kernel_rfl) (by simp) ?_
          refine AllReadyH.cons rfl (fun K hK => ?_) (AllReadyH.one rfl rfl (fun K hK => ?_))
          · go_simp
            refine (HBI _).out.mono ?_
            rintro e Va ⟨rfl, hba⟩
            have HTa := Lib.hid (HTD.out.below hba)
            have HRa := Lib.hid (HRD.out.below hba)
            have HBa := Lib.hid (chain HBD.out hba)
            have H2a := Lib.hid (H2D.out.below hba)
            have hSa := HLA.out _ _ HK.out H2D.out.lt hba
            clear hba HTD HRD HBD H2D
            go_wp2_with fail
            refine hK.out _ _ hSa (fun hHelda => ?_)
            clear hK K
            try simp only [Act.put, List.getElem_toArray, List.getElem_cons_zero, List.getElem_cons_succ, List.setIfInBounds_toArray, List.set_cons_zero, List.set_cons_succ]
            refine wpAnyH_ready (rs := [3, 4]) (by kernel_rfl) (by simp) ?_
            refine AllReadyH.cons rfl (fun K hK => ?_) (AllReadyH.one rfl rfl (fun K hK => ?_))
            · go_simp
              refine (HMK _).out.mono ?_
              rintro e Vb ⟨rfl, hbb⟩
              have HTb := Lib.hid (HTa.out.below hbb)
              have HRb := Lib.hid (HRa.out.below hbb)
              have HBb := Lib.hid (chain HBa.out hbb)
              have H2b := Lib.hid (H2a.out.below hbb)
              have hSb := HLA.out _ _ hSa H2a.out.lt hbb
              clear hbb HTa HRa HBa H2a
              go_wp2_with fail
              refine hK.out _ _ hSb (fun hHeldb => ?_)
              clear hK K
              try simp only [Act.put, List.getElem_toArray, List.getElem_cons_zero, List.getElem_cons_succ, List.setIfInBounds_toArray, List.set_cons_zero, List.set_cons_succ]
              refine wpAnyH_ready (rs := [4]) (by kernel_rfl) (by simp) ?_
              refine AllReadyH.one rfl rfl (fun K hK => ?_)
              have hbc : Below Vb.heap.size Vb (Vb.alloc (.cells zP 27)) := (Below.refl _ _).alloc (Nat.le_refl _) _
              have HTc := Lib.hid (HTb.out.below hbc)
              have HRc := Lib.hid (HRb.out.below hbc)
              have HBc := Lib.hid (chain HBb.out hbc)
              have H2c := Lib.hid (H2b.out.below hbc)
              have hSc := HLA.out _ _ hSb H2b.out.lt hbc
              have HZc := Lib.hid (pref_zeroed Vb)
              have HBOc : Hid (w.heap.size + 1 < Vb.heap.size ∧ ∀ k ∈ F6, k < Vb.heap.size) := Lib.hid ⟨H2b.out.lt, HTb.out.lt.2⟩
              have HVOc : Hid (∀ g, Value.ownBlock (.slice sa es2.length sc) = some g → g < Vb.heap.size) := Lib.hid (fun g hg => (HRb.out.blockLt g hg).2)
              clear hbc HTb HRb HBb H2b
              go_wp2_with fail
              refine hK.out _ _ hSc (fun hHeldc => ?_)
              clear hK K
              try simp only [Act.put, List.getElem_toArray, List.getElem_cons_zero, List.getElem_cons_succ, List.setIfInBounds_toArray, List.set_cons_zero, List.set_cons_succ]
              generalize (Vb.alloc (.cells zP 27)) = Xc at *
              generalize Vb.heap.size = BO at *
              have HBO := HBOc
              have HVO := HVOc
              refine wpAnyH_ready (rs := [5]) (by kernel_rfl) (by simp) ?_
              refine AllReadyH.one rfl rfl (fun K hK => ?_)
              refine wp_store_pref HZc _ _ HOW rfl rfl rfl (fun HQ => ?_)
              refine hK.out _ _ (HLS.out _ _ _ (by assumption) HBO.out.1) (fun hHeld9 => ?_)
              clear hK K
              try simp only [Act.put, List.getElem_toArray, List.getElem_cons_zero, List.getElem_cons_succ]
              refine wpAnyH_done (by kernel_rfl) ?_ _
              refine NoPanic.normal ?_
              go_wp2_with fail
              go_meet
              case rel =>
                have h := own_laid (cs := prefL Gf OW (OB : Int)) HTc.out HRc.out H2c.out HBc.out HBO.out.2 HVO.out HBO.out.1
                exact ⟨BO, rfl, HBO, HQ, Lib.hid h.1, Lib.hid h.2.1, Lib.hid h.2.2.1, Lib.hid h.2.2.2⟩
            · have hbb : Below Va.heap.size Va (Va.alloc (.cells zP 27)) := (Below.refl _ _).alloc (Nat.le_refl _) _
              have HTb := Lib.hid (HTa.out.below hbb)
              have HRb := Lib.hid (HRa.out.below hbb)
              have HBb := Lib.hid (chain HBa.out hbb)
              have H2b := Lib.hid (H2a.out.below hbb)
              have hSb := HLA.out _ _ hSa H2a.out.lt hbb
              have HZb := Lib.hid (pref_zeroed Va)
              have HBOb : Hid (w.heap.size + 1 < Va.heap.size ∧ ∀ k ∈ F6, k < Va.heap.size) := Lib.hid ⟨H2a.out.lt, HTa.out.lt.2⟩
              have HVOb : Hid (∀ g, Value.ownBlock (.slice sa es2.length sc) = some g → g < Va.heap.size) := Lib.hid (fun g hg => (HRa.out.blockLt g hg).2)
              clear hbb HTa HRa HBa H2a
              go_wp2_with fail
              refine hK.out _ _ hSb (fun hHeldb => ?_)
              clear hK K
              try simp only [Act.put, List.getElem_toArray, List.getElem_cons_zero, List.getElem_cons_succ, List.setIfInBounds_toArray, List.set_cons_zero, List.set_cons_succ]
              generalize (Va.alloc (.cells zP 27)) = Xb at *
              generalize Va.heap.size = BO at *
              have HBO := HBOb
              have HVO := HVOb
              refine wpAnyH_ready (rs := [3]) (by kernel_rfl) (by simp) ?_
              refine AllReadyH.cons rfl (fun K hK => ?_) AllReadyH.nil
              go_simp
              refine (HMK _).out.mono ?_
              rintro e Vc ⟨rfl, hbc⟩
              have HTc := Lib.hid (HTb.out.below hbc)
              have HRc := Lib.hid (HRb.out.below hbc)
              have HBc := Lib.hid (chain HBb.out hbc)
              have H2c := Lib.hid (H2b.out.below hbc)
              have hSc := HLA.out _ _ hSb H2b.out.lt hbc
              have HZc := Lib.hid (HZb.out.below hbc)
              clear hbc HTb HRb HBb H2b
              go_wp2_with fail
              refine hK.out _ _ hSc (fun hHeldc => ?_)
              clear hK K
              try simp only [Act.put, List.getElem_toArray, List.getElem_cons_zero, List.getElem_cons_succ, List.setIfInBounds_toArray, List.set_cons_zero, List.set_cons_succ]
              refine wpAnyH_ready (rs := [5]) (by kernel_rfl) (by simp) ?_
              refine AllReadyH.one rfl rfl (fun K hK => ?_)
              refine wp_store_pref HZc _ _ HOW rfl rfl rfl (fun HQ => ?_)
              refine hK.out _ _ (HLS.out _ _ _ (by assumption) HBO.out.1) (fun hHeld9 => ?_)
              clear hK K
              try simp only [Act.put, List.getElem_toArray, List.getElem_cons_zero, List.getElem_cons_succ]
              refine wpAnyH_done (by kernel_rfl) ?_ _
              refine NoPanic.normal ?_
              go_wp2_with fail
              go_meet
              case rel =>
                have h := own_laid (cs := prefL Gf OW (OB : Int)) HTc.out HRc.out H2c.out HBc.out HBO.out.2 HVO.out HBO.out.1
                exact ⟨BO, rfl, HBO, HQ, Lib.hid h.1, Lib.hid h.2.1, Lib.hid h.2.2.1, Lib.hid h.2.2.2⟩
          · have hba : Below V.heap.size V (V.alloc (.cells zP 27)) := (Below.refl _ _).alloc (Nat.le_refl _) _
            have HTa := Lib.hid (HTD.out.below hba)
            have HRa := Lib.hid (HRD.out.below hba)
            have HBa := Lib.hid (chain HBD.out hba)
            have H2a := Lib.hid (H2D.out.below hba)
            have hSa := HLA.out _ _ HK.out H2D.out.lt hba
            have HZa := Lib.hid (pref_zeroed V)
            have HBOa : Hid (w.heap.size + 1 < V.heap.size ∧ ∀ k ∈ F6, k < V.heap.size) := Lib.hid ⟨H2D.out.lt, HTD.out.lt.2⟩
            have HVOa : Hid (∀ g, Value.ownBlock (.slice sa es2.length sc) = some g → g < V.heap.size) := Lib.hid (fun g hg => (HRD.out.blockLt g hg).2)
            clear hba HTD HRD HBD H2D
            go_wp2_with fail
            refine hK.out _ _ hSa (fun hHelda => ?_)
            clear hK K
            try simp only [Act.put, List.getElem_toArray, List.getElem_cons_zero, List.getElem_cons_succ, List.setIfInBounds_toArray, List.set_cons_zero, List.set_cons_succ]
            generalize (V.alloc (.cells zP 27)) = Xa at *
            generalize V.heap.size = BO at *
            have HBO := HBOa
            have HVO := HVOa
            refine wpAnyH_ready (rs := [2]) (by kernel_rfl) (by simp) ?_
            refine AllReadyH.cons rfl (fun K hK => ?_) AllReadyH.nil
            go_simp
            refine (HBI _).out.mono ?_
            rintro e Vb ⟨rfl, hbb⟩
            have HTb := Lib.hid (HTa.out.below hbb)
            have HRb := Lib.hid (HRa.out.below hbb)
            have HBb := Lib.hid (chain HBa.out hbb)
            have H2b := Lib.hid (H2a.out.below hbb)
            have hSb := HLA.out _ _ hSa H2a.out.lt hbb
            have HZb := Lib.hid (HZa.out.below hbb)
            clear hbb HTa HRa HBa H2a
            go_wp2_with fail
            refine hK.out _ _ hSb (fun hHeldb => ?_)
            clear hK K
            try simp only [Act.put, List.getElem_toArray, List.getElem_cons_zero, List.getElem_cons_succ, List.setIfInBounds_toArray, List.set_cons_zero, List.set_cons_succ]
            refine wpAnyH_ready (rs := [3]) (by kernel_rfl) (by simp) ?_
            refine AllReadyH.cons rfl (fun K hK => ?_) AllReadyH.nil
            go_simp
            refine (HMK _).out.mono ?_
            rintro e Vc ⟨rfl, hbc⟩
            have HTc := Lib.hid (HTb.out.below hbc)
            have HRc := Lib.hid (HRb.out.below hbc)
            have HBc := Lib.hid (chain HBb.out hbc)
            have H2c := Lib.hid (H2b.out.below hbc)
            have hSc := HLA.out _ _ hSb H2b.out.lt hbc
            have HZc := Lib.hid (HZb.out.below hbc)
            clear hbc HTb HRb HBb H2b
            go_wp2_with fail
            refine hK.out _ _ hSc (fun hHeldc => ?_)
            clear hK K
            try simp only [Act.put, List.getElem_toArray, List.getElem_cons_zero, List.getElem_cons_succ, List.setIfInBounds_toArray, List.set_cons_zero, List.set_cons_succ]
            refine wpAnyH_ready (rs := [5]) (by kernel_rfl) (by simp) ?_
            refine AllReadyH.one rfl rfl (fun K hK => ?_)
            refine wp_store_pref HZc _ _ HOW rfl rfl rfl (fun HQ => ?_)
            refine hK.out _ _ (HLS.out _ _ _ (by assumption) HBO.out.1) (fun hHeld9 => ?_)
            clear hK K
            try simp only [Act.put, List.getElem_toArray, List.getElem_cons_zero, List.getElem_cons_succ]
            refine wpAnyH_done (by kernel_rfl) ?_ _
            refine NoPanic.normal ?_
            go_wp2_with fail
            go_meet
            case rel =>
              have h := own_laid (cs := prefL Gf OW (OB : Int)) HTc.out HRc.out H2c.out HBc.out HBO.out.2 HVO.out HBO.out.1
              exact ⟨BO, rfl, HBO, HQ, Lib.hid h.1, Lib.hid h.2.1, Lib.hid h.2.2.1, Lib.hid h.2.2.2⟩
        case rest =>
          obtain ⟨BO, rfl, HBO, HPO, HT6, HR6, H26, HB6⟩ := hcut
          clear HBI HMK
          have hcc : (c == c) = true := by simp
          obtain ⟨L, hL⟩ : ∃ L, [(w.heap.size + 1, 0, addrL Gf U), (BO, 0, prefL Gf OW (OB : Int))] = L := ⟨_, rfl⟩
          have HK : Hid (HeldL L wc.drew) := Lib.hid (by
            rw [← hL]; intro y hy
            simp only [List.mem_cons, List.not_mem_nil, or_false] at hy
            rcases hy with rfl | rfl
            · exact H26.out.range
            · exact HPO.out.range)
          have MA : Hid (InL L (w.heap.size + 1) 0 (addrL Gf U)) := Lib.hid (fun W h => h.get (by rw [← hL]; simp))
          have MP : Hid (InL L BO 0 (prefL Gf OW (OB : Int))) := Lib.hid (fun W h => h.get (by rw [← hL]; simp))
          have HLD : Hid (∀ y ∈ L, y.1 < wc.drew.heap.size ∧ y.1 ∉ F6) := Lib.hid (by
            rw [← hL]; intro y hy
            simp only [List.mem_cons, List.not_mem_nil, or_false] at hy
            rcases hy with rfl | rfl
            · exact ⟨H26.out.lt, fun e => by have := HM6.out _ e; omega⟩
            · exact ⟨HPO.out.addr.lt, fun e => by have := HBO.out.2 _ e; omega⟩)
          clear hL
          have HTD := Lib.hid (HT6.out.below (Below.refl _ _).drew)
          have HRD := Lib.hid (HR6.out.below (Below.refl _ _).drew)
          have HBD : Hid (Below w.heap.size w wc.drew) := Lib.hid HB6.out.drew
          clear HT6 HR6 HB6 H26 HPO HBO
          go_wp2_with fail
          refine wp_region_noPanic ?_
          refine wp_region_held_drew (S := HeldL L) (by kernel_rfl) HK.out (fun hHeld => ?_)
          generalize wc.drew = V at *
          refine wpAnyH_take (i := 0) (v := ?_) rfl (by kernel_rfl) (by kernel_rfl) (by kernel_rfl) (fun _ _ _ h => h) (Or.inl ⟨by rfl, ?_⟩) (by assumption) ?_
          rotate_left
          · (intro w hSw; go_simp; try (with_reducible rfl))
          try simp only [Act.put, List.getElem_toArray, List.getElem_cons_zero, List.setIfInBounds_toArray, List.set_cons_zero, List.set_cons_succ]
          refine wpAnyH_take (i := 1) (v := ?_) rfl (by kernel_rfl) (by kernel_rfl) (by kernel_rfl) (fun _ _ _ h => h) (Or.inl ⟨by rfl, ?_⟩) (by assumption) ?_
          rotate_left
          · (intro w hSw; go_simp; try (with_reducible rfl))
          try simp only [Act.put, List.getElem_toArray, List.getElem_cons_zero, List.getElem_cons_succ, List.setIfInBounds_toArray, List.set_cons_zero, List.set_cons_succ]
          refine wpAnyH_take (i := 2) (v := ?_) rfl (by kernel_rfl) (by kernel_rfl) (by kernel_rfl) (fun _ _ _ h => h) (Or.inl ⟨by rfl, ?_⟩) (by assumption) ?_
          rotate_left
          · (intro w hSw; go_simp; try (with_reducible rfl))
          try simp only [Act.put, List.getElem_toArray, List.getElem_cons_zero, List.getElem_cons_succ, List.setIfInBounds_toArray, List.set_cons_zero, List.set_cons_succ]
          refine wpAnyH_take (i := 3) (v := ?_) rfl (by kernel_rfl) (by kernel_rfl) (by kernel_rfl) (fun _ _ _ h => h) (Or.inl ⟨by rfl, ?_⟩) (by assumption) ?_
          rotate_left
          · (intro w hSw; go_simp; try (with_reducible rfl))
          try simp only [Act.put, List.getElem_toArray, List.getElem_cons_zero, List.getElem_cons_succ, List.setIfInBounds_toArray, List.set_cons_zero, List.set_cons_succ]
          refine wpAnyH_take (i := 4) (v := ?_) rfl (by kernel_rfl) (by kernel_rfl) (by kernel_rfl) (fun _ _ _ h => h) (Or.inl ⟨by rfl, ?_⟩) (by assumption) ?_
          rotate_left
          · (intro w hSw; go_simp; try (with_reducible rfl))
          try simp only [Act.put, List.getElem_toArray, List.getElem_cons_zero, List.getElem_cons_succ, List.setIfInBounds_toArray, List.set_cons_zero, List.set_cons_succ]
          refine wpAnyH_take (i := 5) rfl (by kernel_rfl) (by kernel_rfl) (by kernel_rfl) (fun _ _ _ h => h) (yields_addr_l HLU MA (by rfl) _ rfl rfl) (by assumption) ?_
          try simp only [Act.put, List.getElem_toArray, List.getElem_cons_zero, List.getElem_cons_succ, List.setIfInBounds_toArray, List.set_cons_zero, List.set_cons_succ]
          refine wpAnyH_take (i := 7) (v := ?_) rfl (by kernel_rfl) (by kernel_rfl) (by kernel_rfl) (fun _ _ _ h => h) (Or.inl ⟨by rfl, ?_⟩) (by assumption) ?_
          rotate_left
          · (intro w hSw; go_simp; try (with_reducible rfl))
          try simp only [Act.put, List.getElem_toArray, List.getElem_cons_zero, List.getElem_cons_succ, List.setIfInBounds_toArray, List.set_cons_zero, List.set_cons_succ]
          refine wpAnyH_take (i := 8) rfl (by kernel_rfl) (by kernel_rfl) (by kernel_rfl) (fun _ _ _ h => h) (yields_addr_l HLU MA (by rfl) _ rfl rfl) (by assumption) ?_
          try simp only [Act.put, List.getElem_toArray, List.getElem_cons_zero, List.getElem_cons_succ, List.setIfInBounds_toArray, List.set_cons_zero, List.set_cons_succ]
          refine wpAnyH_ready (rs := [6]) (by kernel_rfl) (by simp) ?_
          refine AllReadyH.cons rfl (fun K hK => ?_) AllReadyH.nil
          go_simp
          refine (HOF _ G es2 st F6 HTD.out hs0 (by omega) (by omega)).out.mono ?_
          rintro e V2 ⟨rfl, ⟨st2, hT2, hs2, hs2b⟩, hf2⟩
          have HT := Lib.hid hT2
          have HR := Lib.hid (HRD.out.foot hf2 (fun g hg e => HN6.out g hg (by rw [List.mem_singleton.1 e]; exact HG6.out)))
          have HB := Lib.hid (HBD.out.trans (hf2.below (B := w.heap.size) (by have := HGL.out; simp; omega) HBD.out.size))
          have hS2 := HeldL.foot HK.out hf2 (fun y hy => ⟨(HLD.out y hy).1, fun e => (HLD.out y hy).2 (by rw [List.mem_singleton.1 e]; exact HG6.out)⟩)
          have HL2 : Hid (∀ y ∈ L, y.1 < V2.heap.size ∧ y.1 ∉ F6) := Lib.hid (fun y hy => ⟨Nat.lt_of_lt_of_le (HLD.out y hy).1 hf2.size, (HLD.out y hy).2⟩)
          clear hT2 hf2 HTD HRD HBD HLD
          go_wp2_with fail
          refine hK.out _ _ hS2 (fun hHeld => ?_)
          clear hK K
          try simp only [Act.put, List.getElem_toArray, List.getElem_cons_zero, List.getElem_cons_succ, List.setIfInBounds_toArray, List.set_cons_zero, List.set_cons_succ]
          refine wpAnyH_ready (rs := [9]) (by kernel_rfl) (by simp) ?_
          refine AllReadyH.cons rfl (fun K hK => ?_) AllReadyH.nil
          go_simp
          refine (HRO _ _ es2 HR.out).out.mono ?_
          rintro e V3 ⟨rfl, hb3⟩
          replace HT := Lib.hid (HT.out.below hb3)
          replace HB := Lib.hid (chain HB.out hb3)
          have hS3 := HeldL.below hS2 hb3 (fun y hy => (HL2.out y hy).1)
          have HL3 : Hid (∀ y ∈ L, y.1 < V3.heap.size ∧ y.1 ∉ F6) := Lib.hid (fun y hy => ⟨Nat.lt_of_lt_of_le (HL2.out y hy).1 hb3.size, (HL2.out y hy).2⟩)
          clear hb3 HR HL2 hS2 HRO
          go_wp2_with fail
          refine hK.out _ _ hS3 (fun hHeld => ?_)
          clear hK K
          try simp only [Act.put, List.getElem_toArray, List.getElem_cons_zero, List.getElem_cons_succ, List.setIfInBounds_toArray, List.set_cons_zero, List.set_cons_succ]
          obtain ⟨X, hX⟩ : ∃ X, ofE es2 UF UB = X := ⟨_, rfl⟩
          rw [hX]
          have hXX : (X == X) = true := by simp
          have hEE : (((es2.length : Nat) : Int) == ((es2.length : Nat) : Int)) = true := by simp
          clear hX
          refine wpAnyH_take (i := 10) (v := ?_) rfl (by kernel_rfl) (by kernel_rfl) (by kernel_rfl) (fun _ _ _ h => h) (Or.inl ⟨by rfl, ?_⟩) (by assumption) ?_
          rotate_left
          · (intro w hSw; go_simp; try (with_reducible rfl))
          try simp only [Act.put, List.getElem_toArray, List.getElem_cons_zero, List.getElem_cons_succ, List.setIfInBounds_toArray, List.set_cons_zero, List.set_cons_succ]
          refine wpAnyH_take (i := 11) (v := ?_) rfl (by kernel_rfl) (by kernel_rfl) (by kernel_rfl) (fun _ _ _ h => h) (Or.inl ⟨by rfl, ?_⟩) (by assumption) ?_
          rotate_left
          · (intro w hSw; go_simp; try (with_reducible rfl))
          try simp only [Act.put, List.getElem_toArray, List.getElem_cons_zero, List.getElem_cons_succ, List.setIfInBounds_toArray, List.set_cons_zero, List.set_cons_succ]
          refine wpAnyH_take (i := 12) (v := ?_) rfl (by kernel_rfl) (by kernel_rfl) (by kernel_rfl) (fun _ _ _ h => h) (Or.inl ⟨by rfl, ?_⟩) (by assumption) ?_
          rotate_left
          · (intro w hSw; go_simp; try (with_reducible rfl))
          try simp only [Act.put, List.getElem_toArray, List.getElem_cons_zero, List.getElem_cons_succ, List.setIfInBounds_toArray, List.set_cons_zero, List.set_cons_succ]
          refine wpAnyH_take (i := 13) (v := ?_) rfl (by kernel_rfl) (by kernel_rfl) (by kernel_rfl) (fun _ _ _ h => h) (Or.inl ⟨by rfl, ?_⟩) (by assumption) ?_
          rotate_left
          · (intro w hSw; go_simp; try (with_reducible rfl))
          try simp only [Act.put, List.getElem_toArray, List.getElem_cons_zero, List.getElem_cons_succ, List.setIfInBounds_toArray, List.set_cons_zero, List.set_cons_succ]
          refine wpAnyH_take (i := 14) (v := ?_) rfl (by kernel_rfl) (by kernel_rfl) (by kernel_rfl) (fun _ _ _ h => h) (Or.inl ⟨by rfl, ?_⟩) (by assumption) ?_
          rotate_left
          · (intro w hSw; go_simp; try (with_reducible rfl))
          try simp only [Act.put, List.getElem_toArray, List.getElem_cons_zero, List.getElem_cons_succ, List.setIfInBounds_toArray, List.set_cons_zero, List.set_cons_succ]
          refine wpAnyH_take (i := 15) (v := ?_) rfl (by kernel_rfl) (by kernel_rfl) (by kernel_rfl) (fun _ _ _ h => h) (Or.inl ⟨by rfl, ?_⟩) (by assumption) ?_
          rotate_left
          · (intro w hSw; go_simp; try (with_reducible rfl))
          try simp only [Act.put, List.getElem_toArray, List.getElem_cons_zero, List.getElem_cons_succ, List.setIfInBounds_toArray, List.set_cons_zero, List.set_cons_succ]
          refine wpAnyH_take (i := 17) (v := ?_) rfl (by kernel_rfl) (by kernel_rfl) (by kernel_rfl) (fun _ _ _ h => h) (Or.inl ⟨by rfl, ?_⟩) (by assumption) ?_
          rotate_left
          · (intro w hSw; go_simp; try (with_reducible rfl))
          try simp only [Act.put, List.getElem_toArray, List.getElem_cons_zero, List.getElem_cons_succ, List.setIfInBounds_toArray, List.set_cons_zero, List.set_cons_succ]
          refine wpAnyH_take (i := 18) (v := ?_) rfl (by kernel_rfl) (by kernel_rfl) (by kernel_rfl) (fun _ _ _ h => h) (Or.inl ⟨by rfl, ?_⟩) (by assumption) ?_
          rotate_left
          · (intro w hSw; go_simp; try (with_reducible rfl))
          try simp only [Act.put, List.getElem_toArray, List.getElem_cons_zero, List.getElem_cons_succ, List.setIfInBounds_toArray, List.set_cons_zero, List.set_cons_succ]
          refine wpAnyH_ready (rs := [16]) (by kernel_rfl) (by simp) ?_
          refine AllReadyH.cons rfl (fun K hK => ?_) AllReadyH.nil
          go_simp
          refine (HLN _ G es2 st2 F6 HT.out).out.mono ?_
          rintro e V4 ⟨rfl, rfl⟩
          skip
          go_wp2_with fail
          refine hK.out _ _ hS3 (fun hHeld => ?_)
          clear hK K
          try simp only [Act.put, List.getElem_toArray, List.getElem_cons_zero, List.getElem_cons_succ, List.setIfInBounds_toArray, List.set_cons_zero, List.set_cons_succ]
          refine wpAnyH_take (i := 19) (v := ?_) rfl (by kernel_rfl) (by kernel_rfl) (by kernel_rfl) (fun _ _ _ h => h) (Or.inl ⟨by rfl, ?_⟩) (by assumption) ?_
          rotate_left
          · (intro w hSw; go_simp; try (with_reducible rfl))
          try simp only [Act.put, List.getElem_toArray, List.getElem_cons_zero, List.getElem_cons_succ, List.setIfInBounds_toArray, List.set_cons_zero, List.set_cons_succ]
          refine wpAnyH_take (i := 20) (v := ?_) rfl (by kernel_rfl) (by kernel_rfl) (by kernel_rfl) (fun _ _ _ h => h) (Or.inl ⟨by rfl, ?_⟩) (by assumption) ?_
          rotate_left
          · (intro w hSw; go_simp; try (with_reducible rfl))
          try simp only [Act.put, List.getElem_toArray, List.getElem_cons_zero, List.getElem_cons_succ, List.setIfInBounds_toArray, List.set_cons_zero, List.set_cons_succ]
          refine wpAnyH_take (i := 21) (v := ?_) rfl (by kernel_rfl) (by kernel_rfl) (by kernel_rfl) (fun _ _ _ h => h) (Or.inl ⟨by rfl, ?_⟩) (by assumption) ?_
          rotate_left
          · (intro w hSw; go_simp; try (with_reducible rfl))
          try simp only [Act.put, List.getElem_toArray, List.getElem_cons_zero, List.getElem_cons_succ, List.setIfInBounds_toArray, List.set_cons_zero, List.set_cons_succ]
          refine wpAnyH_take (i := 22) (v := ?_) rfl (by kernel_rfl) (by kernel_rfl) (by kernel_rfl) (fun _ _ _ h => h) (Or.inl ⟨by rfl, ?_⟩) (by assumption) ?_
          rotate_left
          · (intro w hSw; go_simp; try (with_reducible rfl))
          try simp only [Act.put, List.getElem_toArray, List.getElem_cons_zero, List.getElem_cons_succ, List.setIfInBounds_toArray, List.set_cons_zero, List.set_cons_succ]
          refine wpAnyH_take (i := 23) rfl (by kernel_rfl) (by kernel_rfl) (by kernel_rfl) (fun _ _ _ h => h) (yields_pref_l HOW MP (by rfl) _ rfl rfl) (by assumption) ?_
          try simp only [Act.put, List.getElem_toArray, List.getElem_cons_zero, List.getElem_cons_succ, List.setIfInBounds_toArray, List.set_cons_zero, List.set_cons_succ]
          refine wpAnyH_ready (rs := [24]) (by kernel_rfl) (by simp) ?_
          refine AllReadyH.cons rfl (fun K hK => ?_) AllReadyH.nil
          go_simp
          refine (HAO _ G es2 st2 F6 HT.out (by omega)).out.mono ?_
          rintro e V5 ⟨rfl, F7, hT5, hf5⟩
          have HT5 := Lib.hid hT5
          have HB5 := Lib.hid (HB.out.trans (hf5.below (B := w.heap.size) (fun k hk => by have := HM6.out k hk; omega) HB.out.size))
          have hS5 := HeldL.foot hS3 hf5 HL3.out
          have HL5 : Hid (∀ y ∈ L, y.1 < V5.heap.size ∧ y.1 ∉ F7) := Lib.hid (fun y hy => ⟨Nat.lt_of_lt_of_le (HL3.out y hy).1 hf5.size, hf5.out (HL3.out y hy).1 (HL3.out y hy).2⟩)
          have HG7 : Hid (G ∈ F7) := Lib.hid hT5.lt.1
          clear hT5 hf5 HT HB hS3 HL3
          go_wp2_with fail
          refine hK.out _ _ hS5 (fun hHeld => ?_)
          clear hK K
          try simp only [Act.put, List.getElem_toArray, List.getElem_cons_zero, List.getElem_cons_succ, List.setIfInBounds_toArray, List.set_cons_zero, List.set_cons_succ]
          refine wpAnyH_take (i := 25) (v := ?_) rfl (by kernel_rfl) (by kernel_rfl) (by kernel_rfl) (fun _ _ _ h => h) (Or.inl ⟨by rfl, ?_⟩) (by assumption) ?_
          rotate_left
          · (intro w hSw; go_simp; try (with_reducible rfl))
          try simp only [Act.put, List.getElem_toArray, List.getElem_cons_zero, List.getElem_cons_succ, List.setIfInBounds_toArray, List.set_cons_zero, List.set_cons_succ]
          refine wpAnyH_take (i := 26) (v := ?_) rfl (by kernel_rfl) (by kernel_rfl) (by kernel_rfl) (fun _ _ _ h => h) (Or.inl ⟨by rfl, ?_⟩) (by assumption) ?_
          rotate_left
          · (intro w hSw; go_simp; try (with_reducible rfl))
          try simp only [Act.put, List.getElem_toArray, List.getElem_cons_zero, List.getElem_cons_succ, List.setIfInBounds_toArray, List.set_cons_zero, List.set_cons_succ]
          refine wpAnyH_take (i := 27) (v := ?_) rfl (by kernel_rfl) (by kernel_rfl) (by kernel_rfl) (fun _ _ _ h => h) (Or.inl ⟨by rfl, ?_⟩) (by assumption) ?_
          rotate_left
          · (intro w hSw; go_simp; try (with_reducible rfl))
          try simp only [Act.put, List.getElem_toArray, List.getElem_cons_zero, List.getElem_cons_succ, List.setIfInBounds_toArray, List.set_cons_zero, List.set_cons_succ]
          refine wpAnyH_take (i := 28) rfl (by kernel_rfl) (by kernel_rfl) (by kernel_rfl) (fun _ _ _ h => h) (yields_addr_l HLU MA (by rfl) _ rfl rfl) (by assumption) ?_
          try simp only [Act.put, List.getElem_toArray, List.getElem_cons_zero, List.getElem_cons_succ, List.setIfInBounds_toArray, List.set_cons_zero, List.set_cons_succ]
          refine wpAnyH_take (i := 30) rfl (by kernel_rfl) (by kernel_rfl) (by kernel_rfl) (fun _ _ _ h => h) (yields_addr_l HLU MA (by rfl) _ rfl rfl) (by assumption) ?_
          try simp only [Act.put, List.getElem_toArray, List.getElem_cons_zero, List.getElem_cons_succ, List.setIfInBounds_toArray, List.set_cons_zero, List.set_cons_succ]
          refine wpAnyH_ready (rs := [29]) (by kernel_rfl) (by simp) ?_
          refine AllReadyH.cons rfl (fun K hK => ?_) AllReadyH.nil
          go_simp
          refine (HUM _).out.mono ?_
          rintro e V6b ⟨rfl, hb6⟩
          have HT6 := Lib.hid (HT5.out.below hb6)
          have HB6 := Lib.hid (chain HB5.out hb6)
          have hS6 := HeldL.below hS5 hb6 (fun y hy => (HL5.out y hy).1)
          have HL6 : Hid (∀ y ∈ L, y.1 < V6b.heap.size ∧ y.1 ∉ F7) := Lib.hid (fun y hy => ⟨Nat.lt_of_lt_of_le (HL5.out y hy).1 hb6.size, (HL5.out y hy).2⟩)
          clear hb6 HT5 HB5 hS5 HL5
          go_wp2_with fail
          refine hK.out _ _ hS6 (fun hHeld => ?_)
          clear hK K
          try simp only [Act.put, List.getElem_toArray, List.getElem_cons_zero, List.getElem_cons_succ, List.setIfInBounds_toArray, List.set_cons_zero, List.set_cons_succ]
          by_cases hsame : UF = Gf ∧ UB = U
          · obtain ⟨rfl, rfl⟩ := hsame
            have q2 : ∀ W, (binOp .neq 25 (addrV UF UB) (addrV UF UB)).run Tryd.prog W = .ok (.bool false) W := fun W => by rw [q1 W]; simp
            have HT0 := Lib.hid (HTOP.out es2 HGE.out)
            clear q1 HTOP HGE
            refine wpAnyH_take (i := 31) (v := ?_) rfl (by kernel_rfl) (by kernel_rfl) (by kernel_rfl) (fun _ _ _ h => h) (Or.inl ⟨by rfl, ?_⟩) (by assumption) ?_
            rotate_left
            · (intro w hSw; go_simp; try (with_reducible rfl))
            try simp only [Act.put, List.getElem_toArray, List.getElem_cons_zero, List.getElem_cons_succ, List.setIfInBounds_toArray, List.set_cons_zero, List.set_cons_succ]
            refine wpAnyH_take (i := 32) (v := ?_) rfl (by kernel_rfl) (by kernel_rfl) (by kernel_rfl) (fun _ _ _ h => h) (Or.inl ⟨by rfl, ?_⟩) (by assumption) ?_
            rotate_left
            · (intro w hSw; go_simp; try (with_reducible rfl))
            try simp only [Act.put, List.getElem_toArray, List.getElem_cons_zero, List.getElem_cons_succ, List.setIfInBounds_toArray, List.set_cons_zero, List.set_cons_succ]
            refine wpAnyH_take (i := 33) (v := ?_) rfl (by kernel_rfl) (by kernel_rfl) (by kernel_rfl) (fun _ _ _ h => h) (Or.inl ⟨by rfl, ?_⟩) (by assumption) ?_
            rotate_left
            · (intro w hSw; go_simp; try (with_reducible rfl))
            try simp only [Act.put, List.getElem_toArray, List.getElem_cons_zero, List.getElem_cons_succ, List.setIfInBounds_toArray, List.set_cons_zero, List.set_cons_succ]
            refine wpAnyH_take (i := 34) rfl (by kernel_rfl) (by kernel_rfl) (by kernel_rfl) (fun _ _ _ h => h) (yields_addr_l HLU MA (by rfl) _ rfl rfl) (by assumption) ?_
            try simp only [Act.put, List.getElem_toArray, List.getElem_cons_zero, List.getElem_cons_succ, List.setIfInBounds_toArray, List.set_cons_zero, List.set_cons_succ]
            refine wpAnyH_ready (rs := [35]) (by kernel_rfl) (by simp) ?_
            refine AllReadyH.cons rfl (fun K hK => ?_) AllReadyH.nil
            go_simp
            refine (HOF _ G _ st2 F7 HT6.out hs2 (by omega) (by omega)).out.mono ?_
            rintro e V7 ⟨rfl, ⟨st7, hT7, hs7, hs7b⟩, hf7⟩
            rw [HT0.out]
            have HBw := Lib.hid (HB6.out.trans (hf7.below (B := w.heap.size) (by have := HGL.out; simp; omega) HB6.out.size))
            have hSw := HeldL.foot hS6 hf7 (fun y hy => ⟨(HL6.out y hy).1, fun e => (HL6.out y hy).2 (by rw [List.mem_singleton.1 e]; exact HG7.out)⟩)
            have HLw : Hid (∀ y ∈ L, y.1 < V7.heap.size) := Lib.hid (fun y hy => Nat.lt_of_lt_of_le (HL6.out y hy).1 hf7.size)
            clear hT7 hf7 HT6 HB6 hS6 HL6
            go_wp2_with fail
            refine hK.out _ _ hSw (fun hHeld => ?_)
            clear hK K
            try simp only [Act.put, List.getElem_toArray, List.getElem_cons_zero, List.getElem_cons_succ, List.setIfInBounds_toArray, List.set_cons_zero, List.set_cons_succ]
            refine wpAnyH_take (i := 36) (v := ?_) rfl (by kernel_rfl) (by kernel_rfl) (by kernel_rfl) (fun _ _ _ h => h) (Or.inl ⟨by rfl, ?_⟩) (by assumption) ?_
            rotate_left
            · (intro w hSw; go_simp; try (with_reducible rfl))
            try simp only [Act.put, List.getElem_toArray, List.getElem_cons_zero, List.getElem_cons_succ, List.setIfInBounds_toArray, List.set_cons_zero, List.set_cons_succ]
            refine wpAnyH_take (i := 37) (v := ?_) rfl (by kernel_rfl) (by kernel_rfl) (by kernel_rfl) (fun _ _ _ h => h) (Or.inl ⟨by rfl, ?_⟩) (by assumption) ?_
            rotate_left
            · (intro w hSw; go_simp; try (with_reducible rfl))
            try simp only [Act.put, List.getElem_toArray, List.getElem_cons_zero, List.getElem_cons_succ, List.setIfInBounds_toArray, List.set_cons_zero, List.set_cons_succ]
            refine wpAnyH_take (i := 38) (v := ?_) rfl (by kernel_rfl) (by kernel_rfl) (by kernel_rfl) (fun _ _ _ h => h) (Or.inl ⟨by rfl, ?_⟩) (by assumption) ?_
            rotate_left
            · (intro w hSw; go_simp; try (with_reducible rfl))
            try simp only [Act.put, List.getElem_toArray, List.getElem_cons_zero, List.getElem_cons_succ, List.setIfInBounds_toArray, List.set_cons_zero, List.set_cons_succ]
            refine wpAnyH_take (i := 39) (v := ?_) rfl (by kernel_rfl) (by kernel_rfl) (by kernel_rfl) (fun _ _ _ h => h) (Or.inl ⟨by rfl, ?_⟩) (by assumption) ?_
            rotate_left
            · (intro w hSw; go_simp; try (with_reducible rfl))
            try simp only [Act.put, List.getElem_toArray, List.getElem_cons_zero, List.getElem_cons_succ, List.setIfInBounds_toArray, List.set_cons_zero, List.set_cons_succ]
            refine wpAnyH_ready (rs := [40]) (by kernel_rfl) (by simp) ?_
            refine AllReadyH.cons rfl (fun K hK => ?_) AllReadyH.nil
            go_simp
            refine (HLV _ (HTB.out.below HBw.out)).out.mono ?_
            rintro e V9 ⟨rfl, hb9⟩
            have HB9 := Lib.hid (chain HBw.out hb9)
            have hS9 := HeldL.below hSw hb9 HLw.out
            clear hb9
            go_wp2_with fail
            refine hK.out _ _ hS9 (fun hHeld => ?_)
            clear hK K
            try simp only [Act.put, List.getElem_toArray, List.getElem_cons_zero, List.getElem_cons_succ, List.setIfInBounds_toArray, List.set_cons_zero, List.set_cons_succ]
            refine wpAnyH_take (i := 41) (v := ?_) rfl (by kernel_rfl) (by kernel_rfl) (by kernel_rfl) (fun _ _ _ h => h) (Or.inl ⟨by rfl, ?_⟩) (by assumption) ?_
            rotate_left
            · (intro w hSw; go_simp; try (with_reducible rfl))
            try simp only [Act.put, List.getElem_toArray, List.getElem_cons_zero, List.getElem_cons_succ, List.setIfInBounds_toArray, List.set_cons_zero, List.set_cons_succ]
            refine wpAnyH_take (i := 42) (v := ?_) rfl (by kernel_rfl) (by kernel_rfl) (by kernel_rfl) (fun _ _ _ h => h) (Or.inl ⟨by rfl, ?_⟩) (by assumption) ?_
            rotate_left
            · (intro w hSw; go_simp; try (with_reducible rfl))
            try simp only [Act.put, List.getElem_toArray, List.getElem_cons_zero, List.getElem_cons_succ, List.setIfInBounds_toArray, List.set_cons_zero, List.set_cons_succ]
            refine wpAnyH_done (by kernel_rfl) ?_ _
            refine NoPanic.normal ?_
            go_wp2_with fail
            go_ret
            exact ⟨rfl, HB9.out⟩
          · have q2 : ∀ W, (binOp .neq 25 (addrV UF UB) (addrV Gf U)).run Tryd.prog W = .ok (.bool true) W := fun W => by rw [q1 W, decide_eq_false hsame]; rfl
            clear q1 HTOP HGE
            have HBw := HB6
            have hSw := hS6
            have HLw : Hid (∀ y ∈ L, y.1 < V6b.heap.size) := Lib.hid (fun y hy => (HL6.out y hy).1)
            refine wpAnyH_take (i := 31) (v := ?_) rfl (by kernel_rfl) (by kernel_rfl) (by kernel_rfl) (fun _ _ _ h => h) (Or.inl ⟨by rfl, ?_⟩) (by assumption) ?_
            rotate_left
            · (intro w hSw; go_simp; try (with_reducible rfl))
            try simp only [Act.put, List.getElem_toArray, List.getElem_cons_zero, List.getElem_cons_succ, List.setIfInBounds_toArray, List.set_cons_zero, List.set_cons_succ]
            refine wpAnyH_take (i := 32) (v := ?_) rfl (by kernel_rfl) (by kernel_rfl) (by kernel_rfl) (fun _ _ _ h => h) (Or.inl ⟨by rfl, ?_⟩) (by assumption) ?_
            rotate_left
            · (intro w hSw; go_simp; try (with_reducible rfl))
            try simp only [Act.put, List.getElem_toArray, List.getElem_cons_zero, List.getElem_cons_succ, List.setIfInBounds_toArray, List.set_cons_zero, List.set_cons_succ]
            refine wpAnyH_take (i := 33) (v := undef) rfl (by kernel_rfl) (by kernel_rfl) (by kernel_rfl) (fun _ _ _ h => h) (Or.inr ⟨by rfl, rfl⟩) (by assumption) ?_
            try simp only [Act.put, List.getElem_toArray, List.getElem_cons_zero, List.getElem_cons_succ, List.setIfInBounds_toArray, List.set_cons_zero, List.set_cons_succ]
            refine wpAnyH_take (i := 34) (v := undef) rfl (by kernel_rfl) (by kernel_rfl) (by kernel_rfl) (fun _ _ _ h => h) (Or.inr ⟨by rfl, rfl⟩) (by assumption) ?_
            try simp only [Act.put, List.getElem_toArray, List.getElem_cons_zero, List.getElem_cons_succ, List.setIfInBounds_toArray, List.set_cons_zero, List.set_cons_succ]
            refine wpAnyH_take (i := 35) (v := undef) rfl (by kernel_rfl) (by kernel_rfl) (by kernel_rfl) (fun _ _ _ h => h) (Or.inr ⟨by rfl, rfl⟩) (by assumption) ?_
            try simp only [Act.put, List.getElem_toArray, List.getElem_cons_zero, List.getElem_cons_succ, List.setIfInBounds_toArray, List.set_cons_zero, List.set_cons_succ]
            refine wpAnyH_take (i := 36) (v := undef) rfl (by kernel_rfl) (by kernel_rfl) (by kernel_rfl) (fun _ _ _ h => h) (Or.inr ⟨by rfl, rfl⟩) (by assumption) ?_
            try simp only [Act.put, List.getElem_toArray, List.getElem_cons_zero, List.getElem_cons_succ, List.setIfInBounds_toArray, List.set_cons_zero, List.set_cons_succ]
            refine wpAnyH_take (i := 37) (v := ?_) rfl (by kernel_rfl) (by kernel_rfl) (by kernel_rfl) (fun _ _ _ h => h) (Or.inl ⟨by rfl, ?_⟩) (by assumption) ?_
            rotate_left
            · (intro w hSw; go_simp; try (with_reducible rfl))
            try simp only [Act.put, List.getElem_toArray, List.getElem_cons_zero, List.getElem_cons_succ, List.setIfInBounds_toArray, List.set_cons_zero, List.set_cons_succ]
            refine wpAnyH_take (i := 38) (v := ?_) rfl (by kernel_rfl) (by kernel_rfl) (by kernel_rfl) (fun _ _ _ h => h) (Or.inl ⟨by rfl, ?_⟩) (by assumption) ?_
            rotate_left
            · (intro w hSw; go_simp; try (with_reducible rfl))
            try simp only [Act.put, List.getElem_toArray, List.getElem_cons_zero, List.getElem_cons_succ, List.setIfInBounds_toArray, List.set_cons_zero, List.set_cons_succ]
            refine wpAnyH_take (i := 39) (v := ?_) rfl (by kernel_rfl) (by kernel_rfl) (by kernel_rfl) (fun _ _ _ h => h) (Or.inl ⟨by rfl, ?_⟩) (by assumption) ?_
            rotate_left
            · (intro w hSw; go_simp; try (with_reducible rfl))
            try simp only [Act.put, List.getElem_toArray, List.getElem_cons_zero, List.getElem_cons_succ, List.setIfInBounds_toArray, List.set_cons_zero, List.set_cons_succ]
            refine wpAnyH_ready (rs := [40]) (by kernel_rfl) (by simp) ?_
            refine AllReadyH.cons rfl (fun K hK => ?_) AllReadyH.nil
            go_simp
            refine (HLV _ (HTB.out.below HBw.out)).out.mono ?_
            rintro e V9 ⟨rfl, hb9⟩
            have HB9 := Lib.hid (chain HBw.out hb9)
            have hS9 := HeldL.below hSw hb9 HLw.out
            clear hb9
            go_wp2_with fail
            refine hK.out _ _ hS9 (fun hHeld => ?_)
            clear hK K
            try simp only [Act.put, List.getElem_toArray, List.getElem_cons_zero, List.getElem_cons_succ, List.setIfInBounds_toArray, List.set_cons_zero, List.set_cons_succ]
            refine wpAnyH_take (i := 41) (v := ?_) rfl (by kernel_rfl) (by kernel_rfl) (by kernel_rfl) (fun _ _ _ h => h) (Or.inl ⟨by rfl, ?_⟩) (by assumption) ?_
            rotate_left
            · (intro w hSw; go_simp; try (with_reducible rfl))
            try simp only [Act.put, List.getElem_toArray, List.getElem_cons_zero, List.getElem_cons_succ, List.setIfInBounds_toArray, List.set_cons_zero, List.set_cons_succ]
            refine wpAnyH_take (i := 42) (v := ?_) rfl (by kernel_rfl) (by kernel_rfl) (by kernel_rfl) (fun _ _ _ h => h) (Or.inl ⟨by rfl, ?_⟩) (by assumption) ?_
            rotate_left
            · (intro w hSw; go_simp; try (with_reducible rfl))
            try simp only [Act.put, List.getElem_toArray, List.getElem_cons_zero, List.getElem_cons_succ, List.setIfInBounds_toArray, List.set_cons_zero, List.set_cons_succ]
            refine wpAnyH_done (by kernel_rfl) ?_ _
            refine NoPanic.normal ?_
            go_wp2_with fail
            go_ret
            exact ⟨rfl, HB9.out⟩

theorem door_met (os : Os) (args : Array Value) : laidMetH Tryd.prog Rows.spaceMapsRow.laid ((World.doorLaid Tryd.prog 400 os).forCall (fun _ _ => 0) ⟨#[], args, []⟩).memory :=
  laidMetH_of_parts3 (fuel := 8) (laidMet_of_run' 8 (by kernel_rfl) (by kernel_rfl)) (by kernel_rfl) (by kernel_rfl)

set_option maxRecDepth 100000 in
theorem lifted (os : Os) (started : os.Started) (H : Type) (enc : TypeId × Value → H) :
    ReturnsInHanded {} Tryd.checked os 3 .any (fun w args => (Rows.spaceMapsSpec.pre enc Tryd.prog Tryd.f3 [] false w args ∧ laidMetH Tryd.prog Rows.spaceMapsRow.laid w) ∧ sizedMet enc Tryd.prog Tryd.f3 (OpenSpec.ofChange Rows.spaceMapsSpec) false w args)
      (Rows.spaceMapsSpec.post enc Tryd.prog Tryd.f3 false true false false) := by
  refine handed_shaped (C := Tryd.checked) (X := fun w _ => laidMetH Tryd.prog Rows.spaceMapsRow.laid w) (fun _ _ _ hh h => h.of_heap hh) own started (by kernel_rfl) Tryd.func3
    (ChangeSpec.witness_shaped (enc := enc) (C := Tryd.checked) (os := os) (X := fun w _ => laidMetH Tryd.prog Rows.spaceMapsRow.laid w) false (World.doorLaid Tryd.prog 400 os) #[.slice none 0 0, .agg #[.int .i64 0, .int .u8 0, .int .u8 0, .int .u8 0, .int .u8 0, .int .u8 0, .int .u8 0, .int .u8 0, .int .u8 0, .int .u8 0, .int .u8 0, .int .u8 0, .int .u8 0, .int .u8 0, .int .u8 0, .int .u8 0, .int .u8 0, .int .i64 0], .int .i64 0, .agg #[.int .i64 0, .int .u8 0, .int .u8 0, .int .u8 0, .int .u8 0, .int .u8 0, .int .u8 0, .int .u8 0, .int .u8 0, .int .u8 0, .int .u8 0, .int .u8 0, .int .u8 0, .int .u8 0, .int .u8 0, .int .u8 0, .int .u8 0]] 8 rfl (World.shaped_of_RefB (by kernel_rfl) (by kernel_rfl)) (by kernel_rfl) (by kernel_rfl) (by kernel_rfl) (door_met os _)) ?_
  intro W base args ds gs before hval0 hW hL hsh
  have hval : ∀ (j : Nat) t v, Tryd.f3.params[j]? = some t → args[j]? = some v → Value.okWide Tryd.prog W .any base t v := hval0
  have hW' := hW
  obtain ⟨p, q, hA0, hV, rfl, hfz, hnd⟩ := hW
  have hA : DataW.TrodAll enc Tryd.prog W 0 (fun _ => true) true Tryd.f3.params.toList args.toList ds p := hA0
  rw [Tryd.params3] at hA hval
  obtain ⟨v0, vs0, d0, ds0, p0, q0, hargs, rfl, rfl, h0, r0⟩ := trodAll_cons hA
  obtain ⟨v1, vs1, d1, ds1, p1, q1, rfl, rfl, rfl, h1, r1⟩ := trodAll_cons r0
  obtain ⟨v2, vs2, d2, ds2, p2, q2, rfl, rfl, rfl, h2, r2⟩ := trodAll_cons r1
  obtain ⟨v3, vs3, d3, ds3, p3, q3, rfl, rfl, rfl, h3, r3⟩ := trodAll_cons r2
  obtain ⟨rfl, rfl, rfl⟩ := trodAll_nil r3
  obtain rfl : args = #[v0, v1, v2, v3] := by cases args; simp_all
  obtain ⟨rfl, rfl⟩ := trodVars_none hV
  obtain ⟨a0, len0, cap0, rfl⟩ := okWide_slice Tryd.underlying22 (hval 0 22 v0 rfl rfl)
  have k0 := h0
  have lt0 : ∀ x ∈ p0, x.block < W.heap.size := by obtain ⟨m, hm⟩ := k0; exact DataW.trod_lt m _ _ _ hm
  obtain ⟨z0, w0⟩ := open_ents h0
  have k1 := h1
  have lt1 : ∀ x ∈ p1, x.block < W.heap.size := by obtain ⟨m, hm⟩ := k1; exact DataW.trod_lt m _ _ _ hm
  obtain ⟨f1, z1, n1, rfl, fw1, l1, w1, nw1⟩ := open_pref (hval 1 27 v1 rfl rfl) h1
  obtain ⟨a2, rfl, rfl, rfl, w2⟩ := open_int Tryd.underlying3 (hval 2 3 v2 rfl rfl) h2
  have k3 := h3
  have lt3 : ∀ x ∈ p3, x.block < W.heap.size := by obtain ⟨m, hm⟩ := k3; exact DataW.trod_lt m _ _ _ hm
  obtain ⟨f3, z3, rfl, fw3, l3, w3⟩ := open_addr (hval 3 25 v3 rfl rfl) h3
  clear hA0 hval0
  refine (walk a0 len0 cap0 z0 f1 z1 n1 a2 f3 z3 W w0 fw1 l1 w1 nw1 w2 fw3 l3 w3 (tabs_of Rows.spaceMapsRow.laid rfl hL hsh)).mono fun e W' ⟨he, bel⟩ => ?_
  subst he
  exact ⟨_, rfl, _, _, _, [], _, [], hW', trodAll_mk1 (shut_bool Tryd.underlying4 _), (trodAll_cons_mk (Below.trod laidOut (by kernel_rfl) (of_decide_eq_true (by kernel_rfl)) k0 bel lt0) (trodAll_cons_mk (Below.trod laidOut (by kernel_rfl) (of_decide_eq_true (by kernel_rfl)) k1 bel lt1) (trodAll_cons_mk (shut_int Tryd.underlying3 w2) (trodAll_cons_mk (Below.trod laidOut (by kernel_rfl) (of_decide_eq_true (by kernel_rfl)) k3 bel lt3) trodAll_mk0)))), rfl, bel.frame _, fun h => by cases h⟩

theorem over : Rows.SpaceMapsSaid :=
  OpenClaim.holds_of_wide 3 Tryd.f3 rfl rfl rfl rfl rfl rfl rfl ⟨rfl, rfl, rfl, rfl, rfl⟩ rfl rfl rfl rfl rfl (by kernel_rfl) Tryd.func3 (by kernel_rfl)
    (of_decide_eq_true (by kernel_rfl)) (by unfold Func.isWrapper; first | (rw [if_pos (by decide +kernel)]; kernel_rfl) | (rw [if_neg (by decide +kernel)]; exact ⟨rfl, rfl⟩))
    (fun os started H enc _ => lifted os started H enc)


theorem proved : Rows.SpaceMapsCardSaid :=
  Claim7.holds_tied_plain_at .later [] [.data, .data, .data] true _ false
    over (fun _ h => by cases h) (by kernel_rfl) (fun _ h => by cases h) spaceMaps_row_tie rfl ⟨rfl, rfl⟩ (by kernel_rfl) rfl
    (fun f fn hf hfn => by
      obtain rfl : f = 3 := Option.some.inj ((show Tryd.prog.funcNamed "abatis/abatislaw07.SpaceMaps" = some 3 by kernel_rfl).symm.trans hf) |>.symm
      obtain rfl : fn = Tryd.f3 := (Option.some.inj (Tryd.func3.symm.trans hfn)).symm
      exact ⟨by kernel_rfl, fun j t ht => by
        rw [Tryd.params3] at ht
        have hm : t ∈ [22, 27, 3, 25] := by simpa using Array.mem_of_getElem? ht
        have hall : ([22, 27, 3, 25].all fun u => !Tryd.prog.wantsStandIn u) = true := by kernel_rfl
        exact (show Tryd.prog.wantsStandIn t = false by simpa using List.all_eq_true.1 hall t hm)⟩)
    (by kernel_rfl)
#print axioms proved
end Go.Proofs.YtgbajagacmfcmaaDoor.spaceMaps

/- Texts that belong together, one behind the other: RefNameAny, RefWire1, RefWireRec, RefWireMay, EqRec, RefWireMay2. -/
import Derived.Test.YticdpidngmeebaaD2
/- Contract of the reference's Name of layer 8. -/
namespace Go.Proofs.Yticdpidngmeebaa
open Go.RowKit
set_option linter.unusedVariables false
set_option maxRecDepth 20000

theorem wrap64_small {x : Int} (h : 0 ≤ x) (h2 : x < 2000000) : wrap64 x = x := by unfold wrap64; omega
theorem wrapu8_small {x : Int} (h : 0 ≤ x) (h2 : x < 256) : IntKind.u8.wrap x = x := by rw [IntKind.wrap_u8]; omega
theorem bys_two {A C : Nat} (hA : A ≤ 63) (hC : C < 256) : bys [UInt8.ofNat (192 + A), UInt8.ofNat C] = [.int .u8 (192 + (A : Int)), .int .u8 (C : Int)] := by
  unfold bys
  simp only [List.map_cons, List.map_nil, UInt8.toNat_ofNat']
  rw [Nat.mod_eq_of_lt (by omega), Nat.mod_eq_of_lt (by omega)]
  simp
/-- One operation alone may come up, and it is wanted. -/
theorem ready_one {P : Program} {md : Region.Mode} {ops : Array Oper} {Q : Exit → Act → World → Prop} {S : World → Prop} {fuel : Nat} {listed : Array Bool} {a : Act} {w : World} {i : Nat} {o : Oper} (ho : ops[i]? = some o) (hw : Region.wanted o (yielded ops a.tmps) = true)
    (h : ∀ K' : Act → World → Prop, Shut (∀ a w, S w → (S w → wpAnyH P md ops Q S fuel (listed.setIfInBounds i true) a w) → K' a w) → Oper.wp P o a w K' Q) : AllReadyH P md ops Q S fuel listed a w [i] :=
  AllReadyH.cons ho (fun K hK => by rw [if_pos hw]; exact h K hK) AllReadyH.nil
theorem bys_one (p : ByteArray) : bys [UInt8.ofNat p.size] = [.int .u8 ((p.size : Int) % 256)] := by
  unfold bys
  simp only [List.map_cons, List.map_nil, UInt8.toNat_ofNat']
  simp
theorem ptr_two (n : Nat) (h : n < 16384) : ∃ mm : List UInt8, mm.length = 2 ∧ [UInt8.ofNat (192 + n / 256), UInt8.ofNat (n % 256)] = mm ∧ bys mm = [.int .u8 (192 + (n : Int) / 256), .int .u8 ((n : Int) % 256)] := by
  refine ⟨_, rfl, rfl, ?_⟩
  rw [bys_two (by omega) (by omega)]
  rfl
set_option maxRecDepth 100000 in
set_option maxHeartbeats 4000000 in
theorem refName8_any (vB vN vA : Value) (l : List UInt8) (ns : List ByteArray) (ats : List Nat) (s : ByteArray) (w : World) (B : Nat) (hb : w.ownsRow B 5 1 vB l.length (bys l)) (hn : w.ownsRow B 9 1 vN ns.length (ns.map Value.string)) (ha : w.ownsRow B 3 1 vA ats.length (intsL ats)) (hB : B ≤ w.heap.size) (hlen : ats.length = ns.length) (hl : l.length ≤ 1000000) (hns : ns.length ≤ 1000000) (hsm : ∀ p ∈ ns, p.size ≤ 2000000) (hat : ∀ a ∈ ats, a < 16384) (hs : s.size ≤ 900) :
    Calls Try.prog 35 #[.agg #[vB, vN, vA], .string s] w (NameRet w B (blk3 vB vN vA) (mayN s) (if mayN s = true then nm8 s (labelsB s) ((labelsB s).length + 1) 0 l ns ats else (l, ns, ats))) := by
  obtain ⟨aB, cB, rfl⟩ := own_slice hb
  obtain ⟨aN, cN, rfl⟩ := own_slice hn
  obtain ⟨aA, cA, rfl⟩ := own_slice ha
  have HLEN := Lib.hid hlen
  have HMA := fun W => Lib.hid (refMay8_any s W (by omega))
  have HLA := fun W => Lib.hid (refLabels_new s W (by omega))
  have hln := labels_len s
  have hlb := labels_small s
  obtain ⟨W, hW⟩ : ∃ W, (w.alloc (.cells #[.slice aB l.length cB, .slice aN ns.length cN, .slice aA ats.length cA] 70)).alloc (.cells #[.slice none 0 0, .slice none 0 0, .slice none 0 0] 70) = W := ⟨_, rfl⟩
  have hb0 : Below w.heap.size w W := by rw [← hW]; exact ((Below.refl _ _).alloc (Nat.le_refl _) _).alloc (by simp) _
  have HB0 := Lib.hid hb0
  have hsz0 : W.heap.size = w.heap.size + 2 := by rw [← hW]; simp
  have HBX : Hid (WBox W w.heap.size (.slice aB l.length cB) (.slice aN ns.length cN) (.slice aA ats.length cA)) := Lib.hid (by rw [← hW]; exact (WBox.new w _ _ _).kept (((Below.refl _ _).alloc (Nat.le_refl _) _).block _ (WBox.new w _ _ _).lt))
  have HRX : Hid (WBox W (w.heap.size + 1) nilS nilS nilS) := Lib.hid (by
    have := WBox.new (w.alloc (.cells #[.slice aB l.length cB, .slice aN ns.length cN, .slice aA ats.length cA] 70)) nilS nilS nilS
    rw [World.size_alloc] at this
    rw [← hW]; exact this)
  have HRB := Lib.hid (own_below8 hb hb0)
  have HRN := Lib.hid (own_below8 hn hb0)
  have HRA := Lib.hid (own_below8 ha hb0)
  have HFB : Hid (∀ k ∈ blk3 (.slice aB l.length cB) (.slice aN ns.length cN) (.slice aA ats.length cA), k < w.heap.size) := Lib.hid (fun k hk => by
    rcases mem_blk3.1 hk with e | e | e
    · exact (hb.lt k e).2
    · exact (hn.lt k e).2
    · exact (ha.lt k e).2)
  obtain ⟨F0, hF0⟩ : ∃ F0, blk3 (.slice aB l.length cB) (.slice aN ns.length cN) (.slice aA ats.length cA) = F0 := ⟨_, rfl⟩
  have HF0 := Lib.hid hF0
  rw [hF0]
  obtain ⟨m, hm⟩ : ∃ m, mayN s = m := ⟨_, rfl⟩
  rw [hm] at HMA ⊢
  obtain ⟨R, hR⟩ : ∃ R, (if m = true then nm8 s (labelsB s) ((labelsB s).length + 1) 0 l ns ats else (l, ns, ats)) = R := ⟨_, rfl⟩
  have HR := Lib.hid hR
  rw [hR]
  clear hlen hF0 hR hm hb hn ha
  have HWW := Lib.hid hW
  clear hW
  go_enter Try.func35, Try.ntmps35
  go_upto_region 1 with fail
  rw [HWW.out]
  clear HWW
  go_wp2_with fail
  refine (HMA _).out.mono ?_
  rintro e w0 ⟨rfl, hbm⟩
  have hb1 := chain hb0 hbm
  have HB1 := Lib.hid hb1
  have HBX1 := Lib.hid (HBX.out.kept (hbm.block _ HBX.out.lt))
  have HRX1 := Lib.hid (HRX.out.kept (hbm.block _ HRX.out.lt))
  have HNB := Lib.hid (own_below8 HRB.out hbm)
  have HNN := Lib.hid (own_below8 HRN.out hbm)
  have HNA := Lib.hid (own_below8 HRA.out hbm)
  have hs1 := hbm.size
  clear hbm HBX HRX HMA HRB HRN HRA HB0 hb0
  cases m with
  | false =>
    rw [if_neg (by decide)] at HR
    have ER := HR.out
    subst ER
    have hc0 := HBX1.out.c0
    have hc1 := HBX1.out.c1
    have hc2 := HBX1.out.c2
    have hd0 := HRX1.out.c0
    have hd1 := HRX1.out.c1
    have hd2 := HRX1.out.c2
    have he0 := HRX1.out.f0
    have he1 := HRX1.out.f1
    have he2 := HRX1.out.f2
    have HE := Lib.hid (name_laid (m := false) HNB.out HNN.out HNA.out (show Foot F0 (blk3 (.slice aB l.length cB) (.slice aN ns.length cN) (.slice aA ats.length cA)) w w0 by rw [HF0.out]; exact Foot.ofBelow F0 hb1) (fun k hk => by have := HFB.out k hk; omega))
    have HX := Lib.hid (HRX1.out.laid (.slice aB l.length cB) (.slice aN ns.length cN) (.slice aA ats.length cA))
    clear HLA
    go_wp2_with fail
    refine bodyPost_ret (results_W Try.results35 rfl HX.out) rfl ?_
    exact HE.out
  | true =>
    rw [if_pos rfl] at HR
    clear hs1
    go_wp2_with fail
    refine (HLA _).out.mono ?_
    rintro e w1 ⟨aL, cL, rfl, hrL, hfr, hbl⟩
    have HST : Hid (NSt w B w1.heap.size F0 aL cL (labelsB s) w1 (.slice aB l.length cB) (.slice aN ns.length cN) (.slice aA ats.length cA) l ns ats) := Lib.hid ⟨HBX1.out.kept (hbl.block _ HBX1.out.lt), HRX1.out.kept (hbl.block _ HRX1.out.lt), own_below8 HNB.out hbl, own_below8 HNN.out hbl, own_below8 HNA.out hbl, hrL, by rw [HF0.out]; exact Foot.ofBelow F0 (chain hb1 hbl), (fun k hk => .inl (HFB.out k hk)), Nat.le_refl _, hB, by have := HRX1.out.lt; have := hbl.size; omega, fun g hg => by have := hfr g hg; have := HRX1.out.lt; omega⟩
    have HLS : Hid (∀ p ∈ labelsB s, p.size ≤ 900) := Lib.hid (fun p hp => Nat.le_trans (hlb p hp) hs)
    have HRE := fun k W hk => Lib.hid (refRest_any s k W hs hk)
    have HRZ := Lib.hid (fun k => rest_small s k hs)
    obtain ⟨N, hN⟩ : ∃ N, (labelsB s).length = N := ⟨_, rfl⟩
    have HN := Lib.hid hN
    rw [hN] at hln HR ⊢
    have HSM := Lib.hid hsm
    have HAT := Lib.hid hat
    obtain ⟨S0, hS0⟩ : ∃ S0, w1.heap.size = S0 := ⟨_, rfl⟩
    rw [hS0] at HST
    clear hrL hfr hbl HLA HBX1 HRX1 HNB HNN HNA HB1 hb1 hN hsm hat hlb hS0 HF0 HFB
    generalize labelsB s = L at *
    go_wp2_with fail
    go_loopw [8] (fun s8 wr => ∃ (i f : Nat) (l : List UInt8) (ns : List ByteArray) (ats : List Nat) (vB vN vA : Value), i ≤ N ∧ N + 1 ≤ i + f ∧ s8 = .int .i64 (i : Int) ∧ l.length ≤ 1000000 + i * 1000 ∧ ns.length ≤ 1000000 + i ∧ Hid (ats.length = ns.length) ∧ Hid (∀ p ∈ ns, p.size ≤ 2000000) ∧ Hid (∀ a ∈ ats, a < 16384) ∧ Hid (NSt w B S0 F0 aL cL L wr vB vN vA l ns ats) ∧ Hid (nm8 s L f i l ns ats = R)) (fun s8 _ => N - (intOf s8).toNat)
    case atStart => exact ⟨0, N + 1, l, ns, ats, _, _, _, Nat.zero_le _, by omega, rfl, by omega, by omega, HLEN, HSM, HAT, HST, HR⟩
    case round =>
      clear HST HR HSM HAT HLEN
      obtain ⟨i, f0, l, ns, ats, vB, vN, vA, hi, hif, rfl, hl, hns, HLEN, HSM, HAT, HST, HR⟩ := hrel
      obtain ⟨aB, cB, rfl⟩ := own_slice HST.out.rb
      obtain ⟨aN, cN, rfl⟩ := own_slice HST.out.rn
      obtain ⟨aA, cA, rfl⟩ := own_slice HST.out.ra
      obtain ⟨f, rfl⟩ : ∃ f, f0 = f + 1 := ⟨f0 - 1, by omega⟩
      unfold nm8 at HR
      rw [HN.out] at HR
      by_cases hiN : i < N
      · have hd : decide ((i : Int) < (N : Int)) = true := decide_eq_true (by omega)
        have hdn : decide (i < N) = true := decide_eq_true hiN
        rw [if_neg (by omega)] at HR
        go_wp2_with fail
        refine (HRE i _ (by omega)).out.mono ?_
        rintro e w2 ⟨rfl, hb2⟩
        have HS2 := Lib.hid (HST.out.below hb2)
        have hrz := HRZ.out i
        have HFI := Lib.hid (refFind8_any (.slice aB l.length cB) (.slice aN ns.length cN) (.slice aA ats.length cA) ns ats (restB s i) B B w2 HS2.out.rn HS2.out.ra HLEN.out (by omega) HSM.out hrz)
        have HMEM := Lib.hid (fun n (h : find8 ns ats (restB s i) = some n) => HAT.out n (find8_mem ns ats (restB s i) n h))
        generalize find8 ns ats (restB s i) = fr at *
        generalize restB s i = rest at *
        have hc0 := HS2.out.box.c0
        have hc1 := HS2.out.box.c1
        have hc2 := HS2.out.box.c2
        clear hb2 HST HRE HRZ
        rcases fr with _ | n
        · rw [show nxI none = -1 from rfl] at HFI
          go_wp2_with fail
          refine HFI.out.mono ?_
          rintro e w3 ⟨rfl, hb3⟩
          have HS3 := Lib.hid (HS2.out.below hb3)
          clear hb3 HFI HS2 hc0 hc1 hc2 HMEM
          try simp only at HR
          by_cases h16 : l.length < 16384
          · rw [if_pos h16, if_pos h16] at HR
            have hd13 : decide ((l.length : Int) < 16384) = true := decide_eq_true (by omega)
            have hd13n : decide (l.length < 16384) = true := decide_eq_true h16
            have HSx := Lib.hid (HS3.out.below (wr' := w3.alloc (.cells #[.string rest] 9)) ((Below.refl _ _).alloc (Nat.le_refl _) _))
            have HO1 := Lib.hid HSx.out.rn
            have HC1 : Hid ((w3.alloc (.cells #[.string rest] 9)).cell? ⟨w3.heap.size, 0, none⟩ = some (.string rest)) := Lib.hid (by rw [World.cell?_alloc_new]; rfl)
            have HN1 : Hid (ns.length ≤ 2000000 ∧ B ≤ (w3.alloc (.cells #[.string rest] 9)).heap.size) := Lib.hid ⟨by omega, by have := HSx.out.base; have := HSx.out.sz; have := HSx.out.two; omega⟩
            have hc0 := HS3.out.box.c0
            have hc1 := HS3.out.box.c1
            go_upto_region 15 with (at_builtin; refine wpList_plain rfl (fun K hK => wp_append_str (p := rest) HO1 HC1 HN1 _ _ rfl rfl rfl (fun v2 w4 HOw HGw HFw => hK _ _ ?_)); obtain ⟨nz, hnz⟩ : ∃ nz, ns ++ [rest] = nz := ⟨_, rfl⟩; rw [hnz] at HOw; have HNZ := Lib.hid hnz; clear hnz; obtain ⟨a2, c2, hv2⟩ := own_slice HOw.out; subst hv2; have hb4 := HSx.out.box.kept (w' := w4) (HGw.out.block _ HSx.out.box.lt (fun e => by have := HSx.out.two; rcases HSx.out.away _ (mem_blk3.2 (.inr (.inl e.symm))) with e | e <;> omega)); have hcc := hb4.c1; have hcf := hb4.f1)
            have HS4 := Lib.hid (HSx.out.put1 HOw.out HGw.out HFw.out)
            clear HSx HO1 HC1 HN1 HOw HGw HFw hb4 hcc hcf hc0 hc1 HS3
            generalize (w4.setCell ⟨w.heap.size, 1, none⟩ (.slice a2 nz.length c2)) = V4 at *
            have HSx := Lib.hid (HS4.out.below (wr' := V4.alloc (.cells #[.int .i64 (l.length : Int)] 3)) ((Below.refl _ _).alloc (Nat.le_refl _) _))
            have HO1 := Lib.hid HSx.out.ra
            have HC1 : Hid ((V4.alloc (.cells #[.int .i64 (l.length : Int)] 3)).cell? ⟨V4.heap.size, 0, none⟩ = some (.int .i64 ((l.length : Nat) : Int))) := Lib.hid (by rw [World.cell?_alloc_new]; rfl)
            have HN1 : Hid (ats.length ≤ 2000000 ∧ B ≤ (V4.alloc (.cells #[.int .i64 (l.length : Int)] 3)).heap.size) := Lib.hid ⟨by have := HLEN.out; omega, by have := HSx.out.base; have := HSx.out.sz; have := HSx.out.two; omega⟩
            have hc0 := HS4.out.box.c0
            have hc2 := HS4.out.box.c2
            go_upto_region 16 with (at_builtin; refine wpList_plain rfl (fun K hK => wp_append_num (p := l.length) HO1 HC1 HN1 _ _ rfl rfl rfl (fun v3 w5 HOw HGw HFw => hK _ _ ?_)); obtain ⟨az, haz⟩ : ∃ az, ats ++ [l.length] = az := ⟨_, rfl⟩; rw [haz] at HOw; have HAZ := Lib.hid haz; clear haz; obtain ⟨a3, c3, hv3⟩ := own_slice HOw.out; subst hv3; have hb4 := HSx.out.box.kept (w' := w5) (HGw.out.block _ HSx.out.box.lt (fun e => by have := HSx.out.two; rcases HSx.out.away _ (mem_blk3.2 (.inr (.inr e.symm))) with e | e <;> omega)); have hcc := hb4.c2; have hcf := hb4.f2)
            have HS5 := Lib.hid (HSx.out.put2 HOw.out HGw.out HFw.out)
            clear HSx HO1 HC1 HN1 HOw HGw HFw hb4 hcc hcf hc0 hc2 HS4
            generalize (w5.setCell ⟨w.heap.size, 2, none⟩ (.slice a3 az.length c3)) = V5 at *
            rw [HNZ.out, HAZ.out] at HR
            have HL2 : Hid (az.length = nz.length) := Lib.hid (by rw [← HAZ.out, ← HNZ.out]; simp [HLEN.out])
            have HSM2 : Hid (∀ p ∈ nz, p.size ≤ 2000000) := Lib.hid (fun p hp => by
              rw [← HNZ.out] at hp
              rcases List.mem_append.1 hp with hp | hp
              · exact HSM.out p hp
              · rw [List.mem_singleton.1 hp]; exact hrz)
            have HAT2 : Hid (∀ a ∈ az, a < 16384) := Lib.hid (fun a ha => by
              rw [← HAZ.out] at ha
              rcases List.mem_append.1 ha with ha | ha
              · exact HAT.out a ha
              · rw [List.mem_singleton.1 ha]; exact h16)
            have hns2 : nz.length ≤ 1000000 + (i + 1) := by rw [← HNZ.out]; simp; omega
            clear HNZ HAZ HLEN HSM HAT
            obtain ⟨gL, hgL, hcL⟩ : ∃ gL, aL = some ⟨gL, 0, none⟩ ∧ V5.cell? ⟨gL, i, none⟩ = some (.string (L.getD i ⟨#[]⟩)) := by
              rcases HS5.out.lab with ⟨_, _, h0⟩ | ⟨g, rfl, h⟩
              · rw [h0] at HN; have := HN.out; simp at this; omega
              · exact ⟨g, rfl, h.cells i (by rw [HN.out]; exact hiN)⟩
            subst hgL
            have hfr := HS5.out.fresh gL rfl
            have hzp : (L.getD i ⟨#[]⟩).size ≤ 900 := getD_small HLS.out i
            generalize L.getD i ⟨#[]⟩ = p at *
            obtain ⟨S, hS⟩ : ∃ S : World → Prop, (fun W => W.cell? ⟨gL, i, none⟩ = some (.string p)) = S := ⟨_, rfl⟩
            have CL : Hid (∀ w', S w' → w'.cell? ⟨gL, i, none⟩ = some (.string p)) := Lib.hid (fun w' h => by rw [← hS] at h; exact h)
            have HSk : Hid (∀ A A', S A → A'.heap[gL]? = A.heap[gL]? → S A') := Lib.hid (fun A A' h hk => by rw [← hS] at h ⊢; exact (World.cell?_of_block (a := ⟨gL, i, none⟩) hk).trans h)
            have HSD : Hid (S V5.drew) := Lib.hid (by rw [← hS]; exact hcL)
            have HS5d := Lib.hid (HS5.out.below (Below.refl _ _).drew)
            have hb1 : (0 : Int) ≤ (i : Int) := by omega
            have hb2 : (i : Int) < (N : Int) := by omega
            clear hS hcL HS5
            refine wp_region_noPanic ?_
            refine wp_region_held_drew (S := S) (by kernel_rfl) HSD.out (fun hHeld => ?_)
            generalize V5.drew = V at *
            have HSx := Lib.hid (HS5d.out.below (wr' := V.alloc (.cells #[.int .u8 ((p.size : Int) % 256)] 5)) ((Below.refl _ _).alloc (Nat.le_refl _) _))
            have HO1 := Lib.hid HSx.out.rb
            have HC1 : Hid (∀ j u, (bys [UInt8.ofNat p.size])[j]? = some u → (V.alloc (.cells #[.int .u8 ((p.size : Int) % 256)] 5)).cell? ⟨V.heap.size, j, none⟩ = some u) := Lib.hid (fun j u hu => cells_new8 V [.int .u8 ((p.size : Int) % 256)] 5 j u (by rw [← bys_one]; exact hu))
            have HN1 : Hid (l.length + ([UInt8.ofNat p.size] : List UInt8).length ≤ 1000000000 ∧ B ≤ (V.alloc (.cells #[.int .u8 ((p.size : Int) % 256)] 5)).heap.size) := Lib.hid ⟨by simp; omega, by have := HSx.out.base; have := HSx.out.sz; have := HSx.out.two; omega⟩
            have hSx := HSk.out V (V.alloc (.cells #[.int .u8 ((p.size : Int) % 256)] 5)) HSD.out (((Below.refl _ _).alloc (Nat.le_refl _) _).block gL (by have := HS5d.out.sz; omega))
            have hc0 := HS5d.out.box.c0
            have hx0 := HSx.out.box.c0
            clear HS5d
            refine wpAnyH_take (i := 0) (v := ?_) rfl (by kernel_rfl) (by kernel_rfl) (by kernel_rfl) (fun _ _ _ h => h) (Or.inl ⟨by rfl, ?_⟩) (by assumption) ?_
            rotate_left
            · (intro w hSw; go_simp; try (with_reducible rfl))
            try simp only [Act.put, List.getElem_toArray, List.getElem_cons_zero, List.setIfInBounds_toArray, List.set_cons_zero, List.set_cons_succ]
            refine wpAnyH_take (i := 2) (v := ?_) rfl (by kernel_rfl) (by kernel_rfl) (by kernel_rfl) (fun _ _ _ h => h) (Or.inl ⟨by rfl, ?_⟩) (by assumption) ?_
            rotate_left
            · (intro w hSw; go_simp; try (with_reducible rfl))
            try simp only [Act.put, List.getElem_toArray, List.getElem_cons_zero, List.getElem_cons_succ, List.setIfInBounds_toArray, List.set_cons_zero, List.set_cons_succ]
            refine wpAnyH_take (i := 3) (v := ?_) rfl (by kernel_rfl) (by kernel_rfl) (by kernel_rfl) (fun _ _ _ h => h) (Or.inl ⟨by rfl, ?_⟩) (by assumption) ?_
            rotate_left
            · (intro w hSw; go_simp; try (with_reducible rfl))
            try simp only [Act.put, List.getElem_toArray, List.getElem_cons_zero, List.getElem_cons_succ, List.setIfInBounds_toArray, List.set_cons_zero, List.set_cons_succ]
            refine wpAnyH_take (i := 4) (v := ?_) rfl (by kernel_rfl) (by kernel_rfl) (by kernel_rfl) (fun _ _ _ h => h) (Or.inl ⟨by rfl, ?_⟩) (by assumption) ?_
            rotate_left
            · (intro w hSw; go_simp; try (with_reducible rfl))
            try simp only [Act.put, List.getElem_toArray, List.getElem_cons_zero, List.getElem_cons_succ, List.setIfInBounds_toArray, List.set_cons_zero, List.set_cons_succ]
            refine wpAnyH_take (i := 5) (v := ?_) rfl (by kernel_rfl) (by kernel_rfl) (by kernel_rfl) (fun _ _ _ h => h) (Or.inl ⟨by rfl, ?_⟩) (by assumption) ?_
            rotate_left
            · (intro w hSw; have hc0 := CL.out w hSw; go_simp; try (with_reducible rfl))
            try simp only [Act.put, List.getElem_toArray, List.getElem_cons_zero, List.getElem_cons_succ, List.setIfInBounds_toArray, List.set_cons_zero, List.set_cons_succ]
            refine wpAnyH_take (i := 6) (v := ?_) rfl (by kernel_rfl) (by kernel_rfl) (by kernel_rfl) (fun _ _ _ h => h) (Or.inl ⟨by rfl, ?_⟩) (by assumption) ?_
            rotate_left
            · (intro w hSw; go_simp; try (with_reducible rfl))
            try simp only [Act.put, List.getElem_toArray, List.getElem_cons_zero, List.getElem_cons_succ, List.setIfInBounds_toArray, List.set_cons_zero, List.set_cons_succ]
            refine wpAnyH_take (i := 7) (v := ?_) rfl (by kernel_rfl) (by kernel_rfl) (by kernel_rfl) (fun _ _ _ h => h) (Or.inl ⟨by rfl, ?_⟩) (by assumption) ?_
            rotate_left
            · (intro w hSw; go_simp; try (with_reducible rfl))
            try simp only [Act.put, List.getElem_toArray, List.getElem_cons_zero, List.getElem_cons_succ, List.setIfInBounds_toArray, List.set_cons_zero, List.set_cons_succ]
            refine wpAnyH_ready (rs := [1, 8]) (by kernel_rfl) (by simp) ?_
            refine AllReadyH.cons rfl (fun K hK => ?_) (ready_one rfl rfl (fun K hK => ?_))
            · rw [if_pos (by rfl)]
              go_wp2_with fail
              refine hK.out _ _ hHeld (fun hHeld1 => ?_)
              clear hK K
              try simp only [Act.put, List.getElem_toArray, List.getElem_cons_zero, List.getElem_cons_succ, List.setIfInBounds_toArray, List.set_cons_zero, List.set_cons_succ]
              refine wpAnyH_ready (rs := [8]) (by kernel_rfl) (by simp) ?_
              refine ready_one rfl rfl (fun K hK => ?_)
              go_wp2_with fail
              refine hK.out _ _ hSx (fun hHeld2 => ?_)
              clear hK K
              try simp only [Act.put, List.getElem_toArray, List.getElem_cons_zero, List.getElem_cons_succ, List.setIfInBounds_toArray, List.set_cons_zero, List.set_cons_succ]
              refine wpAnyH_ready (rs := [9]) (by kernel_rfl) (by simp) ?_
              refine ready_one rfl rfl (fun K hK => ?_)
              refine wp_append_bytes (m := [UInt8.ofNat p.size]) HO1 HC1 HN1 _ _ rfl rfl rfl (fun v6 w6 HOw HGw HFw => ?_)
              obtain ⟨lz, hlz⟩ : ∃ lz, l ++ [UInt8.ofNat p.size] = lz := ⟨_, rfl⟩
              rw [hlz] at HOw
              have HLZ := Lib.hid hlz
              clear hlz
              obtain ⟨a6, c6, hv6⟩ := own_slice HOw.out
              subst hv6
              have hb6 := HSx.out.box.kept (w' := w6) (HGw.out.block _ HSx.out.box.lt (fun e => by have := HSx.out.two; rcases HSx.out.away _ (mem_blk3.2 (.inl e.symm)) with e | e <;> omega))
              have hcc := hb6.c0
              have hcf := hb6.f0
              have hS6 := HSk.out _ w6 hSx (HGw.out.block gL (Nat.lt_of_lt_of_le hfr.2 HSx.out.sz) (fun e => by rcases HSx.out.away _ (mem_blk3.2 (.inl e.symm)) with e | e <;> omega))
              refine hK.out _ _ hS6 (fun hHeld6 => ?_)
              clear hK K
              try simp only [Act.put, List.getElem_toArray, List.getElem_cons_zero, List.getElem_cons_succ, List.setIfInBounds_toArray, List.set_cons_zero, List.set_cons_succ]
              have HS6 := Lib.hid (HSx.out.put0 HOw.out HGw.out HFw.out)
              refine wpAnyH_take (i := 10) (v := ?_) rfl (by kernel_rfl) (by kernel_rfl) (by kernel_rfl) (fun _ _ _ h => h) (Or.inl ⟨by rfl, ?_⟩) (by assumption) ?_
              rotate_left
              · (intro w hSw; go_simp; try (with_reducible rfl))
              try simp only [Act.put, List.getElem_toArray, List.getElem_cons_zero, List.getElem_cons_succ, List.setIfInBounds_toArray, List.set_cons_zero, List.set_cons_succ]
              have hS7 := HSk.out _ (w6.setCell ⟨w.heap.size, 0, none⟩ (.slice a6 lz.length c6)) hS6 (Below.heap_setCell w6 ⟨w.heap.size, 0, none⟩ _ gL (show gL ≠ w.heap.size by omega))
              refine wpAnyH_ready (rs := [11]) (by kernel_rfl) (by simp) ?_
              refine ready_one rfl rfl (fun K hK => ?_)
              go_wp2_with fail
              refine hK.out _ _ hS7 (fun hHeld7 => ?_)
              clear hK K HO1 HC1 HN1 HOw HGw HFw hb6 hcc hcf HSx
              try simp only [Act.put, List.getElem_toArray, List.getElem_cons_zero, List.getElem_cons_succ]
              refine wpAnyH_done (by kernel_rfl) ?_ _
              refine NoPanic.normal ?_
              generalize (w6.setCell ⟨w.heap.size, 0, none⟩ (.slice a6 lz.length c6)) = V6 at *
              have HLZ2 : Hid (lz.length = l.length + 1) := Lib.hid (by rw [← HLZ.out]; simp)
              have HS6d := Lib.hid (HS6.out.below (Below.refl _ _).drew)
              have HSD7 : Hid (S V6.drew) := Lib.hid (HSk.out V6 V6.drew hS7 rfl)
              clear HS6 hS7
              go_wp2_with fail
              refine wp_region_noPanic ?_
              refine wp_region_held_drew (S := S) (by kernel_rfl) HSD7.out (fun hHeld8 => ?_)
              generalize V6.drew = V7 at *
              have hc7 := HS6d.out.box.c0
              have HO7 := Lib.hid HS6d.out.rb
              have HN7 : Hid (lz.length + p.size ≤ 1000000000 ∧ B ≤ V7.heap.size) := Lib.hid ⟨by have := HLZ2.out; omega, by have := HS6d.out.base; have := HS6d.out.sz; have := HS6d.out.two; omega⟩
              refine wpAnyH_take (i := 0) (v := ?_) rfl (by kernel_rfl) (by kernel_rfl) (by kernel_rfl) (fun _ _ _ h => h) (Or.inl ⟨by rfl, ?_⟩) (by assumption) ?_
              rotate_left
              · (intro w hSw; go_simp; try (with_reducible rfl))
              try simp only [Act.put, List.getElem_toArray, List.getElem_cons_zero, List.setIfInBounds_toArray, List.set_cons_zero, List.set_cons_succ]
              refine wpAnyH_take (i := 2) (v := ?_) rfl (by kernel_rfl) (by kernel_rfl) (by kernel_rfl) (fun _ _ _ h => h) (Or.inl ⟨by rfl, ?_⟩) (by assumption) ?_
              rotate_left
              · (intro w hSw; go_simp; try (with_reducible rfl))
              try simp only [Act.put, List.getElem_toArray, List.getElem_cons_zero, List.getElem_cons_succ, List.setIfInBounds_toArray, List.set_cons_zero, List.set_cons_succ]
              refine wpAnyH_take (i := 3) (v := ?_) rfl (by kernel_rfl) (by kernel_rfl) (by kernel_rfl) (fun _ _ _ h => h) (Or.inl ⟨by rfl, ?_⟩) (by assumption) ?_
              rotate_left
              · (intro w hSw; go_simp; try (with_reducible rfl))
              try simp only [Act.put, List.getElem_toArray, List.getElem_cons_zero, List.getElem_cons_succ, List.setIfInBounds_toArray, List.set_cons_zero, List.set_cons_succ]
              refine wpAnyH_take (i := 4) (v := ?_) rfl (by kernel_rfl) (by kernel_rfl) (by kernel_rfl) (fun _ _ _ h => h) (Or.inl ⟨by rfl, ?_⟩) (by assumption) ?_
              rotate_left
              · (intro w hSw; go_simp; try (with_reducible rfl))
              try simp only [Act.put, List.getElem_toArray, List.getElem_cons_zero, List.getElem_cons_succ, List.setIfInBounds_toArray, List.set_cons_zero, List.set_cons_succ]
              refine wpAnyH_take (i := 5) (v := ?_) rfl (by kernel_rfl) (by kernel_rfl) (by kernel_rfl) (fun _ _ _ h => h) (Or.inl ⟨by rfl, ?_⟩) (by assumption) ?_
              rotate_left
              · (intro w hSw; have hc0 := CL.out w hSw; go_simp; try (with_reducible rfl))
              try simp only [Act.put, List.getElem_toArray, List.getElem_cons_zero, List.getElem_cons_succ, List.setIfInBounds_toArray, List.set_cons_zero, List.set_cons_succ]
              refine wpAnyH_ready (rs := [1]) (by kernel_rfl) (by simp) ?_
              refine AllReadyH.cons rfl (fun K hK => ?_) AllReadyH.nil
              rw [if_pos (by rfl)]
              go_wp2_with fail
              refine hK.out _ _ HSD7.out (fun hHeld9 => ?_)
              clear hK K
              try simp only [Act.put, List.getElem_toArray, List.getElem_cons_zero, List.getElem_cons_succ, List.setIfInBounds_toArray, List.set_cons_zero, List.set_cons_succ]
              refine wpAnyH_ready (rs := [6]) (by kernel_rfl) (by simp) ?_
              refine ready_one rfl rfl (fun K hK => ?_)
              refine wp_append_text (s := p) HO7 HN7 _ _ rfl rfl rfl (fun v8 w8 HOw HGw HFw => ?_)
              obtain ⟨ly, hly⟩ : ∃ ly, lz ++ p.data.toList = ly := ⟨_, rfl⟩
              rw [hly] at HOw
              have HLY := Lib.hid hly
              clear hly
              obtain ⟨a8, c8, hv8⟩ := own_slice HOw.out
              subst hv8
              have hb8 := HS6d.out.box.kept (w' := w8) (HGw.out.block _ HS6d.out.box.lt (fun e => by have := HS6d.out.two; rcases HS6d.out.away _ (mem_blk3.2 (.inl e.symm)) with e | e <;> omega))
              have hcc := hb8.c0
              have hcf := hb8.f0
              have hS8 := HSk.out _ w8 HSD7.out (HGw.out.block gL (Nat.lt_of_lt_of_le hfr.2 HS6d.out.sz) (fun e => by rcases HS6d.out.away _ (mem_blk3.2 (.inl e.symm)) with e | e <;> omega))
              refine hK.out _ _ hS8 (fun hHelda => ?_)
              clear hK K
              try simp only [Act.put, List.getElem_toArray, List.getElem_cons_zero, List.getElem_cons_succ, List.setIfInBounds_toArray, List.set_cons_zero, List.set_cons_succ]
              have HS8 := Lib.hid (HS6d.out.put0 HOw.out HGw.out HFw.out)
              have hS9 := HSk.out _ (w8.setCell ⟨w.heap.size, 0, none⟩ (.slice a8 ly.length c8)) hS8 (Below.heap_setCell w8 ⟨w.heap.size, 0, none⟩ _ gL (show gL ≠ w.heap.size by omega))
              refine wpAnyH_take (i := 7) (v := ?_) rfl (by kernel_rfl) (by kernel_rfl) (by kernel_rfl) (fun _ _ _ h => h) (Or.inl ⟨by rfl, ?_⟩) (by assumption) ?_
              rotate_left
              · (intro w hSw; go_simp; try (with_reducible rfl))
              try simp only [Act.put, List.getElem_toArray, List.getElem_cons_zero, List.getElem_cons_succ, List.setIfInBounds_toArray, List.set_cons_zero, List.set_cons_succ]
              refine wpAnyH_ready (rs := [8]) (by kernel_rfl) (by simp) ?_
              refine ready_one rfl rfl (fun K hK => ?_)
              go_wp2_with fail
              refine hK.out _ _ hS9 (fun hHeldb => ?_)
              clear hK K HO7 HN7 HOw HGw HFw hb8 hcc hcf HS6d hc7
              try simp only [Act.put, List.getElem_toArray, List.getElem_cons_zero, List.getElem_cons_succ]
              refine wpAnyH_done (by kernel_rfl) ?_ _
              refine NoPanic.normal ?_
              generalize (w8.setCell ⟨w.heap.size, 0, none⟩ (.slice a8 ly.length c8)) = V8 at *
              have HRf : Hid (nm8 s L f (i + 1) ly nz az = R) := Lib.hid (by rw [← HLY.out, ← HLZ.out, List.append_assoc]; exact HR.out)
              have hlyl : ly.length ≤ 1000000 + (i + 1) * 1000 := by
                have e : p.data.toList.length = p.size := Array.length_toList
                rw [← HLY.out, List.length_append, e, HLZ2.out]
                omega
              clear HR HLY HLZ HLZ2 HSD7 HSk CL
              go_wp2_with fail
              go_roundw
              case rel => exact ⟨i + 1, f, ly, nz, az, _, _, _, by omega, by omega, by go_num, hlyl, hns2, HL2, HSM2, HAT2, HS8, HRf⟩
              case measure => simp [intOf]; omega
            · go_wp2_with fail
              refine hK.out _ _ hSx (fun hHeld1 => ?_)
              clear hK K
              try simp only [Act.put, List.getElem_toArray, List.getElem_cons_zero, List.getElem_cons_succ, List.setIfInBounds_toArray, List.set_cons_zero, List.set_cons_succ]
              generalize (V.alloc (.cells #[.int .u8 ((p.size : Int) % 256)] 5)) = X at *
              generalize V.heap.size = GX at *
              refine wpAnyH_ready (rs := [1]) (by kernel_rfl) (by simp) ?_
              refine AllReadyH.cons rfl (fun K hK => ?_) AllReadyH.nil
              rw [if_pos (by rfl)]
              go_wp2_with fail
              refine hK.out _ _ hSx (fun hHeld2 => ?_)
              clear hK K
              try simp only [Act.put, List.getElem_toArray, List.getElem_cons_zero, List.getElem_cons_succ, List.setIfInBounds_toArray, List.set_cons_zero, List.set_cons_succ]
              refine wpAnyH_ready (rs := [9]) (by kernel_rfl) (by simp) ?_
              refine ready_one rfl rfl (fun K hK => ?_)
              refine wp_append_bytes (m := [UInt8.ofNat p.size]) HO1 HC1 HN1 _ _ rfl rfl rfl (fun v6 w6 HOw HGw HFw => ?_)
              obtain ⟨lz, hlz⟩ : ∃ lz, l ++ [UInt8.ofNat p.size] = lz := ⟨_, rfl⟩
              rw [hlz] at HOw
              have HLZ := Lib.hid hlz
              clear hlz
              obtain ⟨a6, c6, hv6⟩ := own_slice HOw.out
              subst hv6
              have hb6 := HSx.out.box.kept (w' := w6) (HGw.out.block _ HSx.out.box.lt (fun e => by have := HSx.out.two; rcases HSx.out.away _ (mem_blk3.2 (.inl e.symm)) with e | e <;> omega))
              have hcc := hb6.c0
              have hcf := hb6.f0
              have hS6 := HSk.out _ w6 hSx (HGw.out.block gL (Nat.lt_of_lt_of_le hfr.2 HSx.out.sz) (fun e => by rcases HSx.out.away _ (mem_blk3.2 (.inl e.symm)) with e | e <;> omega))
              refine hK.out _ _ hS6 (fun hHeld6 => ?_)
              clear hK K
              try simp only [Act.put, List.getElem_toArray, List.getElem_cons_zero, List.getElem_cons_succ, List.setIfInBounds_toArray, List.set_cons_zero, List.set_cons_succ]
              have HS6 := Lib.hid (HSx.out.put0 HOw.out HGw.out HFw.out)
              refine wpAnyH_take (i := 10) (v := ?_) rfl (by kernel_rfl) (by kernel_rfl) (by kernel_rfl) (fun _ _ _ h => h) (Or.inl ⟨by rfl, ?_⟩) (by assumption) ?_
              rotate_left
              · (intro w hSw; go_simp; try (with_reducible rfl))
              try simp only [Act.put, List.getElem_toArray, List.getElem_cons_zero, List.getElem_cons_succ, List.setIfInBounds_toArray, List.set_cons_zero, List.set_cons_succ]
              have hS7 := HSk.out _ (w6.setCell ⟨w.heap.size, 0, none⟩ (.slice a6 lz.length c6)) hS6 (Below.heap_setCell w6 ⟨w.heap.size, 0, none⟩ _ gL (show gL ≠ w.heap.size by omega))
              refine wpAnyH_ready (rs := [11]) (by kernel_rfl) (by simp) ?_
              refine ready_one rfl rfl (fun K hK => ?_)
              go_wp2_with fail
              refine hK.out _ _ hS7 (fun hHeld7 => ?_)
              clear hK K HO1 HC1 HN1 HOw HGw HFw hb6 hcc hcf HSx
              try simp only [Act.put, List.getElem_toArray, List.getElem_cons_zero, List.getElem_cons_succ]
              refine wpAnyH_done (by kernel_rfl) ?_ _
              refine NoPanic.normal ?_
              generalize (w6.setCell ⟨w.heap.size, 0, none⟩ (.slice a6 lz.length c6)) = V6 at *
              have HLZ2 : Hid (lz.length = l.length + 1) := Lib.hid (by rw [← HLZ.out]; simp)
              have HS6d := Lib.hid (HS6.out.below (Below.refl _ _).drew)
              have HSD7 : Hid (S V6.drew) := Lib.hid (HSk.out V6 V6.drew hS7 rfl)
              clear HS6 hS7
              go_wp2_with fail
              refine wp_region_noPanic ?_
              refine wp_region_held_drew (S := S) (by kernel_rfl) HSD7.out (fun hHeld8 => ?_)
              generalize V6.drew = V7 at *
              have hc7 := HS6d.out.box.c0
              have HO7 := Lib.hid HS6d.out.rb
              have HN7 : Hid (lz.length + p.size ≤ 1000000000 ∧ B ≤ V7.heap.size) := Lib.hid ⟨by have := HLZ2.out; omega, by have := HS6d.out.base; have := HS6d.out.sz; have := HS6d.out.two; omega⟩
              refine wpAnyH_take (i := 0) (v := ?_) rfl (by kernel_rfl) (by kernel_rfl) (by kernel_rfl) (fun _ _ _ h => h) (Or.inl ⟨by rfl, ?_⟩) (by assumption) ?_
              rotate_left
              · (intro w hSw; go_simp; try (with_reducible rfl))
              try simp only [Act.put, List.getElem_toArray, List.getElem_cons_zero, List.setIfInBounds_toArray, List.set_cons_zero, List.set_cons_succ]
              refine wpAnyH_take (i := 2) (v := ?_) rfl (by kernel_rfl) (by kernel_rfl) (by kernel_rfl) (fun _ _ _ h => h) (Or.inl ⟨by rfl, ?_⟩) (by assumption) ?_
              rotate_left
              · (intro w hSw; go_simp; try (with_reducible rfl))
              try simp only [Act.put, List.getElem_toArray, List.getElem_cons_zero, List.getElem_cons_succ, List.setIfInBounds_toArray, List.set_cons_zero, List.set_cons_succ]
              refine wpAnyH_take (i := 3) (v := ?_) rfl (by kernel_rfl) (by kernel_rfl) (by kernel_rfl) (fun _ _ _ h => h) (Or.inl ⟨by rfl, ?_⟩) (by assumption) ?_
              rotate_left
              · (intro w hSw; go_simp; try (with_reducible rfl))
              try simp only [Act.put, List.getElem_toArray, List.getElem_cons_zero, List.getElem_cons_succ, List.setIfInBounds_toArray, List.set_cons_zero, List.set_cons_succ]
              refine wpAnyH_take (i := 4) (v := ?_) rfl (by kernel_rfl) (by kernel_rfl) (by kernel_rfl) (fun _ _ _ h => h) (Or.inl ⟨by rfl, ?_⟩) (by assumption) ?_
              rotate_left
              · (intro w hSw; go_simp; try (with_reducible rfl))
              try simp only [Act.put, List.getElem_toArray, List.getElem_cons_zero, List.getElem_cons_succ, List.setIfInBounds_toArray, List.set_cons_zero, List.set_cons_succ]
              refine wpAnyH_take (i := 5) (v := ?_) rfl (by kernel_rfl) (by kernel_rfl) (by kernel_rfl) (fun _ _ _ h => h) (Or.inl ⟨by rfl, ?_⟩) (by assumption) ?_
              rotate_left
              · (intro w hSw; have hc0 := CL.out w hSw; go_simp; try (with_reducible rfl))
              try simp only [Act.put, List.getElem_toArray, List.getElem_cons_zero, List.getElem_cons_succ, List.setIfInBounds_toArray, List.set_cons_zero, List.set_cons_succ]
              refine wpAnyH_ready (rs := [1]) (by kernel_rfl) (by simp) ?_
              refine AllReadyH.cons rfl (fun K hK => ?_) AllReadyH.nil
              rw [if_pos (by rfl)]
              go_wp2_with fail
              refine hK.out _ _ HSD7.out (fun hHeld9 => ?_)
              clear hK K
              try simp only [Act.put, List.getElem_toArray, List.getElem_cons_zero, List.getElem_cons_succ, List.setIfInBounds_toArray, List.set_cons_zero, List.set_cons_succ]
              refine wpAnyH_ready (rs := [6]) (by kernel_rfl) (by simp) ?_
              refine ready_one rfl rfl (fun K hK => ?_)
              refine wp_append_text (s := p) HO7 HN7 _ _ rfl rfl rfl (fun v8 w8 HOw HGw HFw => ?_)
              obtain ⟨ly, hly⟩ : ∃ ly, lz ++ p.data.toList = ly := ⟨_, rfl⟩
              rw [hly] at HOw
              have HLY := Lib.hid hly
              clear hly
              obtain ⟨a8, c8, hv8⟩ := own_slice HOw.out
              subst hv8
              have hb8 := HS6d.out.box.kept (w' := w8) (HGw.out.block _ HS6d.out.box.lt (fun e => by have := HS6d.out.two; rcases HS6d.out.away _ (mem_blk3.2 (.inl e.symm)) with e | e <;> omega))
              have hcc := hb8.c0
              have hcf := hb8.f0
              have hS8 := HSk.out _ w8 HSD7.out (HGw.out.block gL (Nat.lt_of_lt_of_le hfr.2 HS6d.out.sz) (fun e => by rcases HS6d.out.away _ (mem_blk3.2 (.inl e.symm)) with e | e <;> omega))
              refine hK.out _ _ hS8 (fun hHelda => ?_)
              clear hK K
              try simp only [Act.put, List.getElem_toArray, List.getElem_cons_zero, List.getElem_cons_succ, List.setIfInBounds_toArray, List.set_cons_zero, List.set_cons_succ]
              have HS8 := Lib.hid (HS6d.out.put0 HOw.out HGw.out HFw.out)
              have hS9 := HSk.out _ (w8.setCell ⟨w.heap.size, 0, none⟩ (.slice a8 ly.length c8)) hS8 (Below.heap_setCell w8 ⟨w.heap.size, 0, none⟩ _ gL (show gL ≠ w.heap.size by omega))
              refine wpAnyH_take (i := 7) (v := ?_) rfl (by kernel_rfl) (by kernel_rfl) (by kernel_rfl) (fun _ _ _ h => h) (Or.inl ⟨by rfl, ?_⟩) (by assumption) ?_
              rotate_left
              · (intro w hSw; go_simp; try (with_reducible rfl))
              try simp only [Act.put, List.getElem_toArray, List.getElem_cons_zero, List.getElem_cons_succ, List.setIfInBounds_toArray, List.set_cons_zero, List.set_cons_succ]
              refine wpAnyH_ready (rs := [8]) (by kernel_rfl) (by simp) ?_
              refine ready_one rfl rfl (fun K hK => ?_)
              go_wp2_with fail
              refine hK.out _ _ hS9 (fun hHeldb => ?_)
              clear hK K HO7 HN7 HOw HGw HFw hb8 hcc hcf HS6d hc7
              try simp only [Act.put, List.getElem_toArray, List.getElem_cons_zero, List.getElem_cons_succ]
              refine wpAnyH_done (by kernel_rfl) ?_ _
              refine NoPanic.normal ?_
              generalize (w8.setCell ⟨w.heap.size, 0, none⟩ (.slice a8 ly.length c8)) = V8 at *
              have HRf : Hid (nm8 s L f (i + 1) ly nz az = R) := Lib.hid (by rw [← HLY.out, ← HLZ.out, List.append_assoc]; exact HR.out)
              have hlyl : ly.length ≤ 1000000 + (i + 1) * 1000 := by
                have e : p.data.toList.length = p.size := Array.length_toList
                rw [← HLY.out, List.length_append, e, HLZ2.out]
                omega
              clear HR HLY HLZ HLZ2 HSD7 HSk CL
              go_wp2_with fail
              go_roundw
              case rel => exact ⟨i + 1, f, ly, nz, az, _, _, _, by omega, by omega, by go_num, hlyl, hns2, HL2, HSM2, HAT2, HS8, HRf⟩
              case measure => simp [intOf]; omega
          · rw [if_neg h16, if_neg h16] at HR
            have hd13 : decide ((l.length : Int) < 16384) = false := decide_eq_false (by omega)
            have hd13n : decide (l.length < 16384) = false := decide_eq_false h16
            have hq0 := HS3.out.box.c0
            go_upto_region 16 with fail
            clear hq0
            obtain ⟨gL, hgL, hcL⟩ : ∃ gL, aL = some ⟨gL, 0, none⟩ ∧ w3.cell? ⟨gL, i, none⟩ = some (.string (L.getD i ⟨#[]⟩)) := by
              rcases HS3.out.lab with ⟨_, _, h0⟩ | ⟨g, rfl, h⟩
              · rw [h0] at HN; have := HN.out; simp at this; omega
              · exact ⟨g, rfl, h.cells i (by rw [HN.out]; exact hiN)⟩
            subst hgL
            have hfr := HS3.out.fresh gL rfl
            have hzp : (L.getD i ⟨#[]⟩).size ≤ 900 := getD_small HLS.out i
            generalize L.getD i ⟨#[]⟩ = p at *
            obtain ⟨S, hS⟩ : ∃ S : World → Prop, (fun W => W.cell? ⟨gL, i, none⟩ = some (.string p)) = S := ⟨_, rfl⟩
            have CL : Hid (∀ w', S w' → w'.cell? ⟨gL, i, none⟩ = some (.string p)) := Lib.hid (fun w' h => by rw [← hS] at h; exact h)
            have HSk : Hid (∀ A A', S A → A'.heap[gL]? = A.heap[gL]? → S A') := Lib.hid (fun A A' h hk => by rw [← hS] at h ⊢; exact (World.cell?_of_block (a := ⟨gL, i, none⟩) hk).trans h)
            have HSD : Hid (S w3.drew) := Lib.hid (by rw [← hS]; exact hcL)
            have HS5d := Lib.hid (HS3.out.below (Below.refl _ _).drew)
            have hb1 : (0 : Int) ≤ (i : Int) := by omega
            have hb2 : (i : Int) < (N : Int) := by omega
            clear hS hcL HS3
            refine wp_region_noPanic ?_
            refine wp_region_held_drew (S := S) (by kernel_rfl) HSD.out (fun hHeld => ?_)
            generalize w3.drew = V at *
            have HSx := Lib.hid (HS5d.out.below (wr' := V.alloc (.cells #[.int .u8 ((p.size : Int) % 256)] 5)) ((Below.refl _ _).alloc (Nat.le_refl _) _))
            have HO1 := Lib.hid HSx.out.rb
            have HC1 : Hid (∀ j u, (bys [UInt8.ofNat p.size])[j]? = some u → (V.alloc (.cells #[.int .u8 ((p.size : Int) % 256)] 5)).cell? ⟨V.heap.size, j, none⟩ = some u) := Lib.hid (fun j u hu => cells_new8 V [.int .u8 ((p.size : Int) % 256)] 5 j u (by rw [← bys_one]; exact hu))
            have HN1 : Hid (l.length + ([UInt8.ofNat p.size] : List UInt8).length ≤ 1000000000 ∧ B ≤ (V.alloc (.cells #[.int .u8 ((p.size : Int) % 256)] 5)).heap.size) := Lib.hid ⟨by simp; omega, by have := HSx.out.base; have := HSx.out.sz; have := HSx.out.two; omega⟩
            have hSx := HSk.out V (V.alloc (.cells #[.int .u8 ((p.size : Int) % 256)] 5)) HSD.out (((Below.refl _ _).alloc (Nat.le_refl _) _).block gL (by have := HS5d.out.sz; omega))
            have hc0 := HS5d.out.box.c0
            have hx0 := HSx.out.box.c0
            clear HS5d
            refine wpAnyH_take (i := 0) (v := ?_) rfl (by kernel_rfl) (by kernel_rfl) (by kernel_rfl) (fun _ _ _ h => h) (Or.inl ⟨by rfl, ?_⟩) (by assumption) ?_
            rotate_left
            · (intro w hSw; go_simp; try (with_reducible rfl))
            try simp only [Act.put, List.getElem_toArray, List.getElem_cons_zero, List.setIfInBounds_toArray, List.set_cons_zero, List.set_cons_succ]
            refine wpAnyH_take (i := 2) (v := ?_) rfl (by kernel_rfl) (by kernel_rfl) (by kernel_rfl) (fun _ _ _ h => h) (Or.inl ⟨by rfl, ?_⟩) (by assumption) ?_
            rotate_left
            · (intro w hSw; go_simp; try (with_reducible rfl))
            try simp only [Act.put, List.getElem_toArray, List.getElem_cons_zero, List.getElem_cons_succ, List.setIfInBounds_toArray, List.set_cons_zero, List.set_cons_succ]
            refine wpAnyH_take (i := 3) (v := ?_) rfl (by kernel_rfl) (by kernel_rfl) (by kernel_rfl) (fun _ _ _ h => h) (Or.inl ⟨by rfl, ?_⟩) (by assumption) ?_
            rotate_left
            · (intro w hSw; go_simp; try (with_reducible rfl))
            try simp only [Act.put, List.getElem_toArray, List.getElem_cons_zero, List.getElem_cons_succ, List.setIfInBounds_toArray, List.set_cons_zero, List.set_cons_succ]
            refine wpAnyH_take (i := 4) (v := ?_) rfl (by kernel_rfl) (by kernel_rfl) (by kernel_rfl) (fun _ _ _ h => h) (Or.inl ⟨by rfl, ?_⟩) (by assumption) ?_
            rotate_left
            · (intro w hSw; go_simp; try (with_reducible rfl))
            try simp only [Act.put, List.getElem_toArray, List.getElem_cons_zero, List.getElem_cons_succ, List.setIfInBounds_toArray, List.set_cons_zero, List.set_cons_succ]
            refine wpAnyH_take (i := 5) (v := ?_) rfl (by kernel_rfl) (by kernel_rfl) (by kernel_rfl) (fun _ _ _ h => h) (Or.inl ⟨by rfl, ?_⟩) (by assumption) ?_
            rotate_left
            · (intro w hSw; have hc0 := CL.out w hSw; go_simp; try (with_reducible rfl))
            try simp only [Act.put, List.getElem_toArray, List.getElem_cons_zero, List.getElem_cons_succ, List.setIfInBounds_toArray, List.set_cons_zero, List.set_cons_succ]
            refine wpAnyH_take (i := 6) (v := ?_) rfl (by kernel_rfl) (by kernel_rfl) (by kernel_rfl) (fun _ _ _ h => h) (Or.inl ⟨by rfl, ?_⟩) (by assumption) ?_
            rotate_left
            · (intro w hSw; go_simp; try (with_reducible rfl))
            try simp only [Act.put, List.getElem_toArray, List.getElem_cons_zero, List.getElem_cons_succ, List.setIfInBounds_toArray, List.set_cons_zero, List.set_cons_succ]
            refine wpAnyH_take (i := 7) (v := ?_) rfl (by kernel_rfl) (by kernel_rfl) (by kernel_rfl) (fun _ _ _ h => h) (Or.inl ⟨by rfl, ?_⟩) (by assumption) ?_
            rotate_left
            · (intro w hSw; go_simp; try (with_reducible rfl))
            try simp only [Act.put, List.getElem_toArray, List.getElem_cons_zero, List.getElem_cons_succ, List.setIfInBounds_toArray, List.set_cons_zero, List.set_cons_succ]
            refine wpAnyH_ready (rs := [1, 8]) (by kernel_rfl) (by simp) ?_
            refine AllReadyH.cons rfl (fun K hK => ?_) (ready_one rfl rfl (fun K hK => ?_))
            · rw [if_pos (by rfl)]
              go_wp2_with fail
              refine hK.out _ _ hHeld (fun hHeld1 => ?_)
              clear hK K
              try simp only [Act.put, List.getElem_toArray, List.getElem_cons_zero, List.getElem_cons_succ, List.setIfInBounds_toArray, List.set_cons_zero, List.set_cons_succ]
              refine wpAnyH_ready (rs := [8]) (by kernel_rfl) (by simp) ?_
              refine ready_one rfl rfl (fun K hK => ?_)
              go_wp2_with fail
              refine hK.out _ _ hSx (fun hHeld2 => ?_)
              clear hK K
              try simp only [Act.put, List.getElem_toArray, List.getElem_cons_zero, List.getElem_cons_succ, List.setIfInBounds_toArray, List.set_cons_zero, List.set_cons_succ]
              refine wpAnyH_ready (rs := [9]) (by kernel_rfl) (by simp) ?_
              refine ready_one rfl rfl (fun K hK => ?_)
              refine wp_append_bytes (m := [UInt8.ofNat p.size]) HO1 HC1 HN1 _ _ rfl rfl rfl (fun v6 w6 HOw HGw HFw => ?_)
              obtain ⟨lz, hlz⟩ : ∃ lz, l ++ [UInt8.ofNat p.size] = lz := ⟨_, rfl⟩
              rw [hlz] at HOw
              have HLZ := Lib.hid hlz
              clear hlz
              obtain ⟨a6, c6, hv6⟩ := own_slice HOw.out
              subst hv6
              have hb6 := HSx.out.box.kept (w' := w6) (HGw.out.block _ HSx.out.box.lt (fun e => by have := HSx.out.two; rcases HSx.out.away _ (mem_blk3.2 (.inl e.symm)) with e | e <;> omega))
              have hcc := hb6.c0
              have hcf := hb6.f0
              have hS6 := HSk.out _ w6 hSx (HGw.out.block gL (Nat.lt_of_lt_of_le hfr.2 HSx.out.sz) (fun e => by rcases HSx.out.away _ (mem_blk3.2 (.inl e.symm)) with e | e <;> omega))
              refine hK.out _ _ hS6 (fun hHeld6 => ?_)
              clear hK K
              try simp only [Act.put, List.getElem_toArray, List.getElem_cons_zero, List.getElem_cons_succ, List.setIfInBounds_toArray, List.set_cons_zero, List.set_cons_succ]
              have HS6 := Lib.hid (HSx.out.put0 HOw.out HGw.out HFw.out)
              refine wpAnyH_take (i := 10) (v := ?_) rfl (by kernel_rfl) (by kernel_rfl) (by kernel_rfl) (fun _ _ _ h => h) (Or.inl ⟨by rfl, ?_⟩) (by assumption) ?_
              rotate_left
              · (intro w hSw; go_simp; try (with_reducible rfl))
              try simp only [Act.put, List.getElem_toArray, List.getElem_cons_zero, List.getElem_cons_succ, List.setIfInBounds_toArray, List.set_cons_zero, List.set_cons_succ]
              have hS7 := HSk.out _ (w6.setCell ⟨w.heap.size, 0, none⟩ (.slice a6 lz.length c6)) hS6 (Below.heap_setCell w6 ⟨w.heap.size, 0, none⟩ _ gL (show gL ≠ w.heap.size by omega))
              refine wpAnyH_ready (rs := [11]) (by kernel_rfl) (by simp) ?_
              refine ready_one rfl rfl (fun K hK => ?_)
              go_wp2_with fail
              refine hK.out _ _ hS7 (fun hHeld7 => ?_)
              clear hK K HO1 HC1 HN1 HOw HGw HFw hb6 hcc hcf HSx
              try simp only [Act.put, List.getElem_toArray, List.getElem_cons_zero, List.getElem_cons_succ]
              refine wpAnyH_done (by kernel_rfl) ?_ _
              refine NoPanic.normal ?_
              generalize (w6.setCell ⟨w.heap.size, 0, none⟩ (.slice a6 lz.length c6)) = V6 at *
              have HLZ2 : Hid (lz.length = l.length + 1) := Lib.hid (by rw [← HLZ.out]; simp)
              have HS6d := Lib.hid (HS6.out.below (Below.refl _ _).drew)
              have HSD7 : Hid (S V6.drew) := Lib.hid (HSk.out V6 V6.drew hS7 rfl)
              clear HS6 hS7
              go_wp2_with fail
              refine wp_region_noPanic ?_
              refine wp_region_held_drew (S := S) (by kernel_rfl) HSD7.out (fun hHeld8 => ?_)
              generalize V6.drew = V7 at *
              have hc7 := HS6d.out.box.c0
              have HO7 := Lib.hid HS6d.out.rb
              have HN7 : Hid (lz.length + p.size ≤ 1000000000 ∧ B ≤ V7.heap.size) := Lib.hid ⟨by have := HLZ2.out; omega, by have := HS6d.out.base; have := HS6d.out.sz; have := HS6d.out.two; omega⟩
              refine wpAnyH_take (i := 0) (v := ?_) rfl (by kernel_rfl) (by kernel_rfl) (by kernel_rfl) (fun _ _ _ h => h) (Or.inl ⟨by rfl, ?_⟩) (by assumption) ?_
              rotate_left
              · (intro w hSw; go_simp; try (with_reducible rfl))
              try simp only [Act.put, List.getElem_toArray, List.getElem_cons_zero, List.setIfInBounds_toArray, List.set_cons_zero, List.set_cons_succ]
              refine wpAnyH_take (i := 2) (v := ?_) rfl (by kernel_rfl) (by kernel_rfl) (by kernel_rfl) (fun _ _ _ h => h) (Or.inl ⟨by rfl, ?_⟩) (by assumption) ?_
              rotate_left
              · (intro w hSw; go_simp; try (with_reducible rfl))
              try simp only [Act.put, List.getElem_toArray, List.getElem_cons_zero, List.getElem_cons_succ, List.setIfInBounds_toArray, List.set_cons_zero, List.set_cons_succ]
              refine wpAnyH_take (i := 3) (v := ?_) rfl (by kernel_rfl) (by kernel_rfl) (by kernel_rfl) (fun _ _ _ h => h) (Or.inl ⟨by rfl, ?_⟩) (by assumption) ?_
              rotate_left
              · (intro w hSw; go_simp; try (with_reducible rfl))
              try simp only [Act.put, List.getElem_toArray, List.getElem_cons_zero, List.getElem_cons_succ, List.setIfInBounds_toArray, List.set_cons_zero, List.set_cons_succ]
              refine wpAnyH_take (i := 4) (v := ?_) rfl (by kernel_rfl) (by kernel_rfl) (by kernel_rfl) (fun _ _ _ h => h) (Or.inl ⟨by rfl, ?_⟩) (by assumption) ?_
              rotate_left
              · (intro w hSw; go_simp; try (with_reducible rfl))
              try simp only [Act.put, List.getElem_toArray, List.getElem_cons_zero, List.getElem_cons_succ, List.setIfInBounds_toArray, List.set_cons_zero, List.set_cons_succ]
              refine wpAnyH_take (i := 5) (v := ?_) rfl (by kernel_rfl) (by kernel_rfl) (by kernel_rfl) (fun _ _ _ h => h) (Or.inl ⟨by rfl, ?_⟩) (by assumption) ?_
              rotate_left
              · (intro w hSw; have hc0 := CL.out w hSw; go_simp; try (with_reducible rfl))
              try simp only [Act.put, List.getElem_toArray, List.getElem_cons_zero, List.getElem_cons_succ, List.setIfInBounds_toArray, List.set_cons_zero, List.set_cons_succ]
              refine wpAnyH_ready (rs := [1]) (by kernel_rfl) (by simp) ?_
              refine AllReadyH.cons rfl (fun K hK => ?_) AllReadyH.nil
              rw [if_pos (by rfl)]
              go_wp2_with fail
              refine hK.out _ _ HSD7.out (fun hHeld9 => ?_)
              clear hK K
              try simp only [Act.put, List.getElem_toArray, List.getElem_cons_zero, List.getElem_cons_succ, List.setIfInBounds_toArray, List.set_cons_zero, List.set_cons_succ]
              refine wpAnyH_ready (rs := [6]) (by kernel_rfl) (by simp) ?_
              refine ready_one rfl rfl (fun K hK => ?_)
              refine wp_append_text (s := p) HO7 HN7 _ _ rfl rfl rfl (fun v8 w8 HOw HGw HFw => ?_)
              obtain ⟨ly, hly⟩ : ∃ ly, lz ++ p.data.toList = ly := ⟨_, rfl⟩
              rw [hly] at HOw
              have HLY := Lib.hid hly
              clear hly
              obtain ⟨a8, c8, hv8⟩ := own_slice HOw.out
              subst hv8
              have hb8 := HS6d.out.box.kept (w' := w8) (HGw.out.block _ HS6d.out.box.lt (fun e => by have := HS6d.out.two; rcases HS6d.out.away _ (mem_blk3.2 (.inl e.symm)) with e | e <;> omega))
              have hcc := hb8.c0
              have hcf := hb8.f0
              have hS8 := HSk.out _ w8 HSD7.out (HGw.out.block gL (Nat.lt_of_lt_of_le hfr.2 HS6d.out.sz) (fun e => by rcases HS6d.out.away _ (mem_blk3.2 (.inl e.symm)) with e | e <;> omega))
              refine hK.out _ _ hS8 (fun hHelda => ?_)
              clear hK K
              try simp only [Act.put, List.getElem_toArray, List.getElem_cons_zero, List.getElem_cons_succ, List.setIfInBounds_toArray, List.set_cons_zero, List.set_cons_succ]
              have HS8 := Lib.hid (HS6d.out.put0 HOw.out HGw.out HFw.out)
              have hS9 := HSk.out _ (w8.setCell ⟨w.heap.size, 0, none⟩ (.slice a8 ly.length c8)) hS8 (Below.heap_setCell w8 ⟨w.heap.size, 0, none⟩ _ gL (show gL ≠ w.heap.size by omega))
              refine wpAnyH_take (i := 7) (v := ?_) rfl (by kernel_rfl) (by kernel_rfl) (by kernel_rfl) (fun _ _ _ h => h) (Or.inl ⟨by rfl, ?_⟩) (by assumption) ?_
              rotate_left
              · (intro w hSw; go_simp; try (with_reducible rfl))
              try simp only [Act.put, List.getElem_toArray, List.getElem_cons_zero, List.getElem_cons_succ, List.setIfInBounds_toArray, List.set_cons_zero, List.set_cons_succ]
              refine wpAnyH_ready (rs := [8]) (by kernel_rfl) (by simp) ?_
              refine ready_one rfl rfl (fun K hK => ?_)
              go_wp2_with fail
              refine hK.out _ _ hS9 (fun hHeldb => ?_)
              clear hK K HO7 HN7 HOw HGw HFw hb8 hcc hcf HS6d hc7
              try simp only [Act.put, List.getElem_toArray, List.getElem_cons_zero, List.getElem_cons_succ]
              refine wpAnyH_done (by kernel_rfl) ?_ _
              refine NoPanic.normal ?_
              generalize (w8.setCell ⟨w.heap.size, 0, none⟩ (.slice a8 ly.length c8)) = V8 at *
              have HRf : Hid (nm8 s L f (i + 1) ly ns ats = R) := Lib.hid (by rw [← HLY.out, ← HLZ.out, List.append_assoc]; exact HR.out)
              have hlyl : ly.length ≤ 1000000 + (i + 1) * 1000 := by
                have e : p.data.toList.length = p.size := Array.length_toList
                rw [← HLY.out, List.length_append, e, HLZ2.out]
                omega
              clear HR HLY HLZ HLZ2 HSD7 HSk CL
              go_wp2_with fail
              go_roundw
              case rel => exact ⟨i + 1, f, ly, ns, ats, _, _, _, by omega, by omega, by go_num, hlyl, by omega, HLEN, HSM, HAT, HS8, HRf⟩
              case measure => simp [intOf]; omega
            · go_wp2_with fail
              refine hK.out _ _ hSx (fun hHeld1 => ?_)
              clear hK K
              try simp only [Act.put, List.getElem_toArray, List.getElem_cons_zero, List.getElem_cons_succ, List.setIfInBounds_toArray, List.set_cons_zero, List.set_cons_succ]
              generalize (V.alloc (.cells #[.int .u8 ((p.size : Int) % 256)] 5)) = X at *
              generalize V.heap.size = GX at *
              refine wpAnyH_ready (rs := [1]) (by kernel_rfl) (by simp) ?_
              refine AllReadyH.cons rfl (fun K hK => ?_) AllReadyH.nil
              rw [if_pos (by rfl)]
              go_wp2_with fail
              refine hK.out _ _ hSx (fun hHeld2 => ?_)
              clear hK K
              try simp only [Act.put, List.getElem_toArray, List.getElem_cons_zero, List.getElem_cons_succ, List.setIfInBounds_toArray, List.set_cons_zero, List.set_cons_succ]
              refine wpAnyH_ready (rs := [9]) (by kernel_rfl) (by simp) ?_
              refine ready_one rfl rfl (fun K hK => ?_)
              refine wp_append_bytes (m := [UInt8.ofNat p.size]) HO1 HC1 HN1 _ _ rfl rfl rfl (fun v6 w6 HOw HGw HFw => ?_)
              obtain ⟨lz, hlz⟩ : ∃ lz, l ++ [UInt8.ofNat p.size] = lz := ⟨_, rfl⟩
              rw [hlz] at HOw
              have HLZ := Lib.hid hlz
              clear hlz
              obtain ⟨a6, c6, hv6⟩ := own_slice HOw.out
              subst hv6
              have hb6 := HSx.out.box.kept (w' := w6) (HGw.out.block _ HSx.out.box.lt (fun e => by have := HSx.out.two; rcases HSx.out.away _ (mem_blk3.2 (.inl e.symm)) with e | e <;> omega))
              have hcc := hb6.c0
              have hcf := hb6.f0
              have hS6 := HSk.out _ w6 hSx (HGw.out.block gL (Nat.lt_of_lt_of_le hfr.2 HSx.out.sz) (fun e => by rcases HSx.out.away _ (mem_blk3.2 (.inl e.symm)) with e | e <;> omega))
              refine hK.out _ _ hS6 (fun hHeld6 => ?_)
              clear hK K
              try simp only [Act.put, List.getElem_toArray, List.getElem_cons_zero, List.getElem_cons_succ, List.setIfInBounds_toArray, List.set_cons_zero, List.set_cons_succ]
              have HS6 := Lib.hid (HSx.out.put0 HOw.out HGw.out HFw.out)
              refine wpAnyH_take (i := 10) (v := ?_) rfl (by kernel_rfl) (by kernel_rfl) (by kernel_rfl) (fun _ _ _ h => h) (Or.inl ⟨by rfl, ?_⟩) (by assumption) ?_
              rotate_left
              · (intro w hSw; go_simp; try (with_reducible rfl))
              try simp only [Act.put, List.getElem_toArray, List.getElem_cons_zero, List.getElem_cons_succ, List.setIfInBounds_toArray, List.set_cons_zero, List.set_cons_succ]
              have hS7 := HSk.out _ (w6.setCell ⟨w.heap.size, 0, none⟩ (.slice a6 lz.length c6)) hS6 (Below.heap_setCell w6 ⟨w.heap.size, 0, none⟩ _ gL (show gL ≠ w.heap.size by omega))
              refine wpAnyH_ready (rs := [11]) (by kernel_rfl) (by simp) ?_
              refine ready_one rfl rfl (fun K hK => ?_)
              go_wp2_with fail
              refine hK.out _ _ hS7 (fun hHeld7 => ?_)
              clear hK K HO1 HC1 HN1 HOw HGw HFw hb6 hcc hcf HSx
              try simp only [Act.put, List.getElem_toArray, List.getElem_cons_zero, List.getElem_cons_succ]
              refine wpAnyH_done (by kernel_rfl) ?_ _
              refine NoPanic.normal ?_
              generalize (w6.setCell ⟨w.heap.size, 0, none⟩ (.slice a6 lz.length c6)) = V6 at *
              have HLZ2 : Hid (lz.length = l.length + 1) := Lib.hid (by rw [← HLZ.out]; simp)
              have HS6d := Lib.hid (HS6.out.below (Below.refl _ _).drew)
              have HSD7 : Hid (S V6.drew) := Lib.hid (HSk.out V6 V6.drew hS7 rfl)
              clear HS6 hS7
              go_wp2_with fail
              refine wp_region_noPanic ?_
              refine wp_region_held_drew (S := S) (by kernel_rfl) HSD7.out (fun hHeld8 => ?_)
              generalize V6.drew = V7 at *
              have hc7 := HS6d.out.box.c0
              have HO7 := Lib.hid HS6d.out.rb
              have HN7 : Hid (lz.length + p.size ≤ 1000000000 ∧ B ≤ V7.heap.size) := Lib.hid ⟨by have := HLZ2.out; omega, by have := HS6d.out.base; have := HS6d.out.sz; have := HS6d.out.two; omega⟩
              refine wpAnyH_take (i := 0) (v := ?_) rfl (by kernel_rfl) (by kernel_rfl) (by kernel_rfl) (fun _ _ _ h => h) (Or.inl ⟨by rfl, ?_⟩) (by assumption) ?_
              rotate_left
              · (intro w hSw; go_simp; try (with_reducible rfl))
              try simp only [Act.put, List.getElem_toArray, List.getElem_cons_zero, List.setIfInBounds_toArray, List.set_cons_zero, List.set_cons_succ]
              refine wpAnyH_take (i := 2) (v := ?_) rfl (by kernel_rfl) (by kernel_rfl) (by kernel_rfl) (fun _ _ _ h => h) (Or.inl ⟨by rfl, ?_⟩) (by assumption) ?_
              rotate_left
              · (intro w hSw; go_simp; try (with_reducible rfl))
              try simp only [Act.put, List.getElem_toArray, List.getElem_cons_zero, List.getElem_cons_succ, List.setIfInBounds_toArray, List.set_cons_zero, List.set_cons_succ]
              refine wpAnyH_take (i := 3) (v := ?_) rfl (by kernel_rfl) (by kernel_rfl) (by kernel_rfl) (fun _ _ _ h => h) (Or.inl ⟨by rfl, ?_⟩) (by assumption) ?_
              rotate_left
              · (intro w hSw; go_simp; try (with_reducible rfl))
              try simp only [Act.put, List.getElem_toArray, List.getElem_cons_zero, List.getElem_cons_succ, List.setIfInBounds_toArray, List.set_cons_zero, List.set_cons_succ]
              refine wpAnyH_take (i := 4) (v := ?_) rfl (by kernel_rfl) (by kernel_rfl) (by kernel_rfl) (fun _ _ _ h => h) (Or.inl ⟨by rfl, ?_⟩) (by assumption) ?_
              rotate_left
              · (intro w hSw; go_simp; try (with_reducible rfl))
              try simp only [Act.put, List.getElem_toArray, List.getElem_cons_zero, List.getElem_cons_succ, List.setIfInBounds_toArray, List.set_cons_zero, List.set_cons_succ]
              refine wpAnyH_take (i := 5) (v := ?_) rfl (by kernel_rfl) (by kernel_rfl) (by kernel_rfl) (fun _ _ _ h => h) (Or.inl ⟨by rfl, ?_⟩) (by assumption) ?_
              rotate_left
              · (intro w hSw; have hc0 := CL.out w hSw; go_simp; try (with_reducible rfl))
              try simp only [Act.put, List.getElem_toArray, List.getElem_cons_zero, List.getElem_cons_succ, List.setIfInBounds_toArray, List.set_cons_zero, List.set_cons_succ]
              refine wpAnyH_ready (rs := [1]) (by kernel_rfl) (by simp) ?_
              refine AllReadyH.cons rfl (fun K hK => ?_) AllReadyH.nil
              rw [if_pos (by rfl)]
              go_wp2_with fail
              refine hK.out _ _ HSD7.out (fun hHeld9 => ?_)
              clear hK K
              try simp only [Act.put, List.getElem_toArray, List.getElem_cons_zero, List.getElem_cons_succ, List.setIfInBounds_toArray, List.set_cons_zero, List.set_cons_succ]
              refine wpAnyH_ready (rs := [6]) (by kernel_rfl) (by simp) ?_
              refine ready_one rfl rfl (fun K hK => ?_)
              refine wp_append_text (s := p) HO7 HN7 _ _ rfl rfl rfl (fun v8 w8 HOw HGw HFw => ?_)
              obtain ⟨ly, hly⟩ : ∃ ly, lz ++ p.data.toList = ly := ⟨_, rfl⟩
              rw [hly] at HOw
              have HLY := Lib.hid hly
              clear hly
              obtain ⟨a8, c8, hv8⟩ := own_slice HOw.out
              subst hv8
              have hb8 := HS6d.out.box.kept (w' := w8) (HGw.out.block _ HS6d.out.box.lt (fun e => by have := HS6d.out.two; rcases HS6d.out.away _ (mem_blk3.2 (.inl e.symm)) with e | e <;> omega))
              have hcc := hb8.c0
              have hcf := hb8.f0
              have hS8 := HSk.out _ w8 HSD7.out (HGw.out.block gL (Nat.lt_of_lt_of_le hfr.2 HS6d.out.sz) (fun e => by rcases HS6d.out.away _ (mem_blk3.2 (.inl e.symm)) with e | e <;> omega))
              refine hK.out _ _ hS8 (fun hHelda => ?_)
              clear hK K
              try simp only [Act.put, List.getElem_toArray, List.getElem_cons_zero, List.getElem_cons_succ, List.setIfInBounds_toArray, List.set_cons_zero, List.set_cons_succ]
              have HS8 := Lib.hid (HS6d.out.put0 HOw.out HGw.out HFw.out)
              have hS9 := HSk.out _ (w8.setCell ⟨w.heap.size, 0, none⟩ (.slice a8 ly.length c8)) hS8 (Below.heap_setCell w8 ⟨w.heap.size, 0, none⟩ _ gL (show gL ≠ w.heap.size by omega))
              refine wpAnyH_take (i := 7) (v := ?_) rfl (by kernel_rfl) (by kernel_rfl) (by kernel_rfl) (fun _ _ _ h => h) (Or.inl ⟨by rfl, ?_⟩) (by assumption) ?_
              rotate_left
              · (intro w hSw; go_simp; try (with_reducible rfl))
              try simp only [Act.put, List.getElem_toArray, List.getElem_cons_zero, List.getElem_cons_succ, List.setIfInBounds_toArray, List.set_cons_zero, List.set_cons_succ]
              refine wpAnyH_ready (rs := [8]) (by kernel_rfl) (by simp) ?_
              refine ready_one rfl rfl (fun K hK => ?_)
              go_wp2_with fail
              refine hK.out _ _ hS9 (fun hHeldb => ?_)
              clear hK K HO7 HN7 HOw HGw HFw hb8 hcc hcf HS6d hc7
              try simp only [Act.put, List.getElem_toArray, List.getElem_cons_zero, List.getElem_cons_succ]
              refine wpAnyH_done (by kernel_rfl) ?_ _
              refine NoPanic.normal ?_
              generalize (w8.setCell ⟨w.heap.size, 0, none⟩ (.slice a8 ly.length c8)) = V8 at *
              have HRf : Hid (nm8 s L f (i + 1) ly ns ats = R) := Lib.hid (by rw [← HLY.out, ← HLZ.out, List.append_assoc]; exact HR.out)
              have hlyl : ly.length ≤ 1000000 + (i + 1) * 1000 := by
                have e : p.data.toList.length = p.size := Array.length_toList
                rw [← HLY.out, List.length_append, e, HLZ2.out]
                omega
              clear HR HLY HLZ HLZ2 HSD7 HSk CL
              go_wp2_with fail
              go_roundw
              case rel => exact ⟨i + 1, f, ly, ns, ats, _, _, _, by omega, by omega, by go_num, hlyl, by omega, HLEN, HSM, HAT, HS8, HRf⟩
              case measure => simp [intOf]; omega
        · rw [show nxI (some n) = (n : Int) from rfl] at HFI
          have hn := HMEM.out n rfl
          go_wp2_with fail
          refine HFI.out.mono ?_
          rintro e w3 ⟨rfl, hb3⟩
          have HS3 := Lib.hid (HS2.out.below hb3)
          clear hb3 HFI HS2 hc0 hc1 hc2
          try simp only at HR
          have hd10 : decide ((0 : Int) ≤ (n : Int)) = true := decide_eq_true (by omega)
          obtain ⟨mm, hm2, hmm, hbm⟩ := ptr_two n hn
          rw [hmm] at HR
          have HBM := Lib.hid hbm
          have HM2 := Lib.hid hm2
          have ER := HR.out.symm
          subst ER
          clear HMEM HR hmm hbm hm2
          have HSx := Lib.hid (HS3.out.below (wr' := w3.alloc (.cells #[.int .u8 (192 + (n : Int) / 256), .int .u8 ((n : Int) % 256)] 5)) ((Below.refl _ _).alloc (Nat.le_refl _) _))
          have HO1 := Lib.hid HSx.out.rb
          have HC1 : Hid (∀ j u, (bys mm)[j]? = some u → (w3.alloc (.cells #[.int .u8 (192 + (n : Int) / 256), .int .u8 ((n : Int) % 256)] 5)).cell? ⟨w3.heap.size, j, none⟩ = some u) := Lib.hid (fun j u hu => cells_new8 w3 [.int .u8 (192 + (n : Int) / 256), .int .u8 ((n : Int) % 256)] 5 j u (by rw [← HBM.out]; exact hu))
          have HN1 : Hid (l.length + mm.length ≤ 1000000000 ∧ B ≤ (w3.alloc (.cells #[.int .u8 (192 + (n : Int) / 256), .int .u8 ((n : Int) % 256)] 5)).heap.size) := Lib.hid ⟨by have := HM2.out; omega, by have := HSx.out.base; have := HSx.out.sz; have := HSx.out.two; omega⟩
          have hc0 := HS3.out.box.c0
          go_upto_region 12 with (at_builtin; refine wpList_plain rfl (fun K hK => wp_append_bytes (m := mm) HO1 HC1 HN1 _ _ rfl rfl (by rw [HM2.out]; rfl) (fun v2 w4 HOw HGw HFw => hK _ _ ?_)); obtain ⟨lz, hlz⟩ : ∃ lz, l ++ mm = lz := ⟨_, rfl⟩; rw [hlz] at HOw; have HLZ := Lib.hid hlz; clear hlz; obtain ⟨a2, c2, hv2⟩ := own_slice HOw.out; subst hv2; have hb4 := HSx.out.box.kept (w' := w4) (HGw.out.block _ HSx.out.box.lt (fun e => by have := HSx.out.two; rcases HSx.out.away _ (mem_blk3.2 (.inl e.symm)) with e | e <;> omega)); have hcc := hb4.c0; have hcf := hb4.f0)
          have HSz := Lib.hid (HSx.out.put0 HOw.out HGw.out HFw.out)
          clear HSx HO1 HC1 HN1 HOw HGw HFw hb4 hcc hcf hc0 HS3
          generalize (w4.setCell ⟨w.heap.size, 0, none⟩ (.slice a2 lz.length c2)) = V at *
          have hc0 := HSz.out.box.c0
          have hc1 := HSz.out.box.c1
          have hc2 := HSz.out.box.c2
          have hd0 := HSz.out.res.c0
          have hd1 := HSz.out.res.c1
          have hd2 := HSz.out.res.c2
          have he0 := HSz.out.res.f0
          have he1 := HSz.out.res.f1
          have he2 := HSz.out.res.f2
          have HE := Lib.hid (name_laid (m := true) HSz.out.rb HSz.out.rn HSz.out.ra HSz.out.foot (fun k hk => by have := HSz.out.two; rcases HSz.out.away k hk with e | e <;> omega))
          have HX := Lib.hid (HSz.out.res.laid (.slice a2 lz.length c2) (.slice aN ns.length cN) (.slice aA ats.length cA))
          go_wp2_with fail
          try simp only [Exit.inBlock, Exit.then]
          refine bodyPost_ret (results_W Try.results35 rfl HX.out) rfl ?_
          rw [HLZ.out]
          exact HE.out
      · have hd : decide ((i : Int) < (N : Int)) = false := decide_eq_false (by omega)
        have hdn : decide (i < N) = false := decide_eq_false hiN
        rw [if_pos (by omega)] at HR
        have ER := HR.out
        subst ER
        have HS3 := HST
        clear HST
        have HSx := Lib.hid (HS3.out.below (wr' := wr.alloc (.cells #[.int .u8 0] 5)) ((Below.refl _ _).alloc (Nat.le_refl _) _))
        have HO1 := Lib.hid HSx.out.rb
        have HC1 : Hid (∀ j u, (bys [0])[j]? = some u → (wr.alloc (.cells #[.int .u8 0] 5)).cell? ⟨wr.heap.size, j, none⟩ = some u) := Lib.hid (fun j u hu => cells_new8 wr [.int .u8 0] 5 j u hu)
        have HN1 : Hid (l.length + ([0] : List UInt8).length ≤ 1000000000 ∧ B ≤ (wr.alloc (.cells #[.int .u8 0] 5)).heap.size) := Lib.hid ⟨by simp; omega, by have := HSx.out.base; have := HSx.out.sz; have := HSx.out.two; omega⟩
        have hc0 := HS3.out.box.c0
        go_upto_region 19 with (at_builtin; refine wpList_plain rfl (fun K hK => wp_append_bytes (m := [0]) HO1 HC1 HN1 _ _ rfl rfl rfl (fun v2 w4 HOw HGw HFw => hK _ _ ?_)); obtain ⟨lz, hlz⟩ : ∃ lz, l ++ [0] = lz := ⟨_, rfl⟩; rw [hlz] at HOw; have HLZ := Lib.hid hlz; clear hlz; obtain ⟨a2, c2, hv2⟩ := own_slice HOw.out; subst hv2; have hb4 := HSx.out.box.kept (w' := w4) (HGw.out.block _ HSx.out.box.lt (fun e => by have := HSx.out.two; rcases HSx.out.away _ (mem_blk3.2 (.inl e.symm)) with e | e <;> omega)); have hcc := hb4.c0; have hcf := hb4.f0)
        have HSz := Lib.hid (HSx.out.put0 HOw.out HGw.out HFw.out)
        clear HSx HO1 HC1 HN1 HOw HGw HFw hb4 hcc hcf hc0 HS3
        generalize (w4.setCell ⟨w.heap.size, 0, none⟩ (.slice a2 lz.length c2)) = V at *
        have hc0 := HSz.out.box.c0
        have hc1 := HSz.out.box.c1
        have hc2 := HSz.out.box.c2
        have hd0 := HSz.out.res.c0
        have hd1 := HSz.out.res.c1
        have hd2 := HSz.out.res.c2
        have he0 := HSz.out.res.f0
        have he1 := HSz.out.res.f1
        have he2 := HSz.out.res.f2
        have HE := Lib.hid (name_laid (m := true) HSz.out.rb HSz.out.rn HSz.out.ra HSz.out.foot (fun k hk => by have := HSz.out.two; rcases HSz.out.away k hk with e | e <;> omega))
        have HX := Lib.hid (HSz.out.res.laid (.slice a2 lz.length c2) (.slice aN ns.length cN) (.slice aA ats.length cA))
        go_wp2_with fail
        try simp only [Exit.inBlock, Exit.then]
        refine bodyPost_ret (results_W Try.results35 rfl HX.out) rfl ?_
        rw [HLZ.out]
        exact HE.out
end Go.Proofs.Yticdpidngmeebaa
/- Contracts of the reference's layer 9: word, two, num, put. -/
namespace Go.Proofs.Yticdpidngmeebaa
open Go.RowKit
set_option linter.unusedVariables false
set_option maxRecDepth 20000

def wordN (n : Int) : Bool := decide (0 ≤ n ∧ n ≤ 65535)
theorem word9_any (n : Int) (w : World) : Calls Try.prog 45 #[.int .i64 n] w fun e w' => e = .returned (.bool (wordN n)) ∧ w' = w := by
  have HW : Hid (wordN n = decide (0 ≤ n ∧ n ≤ 65535)) := Lib.hid rfl
  generalize wordN n = b at *
  by_cases h0 : 0 ≤ n
  · have hd : decide (0 ≤ n) = true := decide_eq_true h0
    by_cases h1 : n ≤ 65535
    · have hd1 : decide (n ≤ 65535) = true := decide_eq_true h1
      have EB : b = true := by rw [HW.out]; exact decide_eq_true ⟨h0, h1⟩
      subst EB
      clear HW
      go_enter Try.func45, Try.ntmps45
      go_wp2_with fail
      go_ret
      exact ⟨rfl, rfl⟩
    · have hd1 : decide (n ≤ 65535) = false := decide_eq_false h1
      have EB : b = false := by rw [HW.out]; exact decide_eq_false (fun h => h1 h.2)
      subst EB
      clear HW
      go_enter Try.func45, Try.ntmps45
      go_wp2_with fail
      go_ret
      exact ⟨rfl, rfl⟩
  · have hd : decide (0 ≤ n) = false := decide_eq_false h0
    have EB : b = false := by rw [HW.out]; exact decide_eq_false (fun h => h0 h.1)
    subst EB
    clear HW
    go_enter Try.func45, Try.ntmps45
    go_wp2_with fail
    go_ret
    exact ⟨rfl, rfl⟩
/-- A number's two bytes. -/
def twoL (n : Nat) : List UInt8 := [UInt8.ofNat (n / 256), UInt8.ofNat (n % 256)]
theorem bys_twoL (n : Nat) (h : n ≤ 65535) : bys (twoL n) = [.int .u8 ((n : Int) / 256), .int .u8 ((n : Int) % 256)] := by
  unfold bys twoL
  simp only [List.map_cons, List.map_nil, UInt8.toNat_ofNat']
  rw [Nat.mod_eq_of_lt (by omega), Nat.mod_eq_of_lt (by omega)]
  simp
theorem own_cells2 (w : World) (l : List UInt8) (h : l.length ≤ maxLen) : (w.alloc (.cells (bys l).toArray 5)).ownsRow w.heap.size 5 1 (.slice (some ⟨w.heap.size, 0, none⟩) l.length l.length) l.length (bys l) :=
  ⟨by rw [bys_length, Nat.mul_one], .inr ⟨w.heap.size, l.length, (bys l).toArray, rfl, Nat.le_refl _, by show (w.heap.push _)[w.heap.size]? = _; simp, Nat.le_refl _, h, by simp [bys_length], by simp [bys_length, List.take_of_length_le]⟩⟩
theorem two9_any (n : Nat) (w : World) (h : n ≤ 65535) : Calls Try.prog 34 #[.int .i64 (n : Int)] w fun e w' => e = .returned (.slice (some ⟨w.heap.size, 0, none⟩) 2 2) ∧ w'.ownsRow w.heap.size 5 1 (.slice (some ⟨w.heap.size, 0, none⟩) 2 2) (twoL n).length (bys (twoL n)) ∧ Below w.heap.size w w' := by
  have HO := Lib.hid (own_cells2 w (twoL n) (by show (2 : Nat) ≤ maxLen; unfold maxLen; omega))
  rw [bys_twoL n h] at HO
  have HB : Hid (Below w.heap.size w (w.alloc (.cells #[.int .u8 ((n : Int) / 256), .int .u8 ((n : Int) % 256)] 5))) := Lib.hid ((Below.refl _ _).alloc (Nat.le_refl _) _)
  rw [bys_twoL n h]
  have hn1 : (n : Int) / 256 < 256 := by omega
  go_enter Try.func34, Try.ntmps34
  go_wp2_with fail
  go_ret
  exact ⟨rfl, HO.out, HB.out⟩
/-- A number of so many bytes. -/
def numV (bs : List UInt8) (at0 : Nat) : Nat → Nat
  | 0 => 0
  | k + 1 => numV bs at0 k * 256 + (bs.getD (at0 + k) 0).toNat
theorem numV_lt (bs : List UInt8) (at0 : Nat) : ∀ k, numV bs at0 k < 256 ^ k
  | 0 => Nat.zero_lt_one
  | k + 1 => by
    have h := numV_lt bs at0 k
    have h2 := (bs.getD (at0 + k) 0).toNat_lt
    rw [numV, Nat.pow_succ]
    omega
def numOk (bs : List UInt8) (at0 n : Nat) : Bool := decide (n = 0 ∨ at0 + n ≤ bs.length)
def numR (bs : List UInt8) (at0 n : Nat) : Nat := if numOk bs at0 n = true then numV bs at0 n else 0
set_option maxRecDepth 100000 in
set_option maxHeartbeats 2000000 in
theorem num9_any (a : Option Addr) (cap : Nat) (bs : List UInt8) (at0 n : Nat) (w : World) (hB : BytesIn w a cap bs) (hat : at0 ≤ 2000000) (hn : n ≤ 4) (hbl : bs.length ≤ 2000000) :
    Calls Try.prog 47 #[.slice a bs.length cap, .int .i64 (at0 : Int), .int .i64 (n : Int)] w fun e w' => e = .returned (.tuple #[.int .i64 ((numR bs at0 n : Nat) : Int), .bool (numOk bs at0 n)]) ∧ w' = w := by
  have HBI := Lib.hid hB
  have HOK : Hid (numOk bs at0 n = decide (n = 0 ∨ at0 + n ≤ bs.length)) := Lib.hid rfl
  obtain ⟨N, hN⟩ : ∃ N, bs.length = N := ⟨_, rfl⟩
  have HN := Lib.hid hN
  rw [hN] at hbl HOK ⊢
  have HNR : Hid (numR bs at0 n = if numOk bs at0 n = true then numV bs at0 n else 0) := Lib.hid rfl
  generalize numR bs at0 n = r at *
  generalize numOk bs at0 n = ok at *
  clear hB hN
  go_enter Try.func47, Try.ntmps47
  go_wp2_with fail
  go_loop [8, 9] (fun v i => ∃ k : Nat, k ≤ n ∧ (k = 0 ∨ at0 + k ≤ N) ∧ i = .int .i64 (k : Int) ∧ v = .int .i64 ((numV bs at0 k : Nat) : Int)) (fun _ i => n - (intOf i).toNat)
  case atStart => exact ⟨0, Nat.zero_le _, .inl rfl, rfl, rfl⟩
  case round =>
    obtain ⟨k, hk, hkN, rfl, rfl⟩ := hrel
    by_cases hkn : k < n
    · have hd : decide ((k : Int) < (n : Int)) = true := decide_eq_true (by omega)
      have hdn : decide (k < n) = true := decide_eq_true hkn
      by_cases hout : N ≤ at0 + k
      · have hd2 : decide ((N : Int) ≤ (at0 : Int) + (k : Int)) = true := decide_eq_true (by omega)
        have EO : ok = false := by rw [HOK.out]; exact decide_eq_false (by omega)
        subst EO
        have ER : r = 0 := by rw [HNR.out]; rfl
        subst ER
        clear HOK HNR
        generalize numV bs at0 k = v at *
        go_wp2_with fail
        go_ret2
        exact ⟨rfl, rfl⟩
      · have hd2 : decide ((N : Int) ≤ (at0 : Int) + (k : Int)) = false := decide_eq_false (by omega)
        obtain ⟨_, hcm, hrow⟩ := HBI.out
        rcases hrow with h0 | ⟨x, rfl, hcells⟩
        · rw [HN.out] at h0; omega
        have hib : at0 + k < bs.length := by rw [HN.out]; omega
        have hcell := hcells (at0 + k) hib
        have HS : Hid (numV bs at0 (k + 1) = numV bs at0 k * 256 + bs[at0 + k].toNat) := Lib.hid (by
          rw [numV, List.getD_eq_getElem?_getD, List.getElem?_eq_getElem hib]; rfl)
        have hu := bs[at0 + k].toNat_lt
        have hv : numV bs at0 k < 16777216 := Nat.lt_of_lt_of_le (numV_lt bs at0 k) (Nat.pow_le_pow_right (n := 256) (by decide) (show k ≤ 3 by omega))
        generalize bs[at0 + k].toNat = q at *
        generalize numV bs at0 k = v at *
        have hti : (at0 : Int) + (k : Int) = ((at0 + k : Nat) : Int) := by omega
        obtain ⟨t, ht⟩ : ∃ t, at0 + k = t := ⟨_, rfl⟩
        rw [ht] at hcell hti hout hib
        have hw1 : IntKind.i64.wrap ((at0 : Int) + (k : Int)) = (t : Int) := by rw [hti, IntKind.wrap_i64]; omega
        have hb1 : (0 : Int) ≤ (t : Int) := by omega
        have hb2 : (t : Int) < (N : Int) := by omega
        have hd3 : decide ((N : Int) ≤ (t : Int)) = false := decide_eq_false (by omega)
        have hd3n : decide (N ≤ t) = false := decide_eq_false (by omega)
        clear hcells ht
        go_wp2_with fail
        go_round
        case rel => exact ⟨k + 1, by omega, .inr (by omega), by go_num, by rw [HS.out]; go_num⟩
        case measure => simp [intOf]; omega
    · obtain rfl : k = n := by omega
      have hd : decide ((k : Int) < (k : Int)) = false := by simp
      have EO : ok = true := by rw [HOK.out]; exact decide_eq_true hkN
      subst EO
      have ER : numV bs at0 k = r := by rw [HNR.out]; rfl
      rw [ER]
      clear HOK HNR ER
      go_wp2_with fail
      go_ret2
      exact ⟨rfl, rfl⟩
/-- What put hands back. -/
def PutRet (w : World) (B : Nat) (F0 : List Nat) (l : List UInt8) (ns : List ByteArray) (ats : List Nat) (e : Ending) (w' : World) : Prop :=
  ∃ vB vN vA, e = .returned (.agg #[vB, vN, vA]) ∧ w'.ownsRow B 5 1 vB l.length (bys l) ∧ w'.ownsRow B 9 1 vN ns.length (ns.map Value.string) ∧ w'.ownsRow B 3 1 vA ats.length (intsL ats) ∧ Foot F0 (blk3 vB vN vA) w w'
theorem results_W1 {fn : Func} {a : Tmp} {tmps : Array Value} {W : World} {b : Nat} {vB vN vA : Value} (h : fn.results = #[.cell a 70]) (ha : tmps.getD a undef = .pointer (some ⟨b, 0, none⟩)) (hA : WBox W b vB vN vA) : (results fn tmps).run Try.prog W = .ok (.agg #[vB, vN, vA]) W := by
  rw [Array.getD_eq_getD_getElem?] at ha
  simp [results, h, ha, asAddr, loadVar_W hA]
/-- A box's cell stored behind an append: the rows and their footprint. -/
theorem put_laid {w V w4 : World} {B b r : Nat} {uB uN uA v2 : Value} {l l2 : List UInt8} {ns : List ByteArray} {ats : List Nat} (hwV : Below w.heap.size w V) (hb : w.heap.size ≤ b) (hr : w.heap.size ≤ r) (rb : w.ownsRow B 5 1 uB l.length (bys l)) (rn : w.ownsRow B 9 1 uN ns.length (ns.map Value.string)) (ra : w.ownsRow B 3 1 uA ats.length (intsL ats)) (ho : w4.ownsRow B 5 1 v2 l2.length (bys l2)) (hg : V.grownBy w4 uB.ownBlock) (hf : Foot uB.ownBlock.toList v2.ownBlock.toList V w4) (hbV : b < V.heap.size) (hrV : r < V.heap.size) (v0 v1 v3 v4 : Value) :
    PutRet w B (blk3 uB uN uA) l2 ns ats (.returned (.agg #[v2, uN, uA])) ((((w4.setCell ⟨b, 0, none⟩ v0).setCell ⟨r, 0, none⟩ v1).setCell ⟨r, 1, none⟩ v3).setCell ⟨r, 2, none⟩ v4) := by
  have hbl : ∀ k, uB.ownBlock = some k → k < w.heap.size := fun k hk => (rb.lt k hk).2
  have hnew : ∀ k, v2.ownBlock = some k → uB.ownBlock = some k ∨ V.heap.size ≤ k := fun k hk => (hf.new k (by rw [hk]; simp)).imp (fun e => by simpa using e) id
  have hset : ∀ k, k ≠ b → k ≠ r → ((((w4.setCell ⟨b, 0, none⟩ v0).setCell ⟨r, 0, none⟩ v1).setCell ⟨r, 1, none⟩ v3).setCell ⟨r, 2, none⟩ v4).heap[k]? = w4.heap[k]? := fun k h1 h2 => by
    rw [Below.heap_setCell _ ⟨r, 2, none⟩ v4 k h2, Below.heap_setCell _ ⟨r, 1, none⟩ v3 k h2, Below.heap_setCell _ ⟨r, 0, none⟩ v1 k h2, Below.heap_setCell _ ⟨b, 0, none⟩ v0 k h1]
  have hold : ∀ k, k < w.heap.size → uB.ownBlock ≠ some k → ((((w4.setCell ⟨b, 0, none⟩ v0).setCell ⟨r, 0, none⟩ v1).setCell ⟨r, 1, none⟩ v3).setCell ⟨r, 2, none⟩ v4).heap[k]? = w.heap[k]? := fun k h1 h2 => by
    rw [hset k (by omega) (by omega), hg.block k (Nat.lt_of_lt_of_le h1 hwV.size) (fun e => h2 e.symm), hwV.block k h1]
  refine ⟨v2, uN, uA, rfl, own_kept ho (fun k hk => hset k (fun e => ?_) (fun e => ?_)), own_kept rn (fun k hk => hold k (rn.lt k hk).2 (fun e => own_types rb rn (by decide) k e hk)), own_kept ra (fun k hk => hold k (ra.lt k hk).2 (fun e => own_types rb ra (by decide) k e hk)), ?_⟩
  · subst e
    rcases hnew _ hk with e | e
    · have := hbl _ e; omega
    · omega
  · subst e
    rcases hnew _ hk with e | e
    · have := hbl _ e; omega
    · omega
  · refine ⟨hg.os.trans hwV.os, hg.tape.trans hwV.tape, hg.output.trans hwV.output, ?_, fun k hk hn => hold k hk (fun e => hn (mem_blk3.2 (.inl e))), fun k hk => ?_⟩
    · simp only [World.setCell, Array.size_modify]
      exact Nat.le_trans hwV.size hg.size
    · rcases mem_blk3.1 hk with e | e | e
      · rcases hnew k e with e | e
        · exact .inl (mem_blk3.2 (.inl e))
        · exact .inr (Nat.le_trans hwV.size e)
      · exact .inl (mem_blk3.2 (.inr (.inl e)))
      · exact .inl (mem_blk3.2 (.inr (.inr e)))
set_option maxRecDepth 100000 in
set_option maxHeartbeats 2000000 in
theorem put9_any (uB uN uA : Value) (l : List UInt8) (ns : List ByteArray) (ats : List Nat) (ad : Option Addr) (c : Nat) (m : List UInt8) (w : World) (B : Nat) (rb : w.ownsRow B 5 1 uB l.length (bys l)) (rn : w.ownsRow B 9 1 uN ns.length (ns.map Value.string)) (ra : w.ownsRow B 3 1 uA ats.length (intsL ats)) (hm : BytesIn2 w ad c m) (hB : B ≤ w.heap.size) (hl : l.length + m.length ≤ 1000000000) :
    Calls Try.prog 33 #[.agg #[uB, uN, uA], .slice ad m.length c] w (PutRet w B (blk3 uB uN uA) (l ++ m) ns ats) := by
  obtain ⟨aB, cB, rfl⟩ := own_slice rb
  obtain ⟨aN, cN, rfl⟩ := own_slice rn
  obtain ⟨aA, cA, rfl⟩ := own_slice ra
  obtain ⟨V, hV⟩ : ∃ V, (w.alloc (.cells #[.slice aB l.length cB, .slice aN ns.length cN, .slice aA ats.length cA] 70)).alloc (.cells #[.slice none 0 0, .slice none 0 0, .slice none 0 0] 70) = V := ⟨_, rfl⟩
  have hb0 : Below w.heap.size w V := by rw [← hV]; exact ((Below.refl _ _).alloc (Nat.le_refl _) _).alloc (by simp) _
  have HWV := Lib.hid hb0
  have HSV : Hid (V.heap.size = w.heap.size + 1 + 1) := Lib.hid (by rw [← hV]; simp)
  have HBX : Hid (WBox V w.heap.size (.slice aB l.length cB) (.slice aN ns.length cN) (.slice aA ats.length cA)) := Lib.hid (by rw [← hV]; exact (WBox.new w _ _ _).kept (((Below.refl _ _).alloc (Nat.le_refl _) _).block _ (by simp)))
  have HRX : Hid (WBox V (w.heap.size + 1) nilS nilS nilS) := Lib.hid (by
    rw [← hV]
    have := WBox.new (w.alloc (.cells #[.slice aB l.length cB, .slice aN ns.length cN, .slice aA ats.length cA] 70)) nilS nilS nilS
    rw [show (w.alloc (.cells #[.slice aB l.length cB, .slice aN ns.length cN, .slice aA ats.length cA] 70)).heap.size = w.heap.size + 1 by simp] at this
    exact this)
  have HO1 := Lib.hid (own_below8 rb hb0)
  have HM1 := Lib.hid (hm.below hb0)
  have HN1 : Hid (l.length + m.length ≤ 1000000000 ∧ B ≤ V.heap.size) := Lib.hid ⟨hl, Nat.le_trans hB hb0.size⟩
  have HRB := Lib.hid rb
  have HRN := Lib.hid rn
  have HRA := Lib.hid ra
  have hc0 := HBX.out.c0
  obtain ⟨M, hM⟩ : ∃ M, m.length = M := ⟨_, rfl⟩
  have HMM := Lib.hid hM
  rw [hM]
  clear rb rn ra hm hb0 hl hM
  go_enter Try.func33, Try.ntmps33
  go_upto_region 1 with fail
  try rw [hV]
  clear hV
  go_upto_region 2 with (at_builtin; refine wpList_plain rfl (fun K hK => wp_append_in (l := l) (m := m) HO1 HM1 HN1 _ _ rfl rfl (by rw [HMM.out]; rfl) (fun v2 w4 HOw HGw HFw => hK _ _ ?_)); obtain ⟨lz, hlz⟩ : ∃ lz, l ++ m = lz := ⟨_, rfl⟩; rw [hlz] at HOw; have HLZ := Lib.hid hlz; clear hlz; obtain ⟨a2, c2, hv2⟩ := own_slice HOw.out; subst hv2; have hG4 := HGw.out.block w.heap.size HBX.out.lt (fun e => by have := (HRB.out.lt _ e.symm).2; omega); have hR4 := HGw.out.block (w.heap.size + 1) HRX.out.lt (fun e => by have := (HRB.out.lt _ e.symm).2; omega); have hb4 := HBX.out.kept hG4; have hr4 := HRX.out.kept hR4; have hcc := hb4.c0; have hcf := hb4.f0; clear hG4 hR4)
  have HE := Lib.hid (fun v0 v1 v3 v4 => put_laid HWV.out (Nat.le_refl _) (Nat.le_succ _) HRB.out HRN.out HRA.out HOw.out HGw.out HFw.out HBX.out.lt HRX.out.lt v0 v1 v3 v4)
  have hb5 := hb4.set0 (.slice a2 lz.length c2)
  have hr5 := hr4.kept (w' := w4.setCell ⟨w.heap.size, 0, none⟩ (.slice a2 lz.length c2)) (Below.heap_setCell w4 ⟨w.heap.size, 0, none⟩ _ (w.heap.size + 1) (show w.heap.size + 1 ≠ w.heap.size by omega))
  obtain ⟨W5, hW5⟩ : ∃ W5, w4.setCell ⟨w.heap.size, 0, none⟩ (.slice a2 lz.length c2) = W5 := ⟨_, rfl⟩
  have HE2 := Lib.hid (fun v1 v3 v4 => HE.out (.slice a2 lz.length c2) v1 v3 v4)
  rw [hW5] at hb5 hr5 HE2
  try rw [hW5]
  have hd0 := hb5.c0
  have hd1 := hb5.c1
  have hd2 := hb5.c2
  have he0 := hr5.c0
  have he1 := hr5.c1
  have he2 := hr5.c2
  have hf0 := hr5.f0
  have hf1 := hr5.f1
  have hf2 := hr5.f2
  have HX := Lib.hid (hr5.laid (.slice a2 lz.length c2) (.slice aN ns.length cN) (.slice aA ats.length cA))
  clear HE hb5 hr5 hb4 hr4 hcc hcf hW5 HOw HGw HFw
  go_wp2_with fail
  refine bodyPost_ret (results_W1 Try.results33 rfl HX.out) rfl ?_
  rw [HLZ.out]
  exact HE2.out _ _ _
end Go.Proofs.Yticdpidngmeebaa
/- Contract of the reference's Record of layer 9. -/
namespace Go.Proofs.Yticdpidngmeebaa
open Go.RowKit
set_option linter.unusedVariables false
set_option maxRecDepth 20000

def zB : List Nat := List.replicate 16 0
def headR (r : Rec) : Bool := mayN r.name && wordN r.ty && wordN r.cl && decide (0 ≤ r.ttl) && decide (r.ttl ≤ 2147483647) && decide (r.da.size ≤ 65535)
def bodyR (r : Rec) : Bool :=
  if r.ty = 1 then mayB r.f r.b && decide (r.f = 4) && decide (r.tg.size = 0) && decide (r.da.size = 0)
  else if r.ty = 28 then mayB r.f r.b && decide (r.f = 6) && decide (r.tg.size = 0) && decide (r.da.size = 0)
  else if r.ty = 5 then mayN r.tg && decide (r.f = 0 ∧ r.b = zB) && decide (r.da.size = 0)
  else decide (r.f = 0 ∧ r.b = zB) && decide (r.tg.size = 0)
def mayR (r : Rec) : Bool := headR r && bodyR r
theorem empty_eq (s : ByteArray) : (s.toList == (⟨#[]⟩ : ByteArray).toList) = decide (s.size = 0) := by
  rw [Bool.eq_iff_iff, beq_iff_eq, decide_eq_true_iff]
  constructor
  · intro h
    rw [ByteArray.toList_eq, ByteArray.toList_eq] at h
    have : s.data.toList.length = 0 := by rw [h]; rfl
    rw [← this]; exact Array.length_toList.symm
  · intro h
    have : s = ⟨#[]⟩ := by
      apply bytes_ext
      exact List.eq_nil_of_length_eq_zero (by rw [Array.length_toList]; exact h)
    rw [this]
set_option maxRecDepth 100000 in
set_option maxHeartbeats 4000000 in
theorem refRecord9_any (r : Rec) (w : World) (h16 : r.b.length = 16) (hn : r.name.size ≤ 1900000) (ht : r.tg.size ≤ 1900000) (hd : r.da.size ≤ maxLen) :
    Calls Try.prog 71 #[recV r] w fun e w' => e = .returned (.bool (mayR r)) ∧ Below w.heap.size w w' := by
  have HMR : Hid (mayR r = (headR r && bodyR r)) := Lib.hid rfl
  have HHR : Hid (headR r = (mayN r.name && wordN r.ty && wordN r.cl && decide (0 ≤ r.ttl) && decide (r.ttl ≤ 2147483647) && decide (r.da.size ≤ 65535))) := Lib.hid rfl
  have HBR : Hid (bodyR r = if r.ty = 1 then mayB r.f r.b && decide (r.f = 4) && decide (r.tg.size = 0) && decide (r.da.size = 0) else if r.ty = 28 then mayB r.f r.b && decide (r.f = 6) && decide (r.tg.size = 0) && decide (r.da.size = 0) else if r.ty = 5 then mayN r.tg && decide (r.f = 0 ∧ r.b = zB) && decide (r.da.size = 0) else decide (r.f = 0 ∧ r.b = zB) && decide (r.tg.size = 0)) := Lib.hid rfl
  obtain ⟨cs, ecs, HR, HB⟩ := rec_boxed r w h16
  rw [ecs]
  have HMN := fun W => Lib.hid (refMay8_any r.name W hn)
  have HMT := fun W => Lib.hid (refMay8_any r.tg W ht)
  have HMA := fun W => Lib.hid (refMay_any r.f r.b W h16)
  have HWO := fun n W => Lib.hid (word9_any n W)
  have H16 := Lib.hid h16
  have gd := guard_zero
  have q := fun W => run_zero_addr r.f r.b W h16
  have hdm : r.da.size ≤ 9223372036854775807 := by unfold maxLen at hd; omega
  generalize mayR r = R at *
  generalize headR r = HD at *
  generalize bodyR r = BD at *
  obtain ⟨nm, ty, cl, ttl, f, b, tg, da⟩ := r
  simp only at HMR HHR HBR HMN HMT HMA H16 q hdm
  have hzz : decide (f = 0 ∧ b = List.replicate 16 0) = decide (f = 0 ∧ b = zB) := rfl
  rw [hzz] at q
  generalize mayN nm = m1 at *
  generalize mayN tg = m2 at *
  generalize mayB f b = m3 at *
  generalize decide (f = 0 ∧ b = zB) = z3 at *
  clear ecs h16 hn ht hd hzz
  go_enter Try.func71, Try.ntmps71
  go_upto_region 1 with fail
  generalize w.alloc (.cells cs 42) = W at *
  obtain ⟨G, hG⟩ : ∃ G, w.heap.size = G := ⟨_, rfl⟩
  try rw [hG] at HR
  try rw [hG]
  have c1 := HR.out.name
  go_wp2_with fail
  refine (HMN _).out.mono ?_
  rintro e w1 ⟨rfl, hb1⟩
  replace HR := Lib.hid (HR.out.below hb1)
  replace HB := Lib.hid (chain HB.out hb1)
  clear hb1 c1 HMN
  have c1 := HR.out.tg
  simp only [Nat.zero_add] at c1
  go_wp2_with fail
  refine (HMT _).out.mono ?_
  rintro e w2 ⟨rfl, hb1⟩
  replace HR := Lib.hid (HR.out.below hb1)
  replace HB := Lib.hid (chain HB.out hb1)
  clear hb1 c1 HMT
  have HRA := Lib.hid HR.out.addr
  simp only [Nat.zero_add] at HRA
  go_wp2_with (refine load_addr_o H16 HRA _ rfl rfl rfl ?_)
  refine (HMA _).out.mono ?_
  rintro e w3 ⟨rfl, hb1⟩
  replace HR := Lib.hid (HR.out.below hb1)
  replace HB := Lib.hid (chain HB.out hb1)
  clear hb1 HMA HRA
  have c1 := HR.out.ty
  have c2 := HR.out.cl
  have c3 := HR.out.ttl
  have c4 := HR.out.fam
  have c5 := HR.out.tg
  have c6 := HR.out.da
  have HRA := Lib.hid HR.out.addr
  simp only [Nat.zero_add] at c1 c2 c3 c4 c5 c6 HRA
  clear HR
  cases m1 with
  | false =>
    have ER : R = false := by rw [HMR.out, HHR.out]; rfl
    subst ER
    try clear HHR
    clear HMR HBR
    go_wp2_with (refine load_addr_o H16 HRA _ rfl rfl rfl ?_)
    go_ret
    exact ⟨rfl, HB.out⟩
  | true =>
    go_wp2_with fail
    refine (HWO _ _).out.mono ?_
    rintro e wx ⟨rfl, hwx⟩
    rw [hwx]
    clear hwx wx

    cases hw1 : wordN ty with
    | false =>
      rw [hw1] at HHR
      have ER : R = false := by rw [HMR.out, HHR.out]; rfl
      subst ER
      try clear HHR
      clear HMR HBR
      go_wp2_with (refine load_addr_o H16 HRA _ rfl rfl rfl ?_)
      go_ret
      exact ⟨rfl, HB.out⟩
    | true =>
      rw [hw1] at HHR
      go_wp2_with fail
      refine (HWO _ _).out.mono ?_
      rintro e wx ⟨rfl, hwx⟩
      rw [hwx]
      clear hwx wx

      cases hw2 : wordN cl with
      | false =>
        rw [hw2] at HHR
        have ER : R = false := by rw [HMR.out, HHR.out]; rfl
        subst ER
        try clear HHR
        clear HMR HBR
        go_wp2_with (refine load_addr_o H16 HRA _ rfl rfl rfl ?_)
        go_ret
        exact ⟨rfl, HB.out⟩
      | true =>
        rw [hw2] at HHR
        by_cases ht1 : ttl < 0
        · have hd1 : decide (ttl < 0) = true := decide_eq_true ht1
          have hx1 : decide (0 ≤ ttl) = false := decide_eq_false (by omega)
          rw [hx1] at HHR
          have ER : R = false := by rw [HMR.out, HHR.out]; rfl
          subst ER
          try clear HHR
          clear HMR HBR
          go_wp2_with (refine load_addr_o H16 HRA _ rfl rfl rfl ?_)
          go_ret
          exact ⟨rfl, HB.out⟩

        have hd1 : decide (ttl < 0) = false := decide_eq_false ht1
        have hx1 : decide (0 ≤ ttl) = true := decide_eq_true (by omega)
        rw [hx1] at HHR
        by_cases ht2 : 2147483647 < ttl
        · have hd2 : decide (2147483647 < ttl) = true := decide_eq_true ht2
          have hx2 : decide (ttl ≤ 2147483647) = false := decide_eq_false (by omega)
          rw [hx2] at HHR
          have ER : R = false := by rw [HMR.out, HHR.out]; rfl
          subst ER
          try clear HHR
          clear HMR HBR
          go_wp2_with (refine load_addr_o H16 HRA _ rfl rfl rfl ?_)
          go_ret
          exact ⟨rfl, HB.out⟩

        have hd2 : decide (2147483647 < ttl) = false := decide_eq_false ht2
        have hx2 : decide (ttl ≤ 2147483647) = true := decide_eq_true (by omega)
        rw [hx2] at HHR
        by_cases ht3 : 65535 < da.size
        · have hd3 : decide (65535 < (da.size : Int)) = true := decide_eq_true (by omega)
          have hd3n : decide (65535 < da.size) = true := decide_eq_true ht3
          have hx3 : decide (da.size ≤ 65535) = false := decide_eq_false (by omega)
          rw [hx3] at HHR
          have ER : R = false := by rw [HMR.out, HHR.out]; rfl
          subst ER
          try clear HHR
          clear HMR HBR
          go_wp2_with (refine load_addr_o H16 HRA _ rfl rfl rfl ?_)
          go_ret
          exact ⟨rfl, HB.out⟩

        have hd3 : decide (65535 < (da.size : Int)) = false := decide_eq_false (by omega)
        have hd3n : decide (65535 < da.size) = false := decide_eq_false ht3
        have hx3 : decide (da.size ≤ 65535) = true := decide_eq_true (by omega)
        rw [hx3] at HHR
        have HHD : HD = true := HHR.out
        clear HHR hx1 hx2 hx3
        by_cases t1 : ty = 1
        · have tb1 : (ty == 1) = true := by rw [t1]; rfl
          rw [if_pos t1] at HBR
          rcases Bool.eq_false_or_eq_true m3 with h1 | h1
          · subst h1
            by_cases h2 : f = 4
            · have hd2 : decide (f = 4) = true := decide_eq_true h2
              rw [hd2] at HBR
              have he2 : (f == 4) = true := by rw [h2]; rfl
              by_cases h3 : tg.size = 0
              · have hd3 : decide (tg.size = 0) = true := decide_eq_true h3
                rw [hd3] at HBR
                have he3 := isEmpty_true tg h3
                by_cases h4 : da.size = 0
                · have hd4 : decide (da.size = 0) = true := decide_eq_true h4
                  rw [hd4] at HBR
                  have he4 := isEmpty_true da h4
                  have ER : R = true := by rw [HMR.out, HHD, HBR.out]; rfl
                  subst ER
                  try clear HHR
                  clear HMR HBR
                  go_wp2_with (refine load_addr_o H16 HRA _ rfl rfl rfl ?_)
                  go_ret
                  exact ⟨rfl, HB.out⟩
                · have hd4 : decide (da.size = 0) = false := decide_eq_false h4
                  have he4 := isEmpty_false da (by omega)
                  have ER : R = false := by rw [HMR.out, HHD, HBR.out, hd4]; simp
                  subst ER
                  try clear HHR
                  clear HMR HBR
                  go_wp2_with (refine load_addr_o H16 HRA _ rfl rfl rfl ?_)
                  go_ret
                  exact ⟨rfl, HB.out⟩
              · have hd3 : decide (tg.size = 0) = false := decide_eq_false h3
                have he3 := isEmpty_false tg (by omega)
                have ER : R = false := by rw [HMR.out, HHD, HBR.out, hd3]; simp
                subst ER
                try clear HHR
                clear HMR HBR
                go_wp2_with (refine load_addr_o H16 HRA _ rfl rfl rfl ?_)
                go_ret
                exact ⟨rfl, HB.out⟩
            · have hd2 : decide (f = 4) = false := decide_eq_false h2
              have he2 : (f == 4) = false := by rw [beq_eq_false_iff_ne]; exact h2
              have ER : R = false := by rw [HMR.out, HHD, HBR.out, hd2]; simp
              subst ER
              try clear HHR
              clear HMR HBR
              go_wp2_with (refine load_addr_o H16 HRA _ rfl rfl rfl ?_)
              go_ret
              exact ⟨rfl, HB.out⟩
          · subst h1
            have ER : R = false := by rw [HMR.out, HHD, HBR.out]; simp
            subst ER
            try clear HHR
            clear HMR HBR
            go_wp2_with (refine load_addr_o H16 HRA _ rfl rfl rfl ?_)
            go_ret
            exact ⟨rfl, HB.out⟩
        · have tb1 : (ty == 1) = false := by rw [beq_eq_false_iff_ne]; exact t1
          rw [if_neg t1] at HBR
          by_cases t2 : ty = 28
          · have tb2 : (ty == 28) = true := by rw [t2]; rfl
            rw [if_pos t2] at HBR
            rcases Bool.eq_false_or_eq_true m3 with h1 | h1
            · subst h1
              by_cases h2 : f = 6
              · have hd2 : decide (f = 6) = true := decide_eq_true h2
                rw [hd2] at HBR
                have he2 : (f == 6) = true := by rw [h2]; rfl
                by_cases h3 : tg.size = 0
                · have hd3 : decide (tg.size = 0) = true := decide_eq_true h3
                  rw [hd3] at HBR
                  have he3 := isEmpty_true tg h3
                  by_cases h4 : da.size = 0
                  · have hd4 : decide (da.size = 0) = true := decide_eq_true h4
                    rw [hd4] at HBR
                    have he4 := isEmpty_true da h4
                    have ER : R = true := by rw [HMR.out, HHD, HBR.out]; rfl
                    subst ER
                    try clear HHR
                    clear HMR HBR
                    go_wp2_with (refine load_addr_o H16 HRA _ rfl rfl rfl ?_)
                    go_ret
                    exact ⟨rfl, HB.out⟩
                  · have hd4 : decide (da.size = 0) = false := decide_eq_false h4
                    have he4 := isEmpty_false da (by omega)
                    have ER : R = false := by rw [HMR.out, HHD, HBR.out, hd4]; simp
                    subst ER
                    try clear HHR
                    clear HMR HBR
                    go_wp2_with (refine load_addr_o H16 HRA _ rfl rfl rfl ?_)
                    go_ret
                    exact ⟨rfl, HB.out⟩
                · have hd3 : decide (tg.size = 0) = false := decide_eq_false h3
                  have he3 := isEmpty_false tg (by omega)
                  have ER : R = false := by rw [HMR.out, HHD, HBR.out, hd3]; simp
                  subst ER
                  try clear HHR
                  clear HMR HBR
                  go_wp2_with (refine load_addr_o H16 HRA _ rfl rfl rfl ?_)
                  go_ret
                  exact ⟨rfl, HB.out⟩
              · have hd2 : decide (f = 6) = false := decide_eq_false h2
                have he2 : (f == 6) = false := by rw [beq_eq_false_iff_ne]; exact h2
                have ER : R = false := by rw [HMR.out, HHD, HBR.out, hd2]; simp
                subst ER
                try clear HHR
                clear HMR HBR
                go_wp2_with (refine load_addr_o H16 HRA _ rfl rfl rfl ?_)
                go_ret
                exact ⟨rfl, HB.out⟩
            · subst h1
              have ER : R = false := by rw [HMR.out, HHD, HBR.out]; simp
              subst ER
              try clear HHR
              clear HMR HBR
              go_wp2_with (refine load_addr_o H16 HRA _ rfl rfl rfl ?_)
              go_ret
              exact ⟨rfl, HB.out⟩
          · have tb2 : (ty == 28) = false := by rw [beq_eq_false_iff_ne]; exact t2
            rw [if_neg t2] at HBR
            by_cases t3 : ty = 5
            · have tb3 : (ty == 5) = true := by rw [t3]; rfl
              rw [if_pos t3] at HBR
              rcases Bool.eq_false_or_eq_true m2 with h1 | h1
              · subst h1
                rcases Bool.eq_false_or_eq_true z3 with h2 | h2
                · subst h2
                  by_cases h4 : da.size = 0
                  · have hd4 : decide (da.size = 0) = true := decide_eq_true h4
                    rw [hd4] at HBR
                    have he4 := isEmpty_true da h4
                    have ER : R = true := by rw [HMR.out, HHD, HBR.out]; rfl
                    subst ER
                    try clear HHR
                    clear HMR HBR
                    go_wp2_with (refine load_addr_o H16 HRA _ rfl rfl rfl ?_)
                    go_ret
                    exact ⟨rfl, HB.out⟩
                  · have hd4 : decide (da.size = 0) = false := decide_eq_false h4
                    have he4 := isEmpty_false da (by omega)
                    have ER : R = false := by rw [HMR.out, HHD, HBR.out, hd4]; simp
                    subst ER
                    try clear HHR
                    clear HMR HBR
                    go_wp2_with (refine load_addr_o H16 HRA _ rfl rfl rfl ?_)
                    go_ret
                    exact ⟨rfl, HB.out⟩
                · subst h2
                  have ER : R = false := by rw [HMR.out, HHD, HBR.out]; simp
                  subst ER
                  try clear HHR
                  clear HMR HBR
                  go_wp2_with (refine load_addr_o H16 HRA _ rfl rfl rfl ?_)
                  go_ret
                  exact ⟨rfl, HB.out⟩
              · subst h1
                have ER : R = false := by rw [HMR.out, HHD, HBR.out]; simp
                subst ER
                try clear HHR
                clear HMR HBR
                go_wp2_with (refine load_addr_o H16 HRA _ rfl rfl rfl ?_)
                go_ret
                exact ⟨rfl, HB.out⟩
            · have tb3 : (ty == 5) = false := by rw [beq_eq_false_iff_ne]; exact t3
              rw [if_neg t3] at HBR
              rcases Bool.eq_false_or_eq_true z3 with h2 | h2
              · subst h2
                by_cases h3 : tg.size = 0
                · have hd3 : decide (tg.size = 0) = true := decide_eq_true h3
                  rw [hd3] at HBR
                  have he3 := isEmpty_true tg h3
                  have ER : R = true := by rw [HMR.out, HHD, HBR.out]; rfl
                  subst ER
                  try clear HHR
                  clear HMR HBR
                  go_wp2_with (refine load_addr_o H16 HRA _ rfl rfl rfl ?_)
                  go_ret
                  exact ⟨rfl, HB.out⟩
                · have hd3 : decide (tg.size = 0) = false := decide_eq_false h3
                  have he3 := isEmpty_false tg (by omega)
                  have ER : R = false := by rw [HMR.out, HHD, HBR.out, hd3]; simp
                  subst ER
                  try clear HHR
                  clear HMR HBR
                  go_wp2_with (refine load_addr_o H16 HRA _ rfl rfl rfl ?_)
                  go_ret
                  exact ⟨rfl, HB.out⟩
              · subst h2
                have ER : R = false := by rw [HMR.out, HHD, HBR.out]; simp
                subst ER
                try clear HHR
                clear HMR HBR
                go_wp2_with (refine load_addr_o H16 HRA _ rfl rfl rfl ?_)
                go_ret
                exact ⟨rfl, HB.out⟩
end Go.Proofs.Yticdpidngmeebaa
/- Contracts of the reference's records and May of layer 9; messages and what was asked, in memory. -/
namespace Go.Proofs.Yticdpidngmeebaa
open Go.RowKit
set_option linter.unusedVariables false
set_option maxRecDepth 20000

def Room (r : Rec) : Prop := r.name.size ≤ 1900000 ∧ r.tg.size ≤ 1900000
set_option maxRecDepth 100000 in
set_option maxHeartbeats 1000000 in
theorem records9_any (a : Option Addr) (cap : Nat) (D : List Rec) (w : World) (hD : RecsAt w a cap D) (hr : ∀ r ∈ D, Room r) (hl : D.length ≤ 1000000) :
    Calls Try.prog 46 #[.slice a D.length cap] w fun e w' => e = .returned (.bool (D.all mayR)) ∧ Below w.heap.size w w' := by
  have HD := Lib.hid hD
  have HRM := Lib.hid hr
  obtain ⟨R, hR⟩ : ∃ R, D.all mayR = R := ⟨_, rfl⟩
  have HAL := Lib.hid hR
  rw [hR]
  obtain ⟨N, hN⟩ : ∃ N, D.length = N := ⟨_, rfl⟩
  have HN := Lib.hid hN
  rw [hN] at hl ⊢
  clear hD hr hR hN
  go_enter Try.func46, Try.ntmps46
  go_wp2_with fail
  go_loopw [3] (fun i wr => ∃ k : Nat, k ≤ N ∧ i = .int .i64 (k : Int) ∧ Hid (∀ j (h : j < D.length), j < k → mayR D[j] = true) ∧ Hid (Below w.heap.size w wr)) (fun i _ => N - (intOf i).toNat)
  case atStart => exact ⟨0, Nat.zero_le _, rfl, Lib.hid (fun j _ h => absurd h (by omega)), Lib.hid (Below.refl _ _)⟩
  case round =>
    obtain ⟨k, hk, rfl, HO, HB⟩ := hrel
    by_cases hkN : k < N
    · have hd : decide ((k : Int) < (N : Int)) = true := decide_eq_true (by omega)
      have hdn : decide (k < N) = true := decide_eq_true hkN
      have hkD : k < D.length := by rw [HN.out]; exact hkN
      obtain ⟨g, o, ha, hg, hrg⟩ := (HD.out.below HB.out).at k hkD
      subst ha
      have HRG := Lib.hid hrg
      have hfit := HD.out.2.2.1 _ (List.getElem_mem hkD)
      have hroom := HRM.out _ (List.getElem_mem hkD)
      have H16 := Lib.hid hfit.1
      have HRE := fun W => Lib.hid (refRecord9_any D[k] W hfit.1 hroom.1 hroom.2 hfit.2.2.2.2.2.2.2.2)
      have HO2 : Hid (mayR D[k] = true → ∀ j (h : j < D.length), j < k + 1 → mayR D[j] = true) := Lib.hid (fun e j h hj => by
        by_cases h2 : j < k
        · exact HO.out j h h2
        · obtain rfl : j = k := by omega
          exact e)
      have HF : Hid (mayR D[k] = false → R = false) := Lib.hid (fun e => by
        rw [← HAL.out, List.all_eq_false]
        exact ⟨D[k], List.getElem_mem hkD, by rw [e]; decide⟩)
      generalize D[k] = r at *
      have hb1 : (0 : Int) ≤ (k : Int) := by omega
      have hb2 : (k : Int) < (N : Int) := by omega
      clear hrg hfit hroom hg
      cases hm : mayR r with
      | true =>
        rw [hm] at HRE
        have HO3 := Lib.hid (HO2.out hm)
        clear HO2 HF HO hm
        go_wp2_with (refine load_rec H16 HRG _ rfl rfl rfl ?_)
        refine (HRE _).out.mono ?_
        rintro e w2 ⟨rfl, hb2⟩
        replace HB := Lib.hid (chain HB.out hb2)
        clear hb2 HRE HRG
        go_wp2_with fail
        go_roundw
        case rel => exact ⟨k + 1, by omega, by go_num, HO3, HB⟩
        case measure => simp [intOf]; omega
      | false =>
        rw [hm] at HRE
        have ER := HF.out hm
        subst ER
        clear HO2 HF HO hm
        go_wp2_with (refine load_rec H16 HRG _ rfl rfl rfl ?_)
        refine (HRE _).out.mono ?_
        rintro e w2 ⟨rfl, hb2⟩
        replace HB := Lib.hid (chain HB.out hb2)
        clear hb2 HRE HRG
        go_wp2_with fail
        go_ret
        exact ⟨rfl, HB.out⟩
    · obtain rfl : k = N := by omega
      have hd : decide ((k : Int) < (k : Int)) = false := by simp
      have ER : R = true := by
        rw [← HAL.out, List.all_eq_true]
        intro r hr
        obtain ⟨j, hj, rfl⟩ := List.getElem_of_mem hr
        exact HO.out j hj (by rw [← HN.out]; exact hj)
      subst ER
      clear HO
      go_wp2_with fail
      go_ret
      exact ⟨rfl, HB.out⟩
/-- What was asked: 3 cells. -/
structure Qu where
  name : ByteArray
  ty : Int
  cl : Int
deriving DecidableEq
def quL (q : Qu) : List Value := [Value.string q.name, .int .i64 q.ty, .int .i64 q.cl]
def quV (q : Qu) : Value := .agg (quL q).toArray
def FitQ (q : Qu) : Prop := (Lit.int .i64 q.ty).wf = true ∧ (Lit.int .i64 q.cl).wf = true ∧ q.name.size ≤ maxLen
def QusAt (w : World) (a : Option Addr) (cap : Nat) (D : List Qu) : Prop :=
  D.length ≤ cap ∧ cap ≤ maxLen ∧ (∀ q ∈ D, FitQ q) ∧ (D.length = 0 ∨ ∃ g o, a = some ⟨g, o, none⟩ ∧ g < w.heap.size ∧ w.rangeAt g o (D.flatMap quL))
theorem QusAt.below {w w' : World} {a : Option Addr} {cap : Nat} {D : List Qu} (h : QusAt w a cap D) (hb : Below w.heap.size w w') : QusAt w' a cap D := by
  obtain ⟨h1, h2, h3, h4⟩ := h
  refine ⟨h1, h2, h3, ?_⟩
  rcases h4 with h4 | ⟨g, o, e, hg, hr⟩
  · exact .inl h4
  · exact .inr ⟨g, o, e, Nat.lt_of_lt_of_le hg hb.size, fun j u hu => (hb.cell (p := ⟨g, o + j, none⟩) hg).trans (hr j u hu)⟩
theorem QusAt.at {w : World} {a : Option Addr} {cap : Nat} {D : List Qu} (h : QusAt w a cap D) (k : Nat) (hk : k < D.length) : ∃ g o, a = some ⟨g, o, none⟩ ∧ g < w.heap.size ∧ w.cell? ⟨g, o + k * 3, none⟩ = some (.string D[k].name) ∧ w.cell? ⟨g, o + k * 3 + 1, none⟩ = some (.int .i64 D[k].ty) ∧ w.cell? ⟨g, o + k * 3 + 2, none⟩ = some (.int .i64 D[k].cl) := by
  obtain ⟨h1, h2, h3, h4⟩ := h
  rcases h4 with h4 | ⟨g, o, e, hg, hr⟩
  · omega
  · have := range_at hr (S := 3) (fun d hd => rfl) k hk
    exact ⟨g, o, e, hg, this 0 _ rfl, this 1 _ rfl, this 2 _ rfl⟩
/-- A message: its parts. -/
structure Msg where
  id : Int
  fl : Int
  qs : List Qu
  an : List Rec
  au : List Rec
  mo : List Rec
deriving DecidableEq
/-- Where its rows lie. -/
structure MsgIn (w : World) (m : Msg) (aq a1 a2 a3 : Option Addr) (cq c1 c2 c3 : Nat) : Prop where
  qs : QusAt w aq cq m.qs
  an : RecsAt w a1 c1 m.an
  au : RecsAt w a2 c2 m.au
  mo : RecsAt w a3 c3 m.mo
theorem MsgIn.below {w w' : World} {m : Msg} {aq a1 a2 a3 : Option Addr} {cq c1 c2 c3 : Nat} (h : MsgIn w m aq a1 a2 a3 cq c1 c2 c3) (hb : Below w.heap.size w w') : MsgIn w' m aq a1 a2 a3 cq c1 c2 c3 := ⟨h.qs.below hb, h.an.below hb, h.au.below hb, h.mo.below hb⟩
def msgV (m : Msg) (aq a1 a2 a3 : Option Addr) (cq c1 c2 c3 : Nat) : Value := .agg #[.int .i64 m.id, .int .i64 m.fl, .slice aq m.qs.length cq, .slice a1 m.an.length c1, .slice a2 m.au.length c2, .slice a3 m.mo.length c3]
def mayQ9 (q : Qu) : Bool := mayN q.name && wordN q.ty && wordN q.cl
def mayM (m : Msg) : Bool := m.qs.all mayQ9 && wordN m.id && wordN m.fl && m.an.all mayR && m.au.all mayR && m.mo.all mayR
end Go.Proofs.Yticdpidngmeebaa
/- Records and questions compared. -/
namespace Go.Proofs.Yticdpidngmeebaa
open Go.RowKit
set_option linter.unusedVariables false
set_option maxRecDepth 20000

theorem eqF_nil (P : Program) (W : World) (D : Nat) (X Y : Array Value) : (Op.eqFields D X Y []).run P W = .ok true W := by simp [Op.eqFields]
theorem eqF_cons (P : Program) (W : World) (D : Nat) (X Y : Array Value) (f : Field) (fs : List Field) (a b : Value) (r s : Bool) (hn : f.name ≠ "_")
    (h1 : (part f.type X f.offset).run P W = .ok a W) (h2 : (part f.type Y f.offset).run P W = .ok b W) (h3 : (Op.equalIn D f.type a b).run P W = .ok r W) (h4 : (Op.eqFields D X Y fs).run P W = .ok s W) :
    (Op.eqFields D X Y (f :: fs)).run P W = .ok (r && s) W := by
  simp only [Op.eqFields, ne_eq, hn, not_false_eq_true, if_true, Sem.run_bind, h1, h2, h3, Result.andThen_ok, Sem.run_ite, Sem.run_pure]
  cases r
  · rfl
  · simpa using h4
theorem plainK_str : Try.prog.plainKey 9 = true := by kernel_rfl
theorem str_eq (a b : ByteArray) : (a.toList == b.toList) = decide (a = b) := by
  rw [Bool.eq_iff_iff, beq_iff_eq, decide_eq_true_iff]
  constructor
  · intro h
    rw [ByteArray.toList_eq, ByteArray.toList_eq] at h
    exact bytes_ext h
  · intro h; rw [h]
theorem eqS (d : Nat) (a b : ByteArray) (W : World) : (Op.equalIn (d + 1) 9 (.string a) (.string b)).run Try.prog W = .ok (decide (a = b)) W := by
  rw [run_equalIn_string (P := Try.prog) W d 9 a b Try.underlying9, str_eq]
theorem eqI (d : Nat) (a b : Int) (W : World) : (Op.equalIn (d + 1) 3 (.int .i64 a) (.int .i64 b)).run Try.prog W = .ok (decide (a = b)) W := by
  rw [run_equalIn_int (P := Try.prog) W d 3 .i64 .i64 a b Try.underlying3]
  congr 1
theorem rec_cell (r : Rec) (h16 : r.b.length = 16) : (recL r).toArray[0]? = some (.string r.name) ∧ (recL r).toArray[1]? = some (.int .i64 r.ty) ∧ (recL r).toArray[2]? = some (.int .i64 r.cl) ∧ (recL r).toArray[3]? = some (.int .i64 r.ttl) ∧ (recL r).toArray[21]? = some (.string r.tg) ∧ (recL r).toArray[22]? = some (.string r.da) := by
  have hl := addrL_len r.f r.b h16
  refine ⟨rfl, rfl, rfl, rfl, ?_, ?_⟩
  · rw [List.getElem?_toArray]
    unfold recL
    rw [List.getElem?_append_right (by simp [hl])]
    simp [hl]
  · rw [List.getElem?_toArray]
    unfold recL
    rw [List.getElem?_append_right (by simp [hl])]
    simp [hl]
theorem part_recA (W : World) (r : Rec) (h16 : r.b.length = 16) : (part 40 (recL r).toArray 4).run Try.prog W = .ok (addrV r.f r.b) W := by
  obtain ⟨i, hi, hs⟩ : ∃ i, Try.prog.info? 40 = some i ∧ i.size = 17 := ⟨_, rfl, by kernel_rfl⟩
  have h2 : (isAgg 40).run Try.prog W = .ok true W := by
    unfold isAgg
    rw [Sem.run_bind, run_underlying Try.underlying40 W]
    simp
  have h3 : (sizeOf 40).run Try.prog W = .ok 17 W := by simp [sizeOf, typeInfo, hi, hs]
  simp only [part, Sem.run_bind, h2, Result.andThen_ok, if_true, h3, Sem.run_pure]
  rw [addrV_L]
  congr 2
  apply Array.ext'
  simp only [Array.toList_extract, List.extract_eq_take_drop]
  show ((recL r).drop 4).take 17 = addrL r.f r.b
  have e : (recL r).drop 4 = addrL r.f r.b ++ [.string r.tg, .string r.da] := by unfold recL; rfl
  rw [e, List.take_append_of_le_length (by rw [addrL_len r.f r.b h16]; exact Nat.le_refl _), List.take_of_length_le (by rw [addrL_len r.f r.b h16]; exact Nat.le_refl _)]
theorem rec_fields : Try.prog.fieldsOf 42 = #[{ name := "Name", type := 9, offset := 0, embedded := false, tag := "", pkgPath := "", byteOffset := 0 }, { name := "Type", type := 3, offset := 1, embedded := false, tag := "", pkgPath := "", byteOffset := 16 }, { name := "Class", type := 3, offset := 2, embedded := false, tag := "", pkgPath := "", byteOffset := 24 }, { name := "Ttl", type := 3, offset := 3, embedded := false, tag := "", pkgPath := "", byteOffset := 32 }, { name := "Addr", type := 40, offset := 4, embedded := false, tag := "", pkgPath := "", byteOffset := 40 }, { name := "Target", type := 9, offset := 21, embedded := false, tag := "", pkgPath := "", byteOffset := 64 }, { name := "Data", type := 9, offset := 22, embedded := false, tag := "", pkgPath := "", byteOffset := 80 }] := by simp only [Program.fieldsOf, Try.underlying42]
theorem and7 (r s : Rec) : (decide (r.name = s.name) && (decide (r.ty = s.ty) && (decide (r.cl = s.cl) && (decide (r.ttl = s.ttl) && (decide (r.f = s.f ∧ r.b = s.b) && (decide (r.tg = s.tg) && (decide (r.da = s.da) && true))))))) = decide (r = s) := by
  rw [Bool.eq_iff_iff]
  simp only [Bool.and_eq_true, decide_eq_true_iff, Bool.and_true]
  cases r
  cases s
  simp only [Rec.mk.injEq]
  constructor
  · rintro ⟨h1, h2, h3, h4, ⟨h5, h6⟩, h7, h8⟩
    exact ⟨h1, h2, h3, h4, h5, h6, h7, h8⟩
  · rintro ⟨h1, h2, h3, h4, h5, h6, h7, h8⟩
    exact ⟨h1, h2, h3, h4, ⟨h5, h6⟩, h7, h8⟩
theorem eq_rec_at (d : Nat) (r s : Rec) (W : World) (hr : r.b.length = 16) (hs : s.b.length = 16) : (Op.equalIn (d + 4) 42 (recV r) (recV s)).run Try.prog W = .ok (decide (r = s)) W := by
  have hf := rec_fields
  have st : (Op.equalIn (d + 4) 42 (recV r) (recV s)).run Try.prog W = (Op.eqFields (d + 3) (recL r).toArray (recL s).toArray (Try.prog.fieldsOf 42).toList).run Try.prog W :=
    run_equalIn_struct W (d + 3) _ _ _ (by simp only [Program.fieldsOf, Try.underlying42]) Try.stoodInHeld42
  obtain ⟨r0, r1, r2, r3, r5, r6⟩ := rec_cell r hr
  obtain ⟨s0, s1, s2, s3, s5, s6⟩ := rec_cell s hs
  rw [st, hf, ← and7]
  refine eqF_cons _ _ _ _ _ _ _ _ _ _ _ (by decide) (run_part_plain W plainK_str r0) (run_part_plain W plainK_str s0) (eqS (d + 2) _ _ W) ?_
  refine eqF_cons _ _ _ _ _ _ _ _ _ _ _ (by decide) (run_part_plain W plainK_int r1) (run_part_plain W plainK_int s1) (eqI (d + 2) _ _ W) ?_
  refine eqF_cons _ _ _ _ _ _ _ _ _ _ _ (by decide) (run_part_plain W plainK_int r2) (run_part_plain W plainK_int s2) (eqI (d + 2) _ _ W) ?_
  refine eqF_cons _ _ _ _ _ _ _ _ _ _ _ (by decide) (run_part_plain W plainK_int r3) (run_part_plain W plainK_int s3) (eqI (d + 2) _ _ W) ?_
  refine eqF_cons _ _ _ _ _ _ _ _ _ _ _ (by decide) (part_recA W r hr) (part_recA W s hs) (eq_addr_at d _ _ _ _ W hr hs) ?_
  refine eqF_cons _ _ _ _ _ _ _ _ _ _ _ (by decide) (run_part_plain W plainK_str r5) (run_part_plain W plainK_str s5) (eqS (d + 2) _ _ W) ?_
  exact eqF_cons _ _ _ _ _ _ _ _ _ _ _ (by decide) (run_part_plain W plainK_str r6) (run_part_plain W plainK_str s6) (eqS (d + 2) _ _ W) (eqF_nil _ _ _ _ _)
theorem run_neq_rec (r s : Rec) (W : World) (hr : r.b.length = 16) (hs : s.b.length = 16) : (binOp .neq 42 (recV r) (recV s)).run Try.prog W = .ok (.bool (!decide (r = s))) W := by
  have h := eq_rec_at 9996 r s W hr hs
  unfold recV at h ⊢
  rw [run_neq_struct, h]
  rfl
theorem guard_rec (op : BinOp) (x y : Operand) (r s : Rec) (W : World) : (eqGuard op 42 x y (recV r) (recV s)).run Try.prog W = .ok () W := run_eqGuard_agg _ _ _ _ _ _ _ Try.eqGuardType42
theorem qu_fields : Try.prog.fieldsOf 51 = #[{ name := "Name", type := 9, offset := 0, embedded := false, tag := "", pkgPath := "", byteOffset := 0 }, { name := "Type", type := 3, offset := 1, embedded := false, tag := "", pkgPath := "", byteOffset := 16 }, { name := "Class", type := 3, offset := 2, embedded := false, tag := "", pkgPath := "", byteOffset := 24 }] := by simp only [Program.fieldsOf, Try.underlying51]
theorem and3 (r s : Qu) : (decide (r.name = s.name) && (decide (r.ty = s.ty) && (decide (r.cl = s.cl) && true))) = decide (r = s) := by
  rw [Bool.eq_iff_iff]
  simp only [Bool.and_eq_true, decide_eq_true_iff, Bool.and_true]
  cases r
  cases s
  simp only [Qu.mk.injEq]
theorem eq_qu_at (d : Nat) (r s : Qu) (W : World) : (Op.equalIn (d + 4) 51 (quV r) (quV s)).run Try.prog W = .ok (decide (r = s)) W := by
  have hf := qu_fields
  have st : (Op.equalIn (d + 4) 51 (quV r) (quV s)).run Try.prog W = (Op.eqFields (d + 3) (quL r).toArray (quL s).toArray (Try.prog.fieldsOf 51).toList).run Try.prog W :=
    run_equalIn_struct W (d + 3) _ _ _ (by simp only [Program.fieldsOf, Try.underlying51]) Try.stoodInHeld51
  rw [st, hf, ← and3]
  refine eqF_cons _ _ _ _ _ _ _ _ _ _ _ (by decide) (run_part_plain W plainK_str rfl) (run_part_plain W plainK_str rfl) (eqS (d + 2) _ _ W) ?_
  refine eqF_cons _ _ _ _ _ _ _ _ _ _ _ (by decide) (run_part_plain W plainK_int rfl) (run_part_plain W plainK_int rfl) (eqI (d + 2) _ _ W) ?_
  exact eqF_cons _ _ _ _ _ _ _ _ _ _ _ (by decide) (run_part_plain W plainK_int rfl) (run_part_plain W plainK_int rfl) (eqI (d + 2) _ _ W) (eqF_nil _ _ _ _ _)
theorem run_neq_qu (r s : Qu) (W : World) : (binOp .neq 51 (quV r) (quV s)).run Try.prog W = .ok (.bool (!decide (r = s))) W := by
  have h := eq_qu_at 9996 r s W
  unfold quV at h ⊢
  rw [run_neq_struct, h]
  rfl
theorem guard_qu (op : BinOp) (x y : Operand) (r s : Qu) (W : World) : (eqGuard op 51 x y (quV r) (quV s)).run Try.prog W = .ok () W := run_eqGuard_agg _ _ _ _ _ _ _ Try.eqGuardType51
end Go.Proofs.Yticdpidngmeebaa
/- Contract of the reference's May of layer 9. -/
namespace Go.Proofs.Yticdpidngmeebaa
open Go.RowKit
set_option linter.unusedVariables false
set_option maxRecDepth 20000

/-- A boxed message. -/
structure MBox (w : World) (G : Nat) (v0 v1 v2 v3 v4 v5 : Value) : Prop where
  c0 : w.cell? ⟨G, 0, none⟩ = some v0
  c1 : w.cell? ⟨G, 1, none⟩ = some v1
  c2 : w.cell? ⟨G, 2, none⟩ = some v2
  c3 : w.cell? ⟨G, 3, none⟩ = some v3
  c4 : w.cell? ⟨G, 4, none⟩ = some v4
  c5 : w.cell? ⟨G, 5, none⟩ = some v5
theorem MBox.below {w w' : World} {G : Nat} {v0 v1 v2 v3 v4 v5 : Value} (h : MBox w G v0 v1 v2 v3 v4 v5) (hb : Below w.heap.size w w') : MBox w' G v0 v1 v2 v3 v4 v5 := by
  have hlt : G < w.heap.size := World.block_lt_of_cell? w ⟨G, 0, none⟩ h.c0
  exact ⟨(hb.cell (p := ⟨G, 0, none⟩) hlt).trans h.c0, (hb.cell (p := ⟨G, 1, none⟩) hlt).trans h.c1, (hb.cell (p := ⟨G, 2, none⟩) hlt).trans h.c2, (hb.cell (p := ⟨G, 3, none⟩) hlt).trans h.c3, (hb.cell (p := ⟨G, 4, none⟩) hlt).trans h.c4, (hb.cell (p := ⟨G, 5, none⟩) hlt).trans h.c5⟩
theorem MBox.new (w : World) (t : TypeId) (v0 v1 v2 v3 v4 v5 : Value) : MBox (w.alloc (.cells #[v0, v1, v2, v3, v4, v5] t)) w.heap.size v0 v1 v2 v3 v4 v5 := by
  refine ⟨?_, ?_, ?_, ?_, ?_, ?_⟩ <;> (rw [World.cell?_alloc_new]; rfl)
def RoomM (m : Msg) : Prop := (∀ q ∈ m.qs, q.name.size ≤ 1900000) ∧ (∀ r ∈ m.an, Room r) ∧ (∀ r ∈ m.au, Room r) ∧ (∀ r ∈ m.mo, Room r) ∧ m.qs.length ≤ 1000000 ∧ m.an.length ≤ 1000000 ∧ m.au.length ≤ 1000000 ∧ m.mo.length ≤ 1000000
set_option maxRecDepth 100000 in
set_option maxHeartbeats 2000000 in
theorem refMay9_any (m : Msg) (aq a1 a2 a3 : Option Addr) (cq c1 c2 c3 : Nat) (w : World) (hM : MsgIn w m aq a1 a2 a3 cq c1 c2 c3) (hr : RoomM m) :
    Calls Try.prog 20 #[msgV m aq a1 a2 a3 cq c1 c2 c3] w fun e w' => e = .returned (.bool (mayM m)) ∧ Below w.heap.size w w' := by
  unfold msgV
  obtain ⟨hr1, hr2, hr3, hr4, hl1, hl2, hl3, hl4⟩ := hr
  have HMI := Lib.hid hM
  have HQR := Lib.hid hr1
  have HA1 := fun W (h : MsgIn W m aq a1 a2 a3 cq c1 c2 c3) => Lib.hid (records9_any a1 c1 m.an W h.an hr2 hl2)
  have HA2 := fun W (h : MsgIn W m aq a1 a2 a3 cq c1 c2 c3) => Lib.hid (records9_any a2 c2 m.au W h.au hr3 hl3)
  have HA3 := fun W (h : MsgIn W m aq a1 a2 a3 cq c1 c2 c3) => Lib.hid (records9_any a3 c3 m.mo W h.mo hr4 hl4)
  have HWO := fun n W => Lib.hid (word9_any n W)
  obtain ⟨R, hR⟩ : ∃ R, mayM m = R := ⟨_, rfl⟩
  have HRM : Hid (R = (m.qs.all mayQ9 && wordN m.id && wordN m.fl && m.an.all mayR && m.au.all mayR && m.mo.all mayR)) := Lib.hid hR.symm
  rw [hR]
  obtain ⟨W, hW⟩ : ∃ W, w.alloc (.cells #[.int .i64 m.id, .int .i64 m.fl, .slice aq m.qs.length cq, .slice a1 m.an.length c1, .slice a2 m.au.length c2, .slice a3 m.mo.length c3] 25) = W := ⟨_, rfl⟩
  have HB0 : Hid (Below w.heap.size w W) := Lib.hid (by rw [← hW]; exact (Below.refl _ _).alloc (Nat.le_refl _) _)
  have HBX : Hid (MBox W w.heap.size (.int .i64 m.id) (.int .i64 m.fl) (.slice aq m.qs.length cq) (.slice a1 m.an.length c1) (.slice a2 m.au.length c2) (.slice a3 m.mo.length c3)) := Lib.hid (by rw [← hW]; exact MBox.new w _ _ _ _ _ _ _)
  obtain ⟨N, hN⟩ : ∃ N, m.qs.length = N := ⟨_, rfl⟩
  have HN := Lib.hid hN
  rw [hN] at hl1 HBX hW ⊢
  generalize m.an.all mayR = r1 at *
  generalize m.au.all mayR = r2 at *
  generalize m.mo.all mayR = r3 at *
  generalize m.an.length = n1 at *
  generalize m.au.length = n2 at *
  generalize m.mo.length = n3 at *
  clear hM hr1 hr2 hr3 hr4 hR hN
  go_enter Try.func20, Try.ntmps20
  go_upto_region 1 with fail
  try rw [hW]
  clear hW
  obtain ⟨G, hG⟩ : ∃ G, w.heap.size = G := ⟨_, rfl⟩
  rw [hG] at HBX
  try rw [hG]
  go_wp2_with fail
  go_loopw [3] (fun i wr => ∃ k : Nat, k ≤ N ∧ i = .int .i64 (k : Int) ∧ Hid (∀ j (h : j < m.qs.length), j < k → mayQ9 m.qs[j] = true) ∧ Hid (MBox wr G (.int .i64 m.id) (.int .i64 m.fl) (.slice aq N cq) (.slice a1 n1 c1) (.slice a2 n2 c2) (.slice a3 n3 c3)) ∧ Hid (Below w.heap.size w wr)) (fun i _ => N - (intOf i).toNat)
  case atStart => exact ⟨0, Nat.zero_le _, rfl, Lib.hid (fun j _ h => absurd h (by omega)), HBX, HB0⟩
  case round =>
    clear HBX HB0
    obtain ⟨k, hk, rfl, HO, HX, HB⟩ := hrel
    have x2 := HX.out.c2
    by_cases hkN : k < N
    · have hd : decide ((k : Int) < (N : Int)) = true := decide_eq_true (by omega)
      have hdn : decide (k < N) = true := decide_eq_true hkN
      have hkD : k < m.qs.length := by rw [HN.out]; exact hkN
      have hfit := HMI.out.qs.2.2.1 _ (List.getElem_mem hkD)
      have hroom := HQR.out _ (List.getElem_mem hkD)
      have HQ := fun W (h : Below w.heap.size w W) => Lib.hid ((HMI.out.qs.below h).at k hkD)
      have HMN := fun W => Lib.hid (refMay8_any (m.qs[k]).name W hroom)
      have HO2 : Hid (mayQ9 m.qs[k] = true → ∀ j (h : j < m.qs.length), j < k + 1 → mayQ9 m.qs[j] = true) := Lib.hid (fun e j h hj => by
        by_cases h2 : j < k
        · exact HO.out j h h2
        · obtain rfl : j = k := by omega
          exact e)
      have HF : Hid (mayQ9 m.qs[k] = false → R = false) := Lib.hid (fun e => by
        rw [HRM.out]
        have : m.qs.all mayQ9 = false := by
          rw [List.all_eq_false]
          exact ⟨m.qs[k], List.getElem_mem hkD, by rw [e]; decide⟩
        rw [this]
        simp)
      generalize m.qs[k] = q at *
      obtain ⟨nm, ty, cl⟩ := q
      simp only at HMN HQ
      have HQE : Hid (mayQ9 ⟨nm, ty, cl⟩ = (mayN nm && wordN ty && wordN cl)) := Lib.hid rfl
      generalize mayQ9 ⟨nm, ty, cl⟩ = mq at *
      generalize mayN nm = m1 at *
      have hb1 : (0 : Int) ≤ (k : Int) := by omega
      have hb2 : (k : Int) < (N : Int) := by omega
      obtain ⟨g, o, ha, hg, y0, y1, y2⟩ := (HQ _ HB.out).out
      subst ha
      clear hfit hroom hg
      go_wp2_with fail
      refine (HMN _).out.mono ?_
      rintro e w2 ⟨rfl, hbx⟩
      replace HB := Lib.hid (chain HB.out hbx)
      replace HX := Lib.hid (HX.out.below hbx)
      clear hbx HMN y0 y1 y2 x2
      have x2 := HX.out.c2
      obtain ⟨g2, o2, ha2, _, y0, y1, y2⟩ := (HQ _ HB.out).out
      cases ha2
      clear HQ y0
      cases m1 with
      | false =>
        have ER := HF.out HQE.out
        subst ER
        clear HF HO2 HO HQE
        go_wp2_with fail
        go_ret
        exact ⟨rfl, HB.out⟩
      | true =>
        go_wp2_with fail
        refine (HWO _ _).out.mono ?_
        rintro e wx ⟨rfl, hwx⟩
        rw [hwx]
        clear hwx wx
        cases hw1 : wordN ty with
        | false =>
          rw [hw1] at HQE
          have ER := HF.out HQE.out
          subst ER
          clear HF HO2 HO HQE
          go_wp2_with fail
          go_ret
          exact ⟨rfl, HB.out⟩
        | true =>
          rw [hw1] at HQE
          go_wp2_with fail
          refine (HWO _ _).out.mono ?_
          rintro e wx ⟨rfl, hwx⟩
          rw [hwx]
          clear hwx wx
          cases hw2 : wordN cl with
          | false =>
            rw [hw2] at HQE
            have ER := HF.out HQE.out
            subst ER
            clear HF HO2 HO HQE
            go_wp2_with fail
            go_ret
            exact ⟨rfl, HB.out⟩
          | true =>
            rw [hw2] at HQE
            have HO3 := Lib.hid (HO2.out HQE.out)
            clear HF HO2 HO HQE
            go_wp2_with fail
            go_roundw
            case rel => exact ⟨k + 1, by omega, by go_num, HO3, HX, HB⟩
            case measure => simp [intOf]; omega
    · obtain rfl : k = N := by omega
      have hd : decide ((k : Int) < (k : Int)) = false := by simp
      have HAL : Hid (m.qs.all mayQ9 = true) := Lib.hid (by
        rw [List.all_eq_true]
        intro r hr
        obtain ⟨j, hj, rfl⟩ := List.getElem_of_mem hr
        exact HO.out j hj (by rw [← HN.out]; exact hj))
      have ER := HRM.out
      rw [HAL.out] at ER
      subst ER
      have x3 := HX.out.c3
      clear HO HAL HRM
      go_wp2_with fail
      refine (HA1 _ (HMI.out.below HB.out)).out.mono ?_
      rintro e w2 ⟨rfl, hbx⟩
      replace HB := Lib.hid (chain HB.out hbx)
      replace HX := Lib.hid (HX.out.below hbx)
      clear hbx HA1 x2 x3
      have x4 := HX.out.c4
      go_wp2_with fail
      refine (HA2 _ (HMI.out.below HB.out)).out.mono ?_
      rintro e w3 ⟨rfl, hbx⟩
      replace HB := Lib.hid (chain HB.out hbx)
      replace HX := Lib.hid (HX.out.below hbx)
      clear hbx HA2 x4
      have x5 := HX.out.c5
      go_wp2_with fail
      refine (HA3 _ (HMI.out.below HB.out)).out.mono ?_
      rintro e w4 ⟨rfl, hbx⟩
      replace HB := Lib.hid (chain HB.out hbx)
      replace HX := Lib.hid (HX.out.below hbx)
      clear hbx HA3 x5
      have x0 := HX.out.c0
      have x1 := HX.out.c1
      go_wp2_with fail
      refine (HWO _ _).out.mono ?_
      rintro e wx ⟨rfl, hwx⟩
      rw [hwx]
      clear hwx wx
      cases hw1 : wordN m.id with
      | false =>
        go_wp2_with fail
        go_ret
        exact ⟨by rw [hw1]; simp, HB.out⟩
      | true =>
        go_wp2_with fail
        refine (HWO _ _).out.mono ?_
        rintro e wx ⟨rfl, hwx⟩
        rw [hwx]
        clear hwx wx
        cases hw2 : wordN m.fl with
        | false =>
          go_wp2_with fail
          go_ret
          exact ⟨by rw [hw1, hw2]; simp, HB.out⟩
        | true =>
          cases r1 <;> cases r2 <;> cases r3 <;> (go_wp2_with fail; go_ret; exact ⟨by rw [hw1, hw2]; rfl, HB.out⟩)
end Go.Proofs.Yticdpidngmeebaa

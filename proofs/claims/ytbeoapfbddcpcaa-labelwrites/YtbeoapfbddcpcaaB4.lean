/- Texts that belong together, one behind the other: RefNameAny, LabNote, LabName, LabBytes, LabLives, LabGood, LabWrites. -/
import Derived.Test.YtbeoapfbddcpcaaB3
import Derived.Laws.BitsLemmas
import Derived.Lib.ConvBytes
import Derived.Deep.Cut
/- Contract of the reference's Name of layer 8. -/
namespace Go.Proofs.Ytbeoapfbddcpcaa
open Go.RowKit
set_option linter.unusedVariables false
set_option maxRecDepth 20000

theorem wrap64_small {x : Int} (h : 0 ≤ x) (h2 : x < 1000000) : wrap64 x = x := by unfold wrap64; omega
theorem wrapu8_small {x : Int} (h : 0 ≤ x) (h2 : x < 256) : IntKind.u8.wrap x = x := by rw [IntKind.wrap_u8]; omega
theorem bys_two {A C : Nat} (hA : A ≤ 63) (hC : C < 256) : bys [UInt8.ofNat (192 + A), UInt8.ofNat C] = [.int .u8 (192 + (A : Int)), .int .u8 (C : Int)] := by
  unfold bys
  simp only [List.map_cons, List.map_nil, UInt8.toNat_ofNat']
  rw [Nat.mod_eq_of_lt (by omega), Nat.mod_eq_of_lt (by omega)]
  simp
/-- One operation alone may come up, and it is wanted. -/
theorem ready_one {P : Program} {md : Region.Mode} {ops : Array Oper} {Q : Exit → Act → World → Prop} {S : World → Prop} {fuel : Nat} {listed : Array Bool} {a : Act} {w : World} {i : Nat} {o : Oper} (ho : ops[i]? = some o) (hw : Region.wanted o (yielded ops a.tmps) = true)
    (h : ∀ K' : Act → World → Prop, Shut (∀ a w, S w → (S w → wpAnyH P md ops Q S fuel (listed.setIfInBounds i true) a w) → K' a w) → Oper.wp P o a w K' Q) : AllReadyH P md ops Q S fuel listed a w [i] :=
  AllReadyH.cons ho (fun K hK => by rw [if_pos hw]; exact h K hK) AllReadyH.nil
theorem bys_one (p : ByteArray) : bys [UInt8.ofNat p.size] = [.int .u8 ((p.size : Int) % 256)] := by
  unfold bys
  simp only [List.map_cons, List.map_nil, UInt8.toNat_ofNat']
  simp
theorem ptr_two (n : Nat) (h : n < 16384) : ∃ mm : List UInt8, mm.length = 2 ∧ [UInt8.ofNat (192 + n / 256), UInt8.ofNat (n % 256)] = mm ∧ bys mm = [.int .u8 (192 + (n : Int) / 256), .int .u8 ((n : Int) % 256)] := by
  refine ⟨_, rfl, rfl, ?_⟩
  rw [bys_two (by omega) (by omega)]
  rfl
set_option maxRecDepth 100000 in
set_option maxHeartbeats 4000000 in
theorem refName8_any (vB vN vA : Value) (l : List UInt8) (ns : List ByteArray) (ats : List Nat) (s : ByteArray) (w : World) (B : Nat) (hb : w.ownsRow B 5 1 vB l.length (bys l)) (hn : w.ownsRow B 9 1 vN ns.length (ns.map Value.string)) (ha : w.ownsRow B 3 1 vA ats.length (intsL ats)) (hB : B ≤ w.heap.size) (hlen : ats.length = ns.length) (hl : l.length ≤ 100000) (hns : ns.length ≤ 100000) (hsm : ∀ p ∈ ns, p.size ≤ 1000000) (hat : ∀ a ∈ ats, a < 16384) (hs : s.size ≤ 900) :
    Calls Try.prog 29 #[.agg #[vB, vN, vA], .string s] w (NameRet w B (blk3 vB vN vA) (mayN s) (if mayN s = true then nm8 s (labelsB s) ((labelsB s).length + 1) 0 l ns ats else (l, ns, ats))) := by
  obtain ⟨aB, cB, rfl⟩ := own_slice hb
  obtain ⟨aN, cN, rfl⟩ := own_slice hn
  obtain ⟨aA, cA, rfl⟩ := own_slice ha
  have HLEN := Lib.hid hlen
  have HMA := fun W => Lib.hid (refMay8_any s W (by omega))
  have HLA := fun W => Lib.hid (refLabels_new s W (by omega))
  have hln := labels_len s
  have hlb := labels_small s
  obtain ⟨W, hW⟩ : ∃ W, (w.alloc (.cells #[.slice aB l.length cB, .slice aN ns.length cN, .slice aA ats.length cA] 46)).alloc (.cells #[.slice none 0 0, .slice none 0 0, .slice none 0 0] 46) = W := ⟨_, rfl⟩
  have hb0 : Below w.heap.size w W := by rw [← hW]; exact ((Below.refl _ _).alloc (Nat.le_refl _) _).alloc (by simp) _
  have HB0 := Lib.hid hb0
  have hsz0 : W.heap.size = w.heap.size + 2 := by rw [← hW]; simp
  have HBX : Hid (WBox W w.heap.size (.slice aB l.length cB) (.slice aN ns.length cN) (.slice aA ats.length cA)) := Lib.hid (by rw [← hW]; exact (WBox.new w _ _ _).kept (((Below.refl _ _).alloc (Nat.le_refl _) _).block _ (WBox.new w _ _ _).lt))
  have HRX : Hid (WBox W (w.heap.size + 1) nilS nilS nilS) := Lib.hid (by
    have := WBox.new (w.alloc (.cells #[.slice aB l.length cB, .slice aN ns.length cN, .slice aA ats.length cA] 46)) nilS nilS nilS
    rw [World.size_alloc] at this
    rw [← hW]; exact this)
  have HRB := Lib.hid (own_below8 hb hb0)
  have HRN := Lib.hid (own_below8 hn hb0)
  have HRA := Lib.hid (own_below8 ha hb0)
  have HFB : Hid (∀ k ∈ blk3 (.slice aB l.length cB) (.slice aN ns.length cN) (.slice aA ats.length cA), k < w.heap.size) := Lib.hid (fun k hk => by
    rcases mem_blk3.1 hk with e | e | e
    · exact (hb.lt k e).2
    · exact (hn.lt k e).2
    · exact (ha.lt k e).2)
  obtain ⟨F0, hF0⟩ : ∃ F0, blk3 (.slice aB l.length cB) (.slice aN ns.length cN) (.slice aA ats.length cA) = F0 := ⟨_, rfl⟩
  have HF0 := Lib.hid hF0
  rw [hF0]
  obtain ⟨m, hm⟩ : ∃ m, mayN s = m := ⟨_, rfl⟩
  rw [hm] at HMA ⊢
  obtain ⟨R, hR⟩ : ∃ R, (if m = true then nm8 s (labelsB s) ((labelsB s).length + 1) 0 l ns ats else (l, ns, ats)) = R := ⟨_, rfl⟩
  have HR := Lib.hid hR
  rw [hR]
  clear hlen hF0 hR hm hb hn ha
  have HWW := Lib.hid hW
  clear hW
  go_enter Try.func29, Try.ntmps29
  go_upto_region 1 with fail
  rw [HWW.out]
  clear HWW
  go_wp2_with fail
  refine (HMA _).out.mono ?_
  rintro e w0 ⟨rfl, hbm⟩
  have hb1 := chain hb0 hbm
  have HB1 := Lib.hid hb1
  have HBX1 := Lib.hid (HBX.out.kept (hbm.block _ HBX.out.lt))
  have HRX1 := Lib.hid (HRX.out.kept (hbm.block _ HRX.out.lt))
  have HNB := Lib.hid (own_below8 HRB.out hbm)
  have HNN := Lib.hid (own_below8 HRN.out hbm)
  have HNA := Lib.hid (own_below8 HRA.out hbm)
  have hs1 := hbm.size
  clear hbm HBX HRX HMA HRB HRN HRA HB0 hb0
  cases m with
  | false =>
    rw [if_neg (by decide)] at HR
    have ER := HR.out
    subst ER
    have hc0 := HBX1.out.c0
    have hc1 := HBX1.out.c1
    have hc2 := HBX1.out.c2
    have hd0 := HRX1.out.c0
    have hd1 := HRX1.out.c1
    have hd2 := HRX1.out.c2
    have he0 := HRX1.out.f0
    have he1 := HRX1.out.f1
    have he2 := HRX1.out.f2
    have HE := Lib.hid (name_laid (m := false) HNB.out HNN.out HNA.out (show Foot F0 (blk3 (.slice aB l.length cB) (.slice aN ns.length cN) (.slice aA ats.length cA)) w w0 by rw [HF0.out]; exact Foot.ofBelow F0 hb1) (fun k hk => by have := HFB.out k hk; omega))
    have HX := Lib.hid (HRX1.out.laid (.slice aB l.length cB) (.slice aN ns.length cN) (.slice aA ats.length cA))
    clear HLA
    go_wp2_with fail
    refine bodyPost_ret (results_W Try.results29 rfl HX.out) rfl ?_
    exact HE.out
  | true =>
    rw [if_pos rfl] at HR
    clear hs1
    go_wp2_with fail
    refine (HLA _).out.mono ?_
    rintro e w1 ⟨aL, cL, rfl, hrL, hfr, hbl⟩
    have HST : Hid (NSt w B w1.heap.size F0 aL cL (labelsB s) w1 (.slice aB l.length cB) (.slice aN ns.length cN) (.slice aA ats.length cA) l ns ats) := Lib.hid ⟨HBX1.out.kept (hbl.block _ HBX1.out.lt), HRX1.out.kept (hbl.block _ HRX1.out.lt), own_below8 HNB.out hbl, own_below8 HNN.out hbl, own_below8 HNA.out hbl, hrL, by rw [HF0.out]; exact Foot.ofBelow F0 (chain hb1 hbl), (fun k hk => .inl (HFB.out k hk)), Nat.le_refl _, hB, by have := HRX1.out.lt; have := hbl.size; omega, fun g hg => by have := hfr g hg; have := HRX1.out.lt; omega⟩
    have HLS : Hid (∀ p ∈ labelsB s, p.size ≤ 900) := Lib.hid (fun p hp => Nat.le_trans (hlb p hp) hs)
    have HRE := fun k W hk => Lib.hid (refRest_any s k W hs hk)
    have HRZ := Lib.hid (fun k => rest_small s k hs)
    obtain ⟨N, hN⟩ : ∃ N, (labelsB s).length = N := ⟨_, rfl⟩
    have HN := Lib.hid hN
    rw [hN] at hln HR ⊢
    have HSM := Lib.hid hsm
    have HAT := Lib.hid hat
    obtain ⟨S0, hS0⟩ : ∃ S0, w1.heap.size = S0 := ⟨_, rfl⟩
    rw [hS0] at HST
    clear hrL hfr hbl HLA HBX1 HRX1 HNB HNN HNA HB1 hb1 hN hsm hat hlb hS0 HF0 HFB
    generalize labelsB s = L at *
    go_wp2_with fail
    go_loopw [8] (fun s8 wr => ∃ (i f : Nat) (l : List UInt8) (ns : List ByteArray) (ats : List Nat) (vB vN vA : Value), i ≤ N ∧ N + 1 ≤ i + f ∧ s8 = .int .i64 (i : Int) ∧ l.length ≤ 100000 + i * 1000 ∧ ns.length ≤ 100000 + i ∧ Hid (ats.length = ns.length) ∧ Hid (∀ p ∈ ns, p.size ≤ 1000000) ∧ Hid (∀ a ∈ ats, a < 16384) ∧ Hid (NSt w B S0 F0 aL cL L wr vB vN vA l ns ats) ∧ Hid (nm8 s L f i l ns ats = R)) (fun s8 _ => N - (intOf s8).toNat)
    case atStart => exact ⟨0, N + 1, l, ns, ats, _, _, _, Nat.zero_le _, by omega, rfl, by omega, by omega, HLEN, HSM, HAT, HST, HR⟩
    case round =>
      clear HST HR HSM HAT HLEN
      obtain ⟨i, f0, l, ns, ats, vB, vN, vA, hi, hif, rfl, hl, hns, HLEN, HSM, HAT, HST, HR⟩ := hrel
      obtain ⟨aB, cB, rfl⟩ := own_slice HST.out.rb
      obtain ⟨aN, cN, rfl⟩ := own_slice HST.out.rn
      obtain ⟨aA, cA, rfl⟩ := own_slice HST.out.ra
      obtain ⟨f, rfl⟩ : ∃ f, f0 = f + 1 := ⟨f0 - 1, by omega⟩
      unfold nm8 at HR
      rw [HN.out] at HR
      by_cases hiN : i < N
      · have hd : decide ((i : Int) < (N : Int)) = true := decide_eq_true (by omega)
        have hdn : decide (i < N) = true := decide_eq_true hiN
        rw [if_neg (by omega)] at HR
        go_wp2_with fail
        refine (HRE i _ (by omega)).out.mono ?_
        rintro e w2 ⟨rfl, hb2⟩
        have HS2 := Lib.hid (HST.out.below hb2)
        have hrz := HRZ.out i
        have HFI := Lib.hid (refFind8_any (.slice aB l.length cB) (.slice aN ns.length cN) (.slice aA ats.length cA) ns ats (restB s i) B B w2 HS2.out.rn HS2.out.ra HLEN.out (by omega) HSM.out hrz)
        have HMEM := Lib.hid (fun n (h : find8 ns ats (restB s i) = some n) => HAT.out n (find8_mem ns ats (restB s i) n h))
        generalize find8 ns ats (restB s i) = fr at *
        generalize restB s i = rest at *
        have hc0 := HS2.out.box.c0
        have hc1 := HS2.out.box.c1
        have hc2 := HS2.out.box.c2
        clear hb2 HST HRE HRZ
        rcases fr with _ | n
        · rw [show nxI none = -1 from rfl] at HFI
          go_wp2_with fail
          refine HFI.out.mono ?_
          rintro e w3 ⟨rfl, hb3⟩
          have HS3 := Lib.hid (HS2.out.below hb3)
          clear hb3 HFI HS2 hc0 hc1 hc2 HMEM
          try simp only at HR
          by_cases h16 : l.length < 16384
          · rw [if_pos h16, if_pos h16] at HR
            have hd13 : decide ((l.length : Int) < 16384) = true := decide_eq_true (by omega)
            have hd13n : decide (l.length < 16384) = true := decide_eq_true h16
            have HSx := Lib.hid (HS3.out.below (wr' := w3.alloc (.cells #[.string rest] 9)) ((Below.refl _ _).alloc (Nat.le_refl _) _))
            have HO1 := Lib.hid HSx.out.rn
            have HC1 : Hid ((w3.alloc (.cells #[.string rest] 9)).cell? ⟨w3.heap.size, 0, none⟩ = some (.string rest)) := Lib.hid (by rw [World.cell?_alloc_new]; rfl)
            have HN1 : Hid (ns.length ≤ 1000000 ∧ B ≤ (w3.alloc (.cells #[.string rest] 9)).heap.size) := Lib.hid ⟨by omega, by have := HSx.out.base; have := HSx.out.sz; have := HSx.out.two; omega⟩
            have hc0 := HS3.out.box.c0
            have hc1 := HS3.out.box.c1
            go_upto_region 15 with (at_builtin; refine wpList_plain rfl (fun K hK => wp_append_str (p := rest) HO1 HC1 HN1 _ _ rfl rfl rfl (fun v2 w4 HOw HGw HFw => hK _ _ ?_)); obtain ⟨nz, hnz⟩ : ∃ nz, ns ++ [rest] = nz := ⟨_, rfl⟩; rw [hnz] at HOw; have HNZ := Lib.hid hnz; clear hnz; obtain ⟨a2, c2, hv2⟩ := own_slice HOw.out; subst hv2; have hb4 := HSx.out.box.kept (w' := w4) (HGw.out.block _ HSx.out.box.lt (fun e => by have := HSx.out.two; rcases HSx.out.away _ (mem_blk3.2 (.inr (.inl e.symm))) with e | e <;> omega)); have hcc := hb4.c1; have hcf := hb4.f1)
            have HS4 := Lib.hid (HSx.out.put1 HOw.out HGw.out HFw.out)
            clear HSx HO1 HC1 HN1 HOw HGw HFw hb4 hcc hcf hc0 hc1 HS3
            generalize (w4.setCell ⟨w.heap.size, 1, none⟩ (.slice a2 nz.length c2)) = V4 at *
            have HSx := Lib.hid (HS4.out.below (wr' := V4.alloc (.cells #[.int .i64 (l.length : Int)] 3)) ((Below.refl _ _).alloc (Nat.le_refl _) _))
            have HO1 := Lib.hid HSx.out.ra
            have HC1 : Hid ((V4.alloc (.cells #[.int .i64 (l.length : Int)] 3)).cell? ⟨V4.heap.size, 0, none⟩ = some (.int .i64 ((l.length : Nat) : Int))) := Lib.hid (by rw [World.cell?_alloc_new]; rfl)
            have HN1 : Hid (ats.length ≤ 1000000 ∧ B ≤ (V4.alloc (.cells #[.int .i64 (l.length : Int)] 3)).heap.size) := Lib.hid ⟨by have := HLEN.out; omega, by have := HSx.out.base; have := HSx.out.sz; have := HSx.out.two; omega⟩
            have hc0 := HS4.out.box.c0
            have hc2 := HS4.out.box.c2
            go_upto_region 16 with (at_builtin; refine wpList_plain rfl (fun K hK => wp_append_num (p := l.length) HO1 HC1 HN1 _ _ rfl rfl rfl (fun v3 w5 HOw HGw HFw => hK _ _ ?_)); obtain ⟨az, haz⟩ : ∃ az, ats ++ [l.length] = az := ⟨_, rfl⟩; rw [haz] at HOw; have HAZ := Lib.hid haz; clear haz; obtain ⟨a3, c3, hv3⟩ := own_slice HOw.out; subst hv3; have hb4 := HSx.out.box.kept (w' := w5) (HGw.out.block _ HSx.out.box.lt (fun e => by have := HSx.out.two; rcases HSx.out.away _ (mem_blk3.2 (.inr (.inr e.symm))) with e | e <;> omega)); have hcc := hb4.c2; have hcf := hb4.f2)
            have HS5 := Lib.hid (HSx.out.put2 HOw.out HGw.out HFw.out)
            clear HSx HO1 HC1 HN1 HOw HGw HFw hb4 hcc hcf hc0 hc2 HS4
            generalize (w5.setCell ⟨w.heap.size, 2, none⟩ (.slice a3 az.length c3)) = V5 at *
            rw [HNZ.out, HAZ.out] at HR
            have HL2 : Hid (az.length = nz.length) := Lib.hid (by rw [← HAZ.out, ← HNZ.out]; simp [HLEN.out])
            have HSM2 : Hid (∀ p ∈ nz, p.size ≤ 1000000) := Lib.hid (fun p hp => by
              rw [← HNZ.out] at hp
              rcases List.mem_append.1 hp with hp | hp
              · exact HSM.out p hp
              · rw [List.mem_singleton.1 hp]; exact hrz)
            have HAT2 : Hid (∀ a ∈ az, a < 16384) := Lib.hid (fun a ha => by
              rw [← HAZ.out] at ha
              rcases List.mem_append.1 ha with ha | ha
              · exact HAT.out a ha
              · rw [List.mem_singleton.1 ha]; exact h16)
            have hns2 : nz.length ≤ 100000 + (i + 1) := by rw [← HNZ.out]; simp; omega
            clear HNZ HAZ HLEN HSM HAT
            obtain ⟨gL, hgL, hcL⟩ : ∃ gL, aL = some ⟨gL, 0, none⟩ ∧ V5.cell? ⟨gL, i, none⟩ = some (.string (L.getD i ⟨#[]⟩)) := by
              rcases HS5.out.lab with ⟨_, _, h0⟩ | ⟨g, rfl, h⟩
              · rw [h0] at HN; have := HN.out; simp at this; omega
              · exact ⟨g, rfl, h.cells i (by rw [HN.out]; exact hiN)⟩
            subst hgL
            have hfr := HS5.out.fresh gL rfl
            have hzp : (L.getD i ⟨#[]⟩).size ≤ 900 := getD_small HLS.out i
            generalize L.getD i ⟨#[]⟩ = p at *
            obtain ⟨S, hS⟩ : ∃ S : World → Prop, (fun W => W.cell? ⟨gL, i, none⟩ = some (.string p)) = S := ⟨_, rfl⟩
            have CL : Hid (∀ w', S w' → w'.cell? ⟨gL, i, none⟩ = some (.string p)) := Lib.hid (fun w' h => by rw [← hS] at h; exact h)
            have HSk : Hid (∀ A A', S A → A'.heap[gL]? = A.heap[gL]? → S A') := Lib.hid (fun A A' h hk => by rw [← hS] at h ⊢; exact (World.cell?_of_block (a := ⟨gL, i, none⟩) hk).trans h)
            have HSD : Hid (S V5.drew) := Lib.hid (by rw [← hS]; exact hcL)
            have HS5d := Lib.hid (HS5.out.below (Below.refl _ _).drew)
            have hb1 : (0 : Int) ≤ (i : Int) := by omega
            have hb2 : (i : Int) < (N : Int) := by omega
            clear hS hcL HS5
            refine wp_region_noPanic ?_
            refine wp_region_held_drew (S := S) (by kernel_rfl) HSD.out (fun hHeld => ?_)
            generalize V5.drew = V at *
            have HSx := Lib.hid (HS5d.out.below (wr' := V.alloc (.cells #[.int .u8 ((p.size : Int) % 256)] 5)) ((Below.refl _ _).alloc (Nat.le_refl _) _))
            have HO1 := Lib.hid HSx.out.rb
            have HC1 : Hid (∀ j u, (bys [UInt8.ofNat p.size])[j]? = some u → (V.alloc (.cells #[.int .u8 ((p.size : Int) % 256)] 5)).cell? ⟨V.heap.size, j, none⟩ = some u) := Lib.hid (fun j u hu => cells_new8 V [.int .u8 ((p.size : Int) % 256)] 5 j u (by rw [← bys_one]; exact hu))
            have HN1 : Hid (l.length + ([UInt8.ofNat p.size] : List UInt8).length ≤ 1000000000 ∧ B ≤ (V.alloc (.cells #[.int .u8 ((p.size : Int) % 256)] 5)).heap.size) := Lib.hid ⟨by simp; omega, by have := HSx.out.base; have := HSx.out.sz; have := HSx.out.two; omega⟩
            have hSx := HSk.out V (V.alloc (.cells #[.int .u8 ((p.size : Int) % 256)] 5)) HSD.out (((Below.refl _ _).alloc (Nat.le_refl _) _).block gL (by have := HS5d.out.sz; omega))
            have hc0 := HS5d.out.box.c0
            have hx0 := HSx.out.box.c0
            clear HS5d
            refine wpAnyH_take (i := 0) (v := ?_) rfl (by kernel_rfl) (by kernel_rfl) (by kernel_rfl) (fun _ _ _ h => h) (Or.inl ⟨by rfl, ?_⟩) (by assumption) ?_
            rotate_left
            · (intro w hSw; go_simp; try (with_reducible rfl))
            try simp only [Act.put, List.getElem_toArray, List.getElem_cons_zero, List.setIfInBounds_toArray, List.set_cons_zero, List.set_cons_succ]
            refine wpAnyH_take (i := 2) (v := ?_) rfl (by kernel_rfl) (by kernel_rfl) (by kernel_rfl) (fun _ _ _ h => h) (Or.inl ⟨by rfl, ?_⟩) (by assumption) ?_
            rotate_left
            · (intro w hSw; go_simp; try (with_reducible rfl))
            try simp only [Act.put, List.getElem_toArray, List.getElem_cons_zero, List.getElem_cons_succ, List.setIfInBounds_toArray, List.set_cons_zero, List.set_cons_succ]
            refine wpAnyH_take (i := 3) (v := ?_) rfl (by kernel_rfl) (by kernel_rfl) (by kernel_rfl) (fun _ _ _ h => h) (Or.inl ⟨by rfl, ?_⟩) (by assumption) ?_
            rotate_left
            · (intro w hSw; go_simp; try (with_reducible rfl))
            try simp only [Act.put, List.getElem_toArray, List.getElem_cons_zero, List.getElem_cons_succ, List.setIfInBounds_toArray, List.set_cons_zero, List.set_cons_succ]
            refine wpAnyH_take (i := 4) (v := ?_) rfl (by kernel_rfl) (by kernel_rfl) (by kernel_rfl) (fun _ _ _ h => h) (Or.inl ⟨by rfl, ?_⟩) (by assumption) ?_
            rotate_left
            · (intro w hSw; go_simp; try (with_reducible rfl))
            try simp only [Act.put, List.getElem_toArray, List.getElem_cons_zero, List.getElem_cons_succ, List.setIfInBounds_toArray, List.set_cons_zero, List.set_cons_succ]
            refine wpAnyH_take (i := 5) (v := ?_) rfl (by kernel_rfl) (by kernel_rfl) (by kernel_rfl) (fun _ _ _ h => h) (Or.inl ⟨by rfl, ?_⟩) (by assumption) ?_
            rotate_left
            · (intro w hSw; have hc0 := CL.out w hSw; go_simp; try (with_reducible rfl))
            try simp only [Act.put, List.getElem_toArray, List.getElem_cons_zero, List.getElem_cons_succ, List.setIfInBounds_toArray, List.set_cons_zero, List.set_cons_succ]
            refine wpAnyH_take (i := 6) (v := ?_) rfl (by kernel_rfl) (by kernel_rfl) (by kernel_rfl) (fun _ _ _ h => h) (Or.inl ⟨by rfl, ?_⟩) (by assumption) ?_
            rotate_left
            · (intro w hSw; go_simp; try (with_reducible rfl))
            try simp only [Act.put, List.getElem_toArray, List.getElem_cons_zero, List.getElem_cons_succ, List.setIfInBounds_toArray, List.set_cons_zero, List.set_cons_succ]
            refine wpAnyH_take (i := 7) (v := ?_) rfl (by kernel_rfl) (by kernel_rfl) (by kernel_rfl) (fun _ _ _ h => h) (Or.inl ⟨by rfl, ?_⟩) (by assumption) ?_
            rotate_left
            · (intro w hSw; go_simp; try (with_reducible rfl))
            try simp only [Act.put, List.getElem_toArray, List.getElem_cons_zero, List.getElem_cons_succ, List.setIfInBounds_toArray, List.set_cons_zero, List.set_cons_succ]
            refine wpAnyH_ready (rs := [1, 8]) (by kernel_rfl) (by simp) ?_
            refine AllReadyH.cons rfl (fun K hK => ?_) (ready_one rfl rfl (fun K hK => ?_))
            · rw [if_pos (by rfl)]
              go_wp2_with fail
              refine hK.out _ _ hHeld (fun hHeld1 => ?_)
              clear hK K
              try simp only [Act.put, List.getElem_toArray, List.getElem_cons_zero, List.getElem_cons_succ, List.setIfInBounds_toArray, List.set_cons_zero, List.set_cons_succ]
              refine wpAnyH_ready (rs := [8]) (by kernel_rfl) (by simp) ?_
              refine ready_one rfl rfl (fun K hK => ?_)
              go_wp2_with fail
              refine hK.out _ _ hSx (fun hHeld2 => ?_)
              clear hK K
              try simp only [Act.put, List.getElem_toArray, List.getElem_cons_zero, List.getElem_cons_succ, List.setIfInBounds_toArray, List.set_cons_zero, List.set_cons_succ]
              refine wpAnyH_ready (rs := [9]) (by kernel_rfl) (by simp) ?_
              refine ready_one rfl rfl (fun K hK => ?_)
              refine wp_append_bytes (m := [UInt8.ofNat p.size]) HO1 HC1 HN1 _ _ rfl rfl rfl (fun v6 w6 HOw HGw HFw => ?_)
              obtain ⟨lz, hlz⟩ : ∃ lz, l ++ [UInt8.ofNat p.size] = lz := ⟨_, rfl⟩
              rw [hlz] at HOw
              have HLZ := Lib.hid hlz
              clear hlz
              obtain ⟨a6, c6, hv6⟩ := own_slice HOw.out
              subst hv6
              have hb6 := HSx.out.box.kept (w' := w6) (HGw.out.block _ HSx.out.box.lt (fun e => by have := HSx.out.two; rcases HSx.out.away _ (mem_blk3.2 (.inl e.symm)) with e | e <;> omega))
              have hcc := hb6.c0
              have hcf := hb6.f0
              have hS6 := HSk.out _ w6 hSx (HGw.out.block gL (Nat.lt_of_lt_of_le hfr.2 HSx.out.sz) (fun e => by rcases HSx.out.away _ (mem_blk3.2 (.inl e.symm)) with e | e <;> omega))
              refine hK.out _ _ hS6 (fun hHeld6 => ?_)
              clear hK K
              try simp only [Act.put, List.getElem_toArray, List.getElem_cons_zero, List.getElem_cons_succ, List.setIfInBounds_toArray, List.set_cons_zero, List.set_cons_succ]
              have HS6 := Lib.hid (HSx.out.put0 HOw.out HGw.out HFw.out)
              refine wpAnyH_take (i := 10) (v := ?_) rfl (by kernel_rfl) (by kernel_rfl) (by kernel_rfl) (fun _ _ _ h => h) (Or.inl ⟨by rfl, ?_⟩) (by assumption) ?_
              rotate_left
              · (intro w hSw; go_simp; try (with_reducible rfl))
              try simp only [Act.put, List.getElem_toArray, List.getElem_cons_zero, List.getElem_cons_succ, List.setIfInBounds_toArray, List.set_cons_zero, List.set_cons_succ]
              have hS7 := HSk.out _ (w6.setCell ⟨w.heap.size, 0, none⟩ (.slice a6 lz.length c6)) hS6 (Below.heap_setCell w6 ⟨w.heap.size, 0, none⟩ _ gL (show gL ≠ w.heap.size by omega))
              refine wpAnyH_ready (rs := [11]) (by kernel_rfl) (by simp) ?_
              refine ready_one rfl rfl (fun K hK => ?_)
              go_wp2_with fail
              refine hK.out _ _ hS7 (fun hHeld7 => ?_)
              clear hK K HO1 HC1 HN1 HOw HGw HFw hb6 hcc hcf HSx
              try simp only [Act.put, List.getElem_toArray, List.getElem_cons_zero, List.getElem_cons_succ]
              refine wpAnyH_done (by kernel_rfl) ?_ _
              refine NoPanic.normal ?_
              generalize (w6.setCell ⟨w.heap.size, 0, none⟩ (.slice a6 lz.length c6)) = V6 at *
              have HLZ2 : Hid (lz.length = l.length + 1) := Lib.hid (by rw [← HLZ.out]; simp)
              have HS6d := Lib.hid (HS6.out.below (Below.refl _ _).drew)
              have HSD7 : Hid (S V6.drew) := Lib.hid (HSk.out V6 V6.drew hS7 rfl)
              clear HS6 hS7
              go_wp2_with fail
              refine wp_region_noPanic ?_
              refine wp_region_held_drew (S := S) (by kernel_rfl) HSD7.out (fun hHeld8 => ?_)
              generalize V6.drew = V7 at *
              have hc7 := HS6d.out.box.c0
              have HO7 := Lib.hid HS6d.out.rb
              have HN7 : Hid (lz.length + p.size ≤ 1000000000 ∧ B ≤ V7.heap.size) := Lib.hid ⟨by have := HLZ2.out; omega, by have := HS6d.out.base; have := HS6d.out.sz; have := HS6d.out.two; omega⟩
              refine wpAnyH_take (i := 0) (v := ?_) rfl (by kernel_rfl) (by kernel_rfl) (by kernel_rfl) (fun _ _ _ h => h) (Or.inl ⟨by rfl, ?_⟩) (by assumption) ?_
              rotate_left
              · (intro w hSw; go_simp; try (with_reducible rfl))
              try simp only [Act.put, List.getElem_toArray, List.getElem_cons_zero, List.setIfInBounds_toArray, List.set_cons_zero, List.set_cons_succ]
              refine wpAnyH_take (i := 2) (v := ?_) rfl (by kernel_rfl) (by kernel_rfl) (by kernel_rfl) (fun _ _ _ h => h) (Or.inl ⟨by rfl, ?_⟩) (by assumption) ?_
              rotate_left
              · (intro w hSw; go_simp; try (with_reducible rfl))
              try simp only [Act.put, List.getElem_toArray, List.getElem_cons_zero, List.getElem_cons_succ, List.setIfInBounds_toArray, List.set_cons_zero, List.set_cons_succ]
              refine wpAnyH_take (i := 3) (v := ?_) rfl (by kernel_rfl) (by kernel_rfl) (by kernel_rfl) (fun _ _ _ h => h) (Or.inl ⟨by rfl, ?_⟩) (by assumption) ?_
              rotate_left
              · (intro w hSw; go_simp; try (with_reducible rfl))
              try simp only [Act.put, List.getElem_toArray, List.getElem_cons_zero, List.getElem_cons_succ, List.setIfInBounds_toArray, List.set_cons_zero, List.set_cons_succ]
              refine wpAnyH_take (i := 4) (v := ?_) rfl (by kernel_rfl) (by kernel_rfl) (by kernel_rfl) (fun _ _ _ h => h) (Or.inl ⟨by rfl, ?_⟩) (by assumption) ?_
              rotate_left
              · (intro w hSw; go_simp; try (with_reducible rfl))
              try simp only [Act.put, List.getElem_toArray, List.getElem_cons_zero, List.getElem_cons_succ, List.setIfInBounds_toArray, List.set_cons_zero, List.set_cons_succ]
              refine wpAnyH_take (i := 5) (v := ?_) rfl (by kernel_rfl) (by kernel_rfl) (by kernel_rfl) (fun _ _ _ h => h) (Or.inl ⟨by rfl, ?_⟩) (by assumption) ?_
              rotate_left
              · (intro w hSw; have hc0 := CL.out w hSw; go_simp; try (with_reducible rfl))
              try simp only [Act.put, List.getElem_toArray, List.getElem_cons_zero, List.getElem_cons_succ, List.setIfInBounds_toArray, List.set_cons_zero, List.set_cons_succ]
              refine wpAnyH_ready (rs := [1]) (by kernel_rfl) (by simp) ?_
              refine AllReadyH.cons rfl (fun K hK => ?_) AllReadyH.nil
              rw [if_pos (by rfl)]
              go_wp2_with fail
              refine hK.out _ _ HSD7.out (fun hHeld9 => ?_)
              clear hK K
              try simp only [Act.put, List.getElem_toArray, List.getElem_cons_zero, List.getElem_cons_succ, List.setIfInBounds_toArray, List.set_cons_zero, List.set_cons_succ]
              refine wpAnyH_ready (rs := [6]) (by kernel_rfl) (by simp) ?_
              refine ready_one rfl rfl (fun K hK => ?_)
              refine wp_append_text (s := p) HO7 HN7 _ _ rfl rfl rfl (fun v8 w8 HOw HGw HFw => ?_)
              obtain ⟨ly, hly⟩ : ∃ ly, lz ++ p.data.toList = ly := ⟨_, rfl⟩
              rw [hly] at HOw
              have HLY := Lib.hid hly
              clear hly
              obtain ⟨a8, c8, hv8⟩ := own_slice HOw.out
              subst hv8
              have hb8 := HS6d.out.box.kept (w' := w8) (HGw.out.block _ HS6d.out.box.lt (fun e => by have := HS6d.out.two; rcases HS6d.out.away _ (mem_blk3.2 (.inl e.symm)) with e | e <;> omega))
              have hcc := hb8.c0
              have hcf := hb8.f0
              have hS8 := HSk.out _ w8 HSD7.out (HGw.out.block gL (Nat.lt_of_lt_of_le hfr.2 HS6d.out.sz) (fun e => by rcases HS6d.out.away _ (mem_blk3.2 (.inl e.symm)) with e | e <;> omega))
              refine hK.out _ _ hS8 (fun hHelda => ?_)
              clear hK K
              try simp only [Act.put, List.getElem_toArray, List.getElem_cons_zero, List.getElem_cons_succ, List.setIfInBounds_toArray, List.set_cons_zero, List.set_cons_succ]
              have HS8 := Lib.hid (HS6d.out.put0 HOw.out HGw.out HFw.out)
              have hS9 := HSk.out _ (w8.setCell ⟨w.heap.size, 0, none⟩ (.slice a8 ly.length c8)) hS8 (Below.heap_setCell w8 ⟨w.heap.size, 0, none⟩ _ gL (show gL ≠ w.heap.size by omega))
              refine wpAnyH_take (i := 7) (v := ?_) rfl (by kernel_rfl) (by kernel_rfl) (by kernel_rfl) (fun _ _ _ h => h) (Or.inl ⟨by rfl, ?_⟩) (by assumption) ?_
              rotate_left
              · (intro w hSw; go_simp; try (with_reducible rfl))
              try simp only [Act.put, List.getElem_toArray, List.getElem_cons_zero, List.getElem_cons_succ, List.setIfInBounds_toArray, List.set_cons_zero, List.set_cons_succ]
              refine wpAnyH_ready (rs := [8]) (by kernel_rfl) (by simp) ?_
              refine ready_one rfl rfl (fun K hK => ?_)
              go_wp2_with fail
              refine hK.out _ _ hS9 (fun hHeldb => ?_)
              clear hK K HO7 HN7 HOw HGw HFw hb8 hcc hcf HS6d hc7
              try simp only [Act.put, List.getElem_toArray, List.getElem_cons_zero, List.getElem_cons_succ]
              refine wpAnyH_done (by kernel_rfl) ?_ _
              refine NoPanic.normal ?_
              generalize (w8.setCell ⟨w.heap.size, 0, none⟩ (.slice a8 ly.length c8)) = V8 at *
              have HRf : Hid (nm8 s L f (i + 1) ly nz az = R) := Lib.hid (by rw [← HLY.out, ← HLZ.out, List.append_assoc]; exact HR.out)
              have hlyl : ly.length ≤ 100000 + (i + 1) * 1000 := by
                have e : p.data.toList.length = p.size := Array.length_toList
                rw [← HLY.out, List.length_append, e, HLZ2.out]
                omega
              clear HR HLY HLZ HLZ2 HSD7 HSk CL
              go_wp2_with fail
              go_roundw
              case rel => exact ⟨i + 1, f, ly, nz, az, _, _, _, by omega, by omega, by go_num, hlyl, hns2, HL2, HSM2, HAT2, HS8, HRf⟩
              case measure => simp [intOf]; omega
            · go_wp2_with fail
              refine hK.out _ _ hSx (fun hHeld1 => ?_)
              clear hK K
              try simp only [Act.put, List.getElem_toArray, List.getElem_cons_zero, List.getElem_cons_succ, List.setIfInBounds_toArray, List.set_cons_zero, List.set_cons_succ]
              generalize (V.alloc (.cells #[.int .u8 ((p.size : Int) % 256)] 5)) = X at *
              generalize V.heap.size = GX at *
              refine wpAnyH_ready (rs := [1]) (by kernel_rfl) (by simp) ?_
              refine AllReadyH.cons rfl (fun K hK => ?_) AllReadyH.nil
              rw [if_pos (by rfl)]
              go_wp2_with fail
              refine hK.out _ _ hSx (fun hHeld2 => ?_)
              clear hK K
              try simp only [Act.put, List.getElem_toArray, List.getElem_cons_zero, List.getElem_cons_succ, List.setIfInBounds_toArray, List.set_cons_zero, List.set_cons_succ]
              refine wpAnyH_ready (rs := [9]) (by kernel_rfl) (by simp) ?_
              refine ready_one rfl rfl (fun K hK => ?_)
              refine wp_append_bytes (m := [UInt8.ofNat p.size]) HO1 HC1 HN1 _ _ rfl rfl rfl (fun v6 w6 HOw HGw HFw => ?_)
              obtain ⟨lz, hlz⟩ : ∃ lz, l ++ [UInt8.ofNat p.size] = lz := ⟨_, rfl⟩
              rw [hlz] at HOw
              have HLZ := Lib.hid hlz
              clear hlz
              obtain ⟨a6, c6, hv6⟩ := own_slice HOw.out
              subst hv6
              have hb6 := HSx.out.box.kept (w' := w6) (HGw.out.block _ HSx.out.box.lt (fun e => by have := HSx.out.two; rcases HSx.out.away _ (mem_blk3.2 (.inl e.symm)) with e | e <;> omega))
              have hcc := hb6.c0
              have hcf := hb6.f0
              have hS6 := HSk.out _ w6 hSx (HGw.out.block gL (Nat.lt_of_lt_of_le hfr.2 HSx.out.sz) (fun e => by rcases HSx.out.away _ (mem_blk3.2 (.inl e.symm)) with e | e <;> omega))
              refine hK.out _ _ hS6 (fun hHeld6 => ?_)
              clear hK K
              try simp only [Act.put, List.getElem_toArray, List.getElem_cons_zero, List.getElem_cons_succ, List.setIfInBounds_toArray, List.set_cons_zero, List.set_cons_succ]
              have HS6 := Lib.hid (HSx.out.put0 HOw.out HGw.out HFw.out)
              refine wpAnyH_take (i := 10) (v := ?_) rfl (by kernel_rfl) (by kernel_rfl) (by kernel_rfl) (fun _ _ _ h => h) (Or.inl ⟨by rfl, ?_⟩) (by assumption) ?_
              rotate_left
              · (intro w hSw; go_simp; try (with_reducible rfl))
              try simp only [Act.put, List.getElem_toArray, List.getElem_cons_zero, List.getElem_cons_succ, List.setIfInBounds_toArray, List.set_cons_zero, List.set_cons_succ]
              have hS7 := HSk.out _ (w6.setCell ⟨w.heap.size, 0, none⟩ (.slice a6 lz.length c6)) hS6 (Below.heap_setCell w6 ⟨w.heap.size, 0, none⟩ _ gL (show gL ≠ w.heap.size by omega))
              refine wpAnyH_ready (rs := [11]) (by kernel_rfl) (by simp) ?_
              refine ready_one rfl rfl (fun K hK => ?_)
              go_wp2_with fail
              refine hK.out _ _ hS7 (fun hHeld7 => ?_)
              clear hK K HO1 HC1 HN1 HOw HGw HFw hb6 hcc hcf HSx
              try simp only [Act.put, List.getElem_toArray, List.getElem_cons_zero, List.getElem_cons_succ]
              refine wpAnyH_done (by kernel_rfl) ?_ _
              refine NoPanic.normal ?_
              generalize (w6.setCell ⟨w.heap.size, 0, none⟩ (.slice a6 lz.length c6)) = V6 at *
              have HLZ2 : Hid (lz.length = l.length + 1) := Lib.hid (by rw [← HLZ.out]; simp)
              have HS6d := Lib.hid (HS6.out.below (Below.refl _ _).drew)
              have HSD7 : Hid (S V6.drew) := Lib.hid (HSk.out V6 V6.drew hS7 rfl)
              clear HS6 hS7
              go_wp2_with fail
              refine wp_region_noPanic ?_
              refine wp_region_held_drew (S := S) (by kernel_rfl) HSD7.out (fun hHeld8 => ?_)
              generalize V6.drew = V7 at *
              have hc7 := HS6d.out.box.c0
              have HO7 := Lib.hid HS6d.out.rb
              have HN7 : Hid (lz.length + p.size ≤ 1000000000 ∧ B ≤ V7.heap.size) := Lib.hid ⟨by have := HLZ2.out; omega, by have := HS6d.out.base; have := HS6d.out.sz; have := HS6d.out.two; omega⟩
              refine wpAnyH_take (i := 0) (v := ?_) rfl (by kernel_rfl) (by kernel_rfl) (by kernel_rfl) (fun _ _ _ h => h) (Or.inl ⟨by rfl, ?_⟩) (by assumption) ?_
              rotate_left
              · (intro w hSw; go_simp; try (with_reducible rfl))
              try simp only [Act.put, List.getElem_toArray, List.getElem_cons_zero, List.setIfInBounds_toArray, List.set_cons_zero, List.set_cons_succ]
              refine wpAnyH_take (i := 2) (v := ?_) rfl (by kernel_rfl) (by kernel_rfl) (by kernel_rfl) (fun _ _ _ h => h) (Or.inl ⟨by rfl, ?_⟩) (by assumption) ?_
              rotate_left
              · (intro w hSw; go_simp; try (with_reducible rfl))
              try simp only [Act.put, List.getElem_toArray, List.getElem_cons_zero, List.getElem_cons_succ, List.setIfInBounds_toArray, List.set_cons_zero, List.set_cons_succ]
              refine wpAnyH_take (i := 3) (v := ?_) rfl (by kernel_rfl) (by kernel_rfl) (by kernel_rfl) (fun _ _ _ h => h) (Or.inl ⟨by rfl, ?_⟩) (by assumption) ?_
              rotate_left
              · (intro w hSw; go_simp; try (with_reducible rfl))
              try simp only [Act.put, List.getElem_toArray, List.getElem_cons_zero, List.getElem_cons_succ, List.setIfInBounds_toArray, List.set_cons_zero, List.set_cons_succ]
              refine wpAnyH_take (i := 4) (v := ?_) rfl (by kernel_rfl) (by kernel_rfl) (by kernel_rfl) (fun _ _ _ h => h) (Or.inl ⟨by rfl, ?_⟩) (by assumption) ?_
              rotate_left
              · (intro w hSw; go_simp; try (with_reducible rfl))
              try simp only [Act.put, List.getElem_toArray, List.getElem_cons_zero, List.getElem_cons_succ, List.setIfInBounds_toArray, List.set_cons_zero, List.set_cons_succ]
              refine wpAnyH_take (i := 5) (v := ?_) rfl (by kernel_rfl) (by kernel_rfl) (by kernel_rfl) (fun _ _ _ h => h) (Or.inl ⟨by rfl, ?_⟩) (by assumption) ?_
              rotate_left
              · (intro w hSw; have hc0 := CL.out w hSw; go_simp; try (with_reducible rfl))
              try simp only [Act.put, List.getElem_toArray, List.getElem_cons_zero, List.getElem_cons_succ, List.setIfInBounds_toArray, List.set_cons_zero, List.set_cons_succ]
              refine wpAnyH_ready (rs := [1]) (by kernel_rfl) (by simp) ?_
              refine AllReadyH.cons rfl (fun K hK => ?_) AllReadyH.nil
              rw [if_pos (by rfl)]
              go_wp2_with fail
              refine hK.out _ _ HSD7.out (fun hHeld9 => ?_)
              clear hK K
              try simp only [Act.put, List.getElem_toArray, List.getElem_cons_zero, List.getElem_cons_succ, List.setIfInBounds_toArray, List.set_cons_zero, List.set_cons_succ]
              refine wpAnyH_ready (rs := [6]) (by kernel_rfl) (by simp) ?_
              refine ready_one rfl rfl (fun K hK => ?_)
              refine wp_append_text (s := p) HO7 HN7 _ _ rfl rfl rfl (fun v8 w8 HOw HGw HFw => ?_)
              obtain ⟨ly, hly⟩ : ∃ ly, lz ++ p.data.toList = ly := ⟨_, rfl⟩
              rw [hly] at HOw
              have HLY := Lib.hid hly
              clear hly
              obtain ⟨a8, c8, hv8⟩ := own_slice HOw.out
              subst hv8
              have hb8 := HS6d.out.box.kept (w' := w8) (HGw.out.block _ HS6d.out.box.lt (fun e => by have := HS6d.out.two; rcases HS6d.out.away _ (mem_blk3.2 (.inl e.symm)) with e | e <;> omega))
              have hcc := hb8.c0
              have hcf := hb8.f0
              have hS8 := HSk.out _ w8 HSD7.out (HGw.out.block gL (Nat.lt_of_lt_of_le hfr.2 HS6d.out.sz) (fun e => by rcases HS6d.out.away _ (mem_blk3.2 (.inl e.symm)) with e | e <;> omega))
              refine hK.out _ _ hS8 (fun hHelda => ?_)
              clear hK K
              try simp only [Act.put, List.getElem_toArray, List.getElem_cons_zero, List.getElem_cons_succ, List.setIfInBounds_toArray, List.set_cons_zero, List.set_cons_succ]
              have HS8 := Lib.hid (HS6d.out.put0 HOw.out HGw.out HFw.out)
              have hS9 := HSk.out _ (w8.setCell ⟨w.heap.size, 0, none⟩ (.slice a8 ly.length c8)) hS8 (Below.heap_setCell w8 ⟨w.heap.size, 0, none⟩ _ gL (show gL ≠ w.heap.size by omega))
              refine wpAnyH_take (i := 7) (v := ?_) rfl (by kernel_rfl) (by kernel_rfl) (by kernel_rfl) (fun _ _ _ h => h) (Or.inl ⟨by rfl, ?_⟩) (by assumption) ?_
              rotate_left
              · (intro w hSw; go_simp; try (with_reducible rfl))
              try simp only [Act.put, List.getElem_toArray, List.getElem_cons_zero, List.getElem_cons_succ, List.setIfInBounds_toArray, List.set_cons_zero, List.set_cons_succ]
              refine wpAnyH_ready (rs := [8]) (by kernel_rfl) (by simp) ?_
              refine ready_one rfl rfl (fun K hK => ?_)
              go_wp2_with fail
              refine hK.out _ _ hS9 (fun hHeldb => ?_)
              clear hK K HO7 HN7 HOw HGw HFw hb8 hcc hcf HS6d hc7
              try simp only [Act.put, List.getElem_toArray, List.getElem_cons_zero, List.getElem_cons_succ]
              refine wpAnyH_done (by kernel_rfl) ?_ _
              refine NoPanic.normal ?_
              generalize (w8.setCell ⟨w.heap.size, 0, none⟩ (.slice a8 ly.length c8)) = V8 at *
              have HRf : Hid (nm8 s L f (i + 1) ly nz az = R) := Lib.hid (by rw [← HLY.out, ← HLZ.out, List.append_assoc]; exact HR.out)
              have hlyl : ly.length ≤ 100000 + (i + 1) * 1000 := by
                have e : p.data.toList.length = p.size := Array.length_toList
                rw [← HLY.out, List.length_append, e, HLZ2.out]
                omega
              clear HR HLY HLZ HLZ2 HSD7 HSk CL
              go_wp2_with fail
              go_roundw
              case rel => exact ⟨i + 1, f, ly, nz, az, _, _, _, by omega, by omega, by go_num, hlyl, hns2, HL2, HSM2, HAT2, HS8, HRf⟩
              case measure => simp [intOf]; omega
          · rw [if_neg h16, if_neg h16] at HR
            have hd13 : decide ((l.length : Int) < 16384) = false := decide_eq_false (by omega)
            have hd13n : decide (l.length < 16384) = false := decide_eq_false h16
            have hq0 := HS3.out.box.c0
            go_upto_region 16 with fail
            clear hq0
            obtain ⟨gL, hgL, hcL⟩ : ∃ gL, aL = some ⟨gL, 0, none⟩ ∧ w3.cell? ⟨gL, i, none⟩ = some (.string (L.getD i ⟨#[]⟩)) := by
              rcases HS3.out.lab with ⟨_, _, h0⟩ | ⟨g, rfl, h⟩
              · rw [h0] at HN; have := HN.out; simp at this; omega
              · exact ⟨g, rfl, h.cells i (by rw [HN.out]; exact hiN)⟩
            subst hgL
            have hfr := HS3.out.fresh gL rfl
            have hzp : (L.getD i ⟨#[]⟩).size ≤ 900 := getD_small HLS.out i
            generalize L.getD i ⟨#[]⟩ = p at *
            obtain ⟨S, hS⟩ : ∃ S : World → Prop, (fun W => W.cell? ⟨gL, i, none⟩ = some (.string p)) = S := ⟨_, rfl⟩
            have CL : Hid (∀ w', S w' → w'.cell? ⟨gL, i, none⟩ = some (.string p)) := Lib.hid (fun w' h => by rw [← hS] at h; exact h)
            have HSk : Hid (∀ A A', S A → A'.heap[gL]? = A.heap[gL]? → S A') := Lib.hid (fun A A' h hk => by rw [← hS] at h ⊢; exact (World.cell?_of_block (a := ⟨gL, i, none⟩) hk).trans h)
            have HSD : Hid (S w3.drew) := Lib.hid (by rw [← hS]; exact hcL)
            have HS5d := Lib.hid (HS3.out.below (Below.refl _ _).drew)
            have hb1 : (0 : Int) ≤ (i : Int) := by omega
            have hb2 : (i : Int) < (N : Int) := by omega
            clear hS hcL HS3
            refine wp_region_noPanic ?_
            refine wp_region_held_drew (S := S) (by kernel_rfl) HSD.out (fun hHeld => ?_)
            generalize w3.drew = V at *
            have HSx := Lib.hid (HS5d.out.below (wr' := V.alloc (.cells #[.int .u8 ((p.size : Int) % 256)] 5)) ((Below.refl _ _).alloc (Nat.le_refl _) _))
            have HO1 := Lib.hid HSx.out.rb
            have HC1 : Hid (∀ j u, (bys [UInt8.ofNat p.size])[j]? = some u → (V.alloc (.cells #[.int .u8 ((p.size : Int) % 256)] 5)).cell? ⟨V.heap.size, j, none⟩ = some u) := Lib.hid (fun j u hu => cells_new8 V [.int .u8 ((p.size : Int) % 256)] 5 j u (by rw [← bys_one]; exact hu))
            have HN1 : Hid (l.length + ([UInt8.ofNat p.size] : List UInt8).length ≤ 1000000000 ∧ B ≤ (V.alloc (.cells #[.int .u8 ((p.size : Int) % 256)] 5)).heap.size) := Lib.hid ⟨by simp; omega, by have := HSx.out.base; have := HSx.out.sz; have := HSx.out.two; omega⟩
            have hSx := HSk.out V (V.alloc (.cells #[.int .u8 ((p.size : Int) % 256)] 5)) HSD.out (((Below.refl _ _).alloc (Nat.le_refl _) _).block gL (by have := HS5d.out.sz; omega))
            have hc0 := HS5d.out.box.c0
            have hx0 := HSx.out.box.c0
            clear HS5d
            refine wpAnyH_take (i := 0) (v := ?_) rfl (by kernel_rfl) (by kernel_rfl) (by kernel_rfl) (fun _ _ _ h => h) (Or.inl ⟨by rfl, ?_⟩) (by assumption) ?_
            rotate_left
            · (intro w hSw; go_simp; try (with_reducible rfl))
            try simp only [Act.put, List.getElem_toArray, List.getElem_cons_zero, List.setIfInBounds_toArray, List.set_cons_zero, List.set_cons_succ]
            refine wpAnyH_take (i := 2) (v := ?_) rfl (by kernel_rfl) (by kernel_rfl) (by kernel_rfl) (fun _ _ _ h => h) (Or.inl ⟨by rfl, ?_⟩) (by assumption) ?_
            rotate_left
            · (intro w hSw; go_simp; try (with_reducible rfl))
            try simp only [Act.put, List.getElem_toArray, List.getElem_cons_zero, List.getElem_cons_succ, List.setIfInBounds_toArray, List.set_cons_zero, List.set_cons_succ]
            refine wpAnyH_take (i := 3) (v := ?_) rfl (by kernel_rfl) (by kernel_rfl) (by kernel_rfl) (fun _ _ _ h => h) (Or.inl ⟨by rfl, ?_⟩) (by assumption) ?_
            rotate_left
            · (intro w hSw; go_simp; try (with_reducible rfl))
            try simp only [Act.put, List.getElem_toArray, List.getElem_cons_zero, List.getElem_cons_succ, List.setIfInBounds_toArray, List.set_cons_zero, List.set_cons_succ]
            refine wpAnyH_take (i := 4) (v := ?_) rfl (by kernel_rfl) (by kernel_rfl) (by kernel_rfl) (fun _ _ _ h => h) (Or.inl ⟨by rfl, ?_⟩) (by assumption) ?_
            rotate_left
            · (intro w hSw; go_simp; try (with_reducible rfl))
            try simp only [Act.put, List.getElem_toArray, List.getElem_cons_zero, List.getElem_cons_succ, List.setIfInBounds_toArray, List.set_cons_zero, List.set_cons_succ]
            refine wpAnyH_take (i := 5) (v := ?_) rfl (by kernel_rfl) (by kernel_rfl) (by kernel_rfl) (fun _ _ _ h => h) (Or.inl ⟨by rfl, ?_⟩) (by assumption) ?_
            rotate_left
            · (intro w hSw; have hc0 := CL.out w hSw; go_simp; try (with_reducible rfl))
            try simp only [Act.put, List.getElem_toArray, List.getElem_cons_zero, List.getElem_cons_succ, List.setIfInBounds_toArray, List.set_cons_zero, List.set_cons_succ]
            refine wpAnyH_take (i := 6) (v := ?_) rfl (by kernel_rfl) (by kernel_rfl) (by kernel_rfl) (fun _ _ _ h => h) (Or.inl ⟨by rfl, ?_⟩) (by assumption) ?_
            rotate_left
            · (intro w hSw; go_simp; try (with_reducible rfl))
            try simp only [Act.put, List.getElem_toArray, List.getElem_cons_zero, List.getElem_cons_succ, List.setIfInBounds_toArray, List.set_cons_zero, List.set_cons_succ]
            refine wpAnyH_take (i := 7) (v := ?_) rfl (by kernel_rfl) (by kernel_rfl) (by kernel_rfl) (fun _ _ _ h => h) (Or.inl ⟨by rfl, ?_⟩) (by assumption) ?_
            rotate_left
            · (intro w hSw; go_simp; try (with_reducible rfl))
            try simp only [Act.put, List.getElem_toArray, List.getElem_cons_zero, List.getElem_cons_succ, List.setIfInBounds_toArray, List.set_cons_zero, List.set_cons_succ]
            refine wpAnyH_ready (rs := [1, 8]) (by kernel_rfl) (by simp) ?_
            refine AllReadyH.cons rfl (fun K hK => ?_) (ready_one rfl rfl (fun K hK => ?_))
            · rw [if_pos (by rfl)]
              go_wp2_with fail
              refine hK.out _ _ hHeld (fun hHeld1 => ?_)
              clear hK K
              try simp only [Act.put, List.getElem_toArray, List.getElem_cons_zero, List.getElem_cons_succ, List.setIfInBounds_toArray, List.set_cons_zero, List.set_cons_succ]
              refine wpAnyH_ready (rs := [8]) (by kernel_rfl) (by simp) ?_
              refine ready_one rfl rfl (fun K hK => ?_)
              go_wp2_with fail
              refine hK.out _ _ hSx (fun hHeld2 => ?_)
              clear hK K
              try simp only [Act.put, List.getElem_toArray, List.getElem_cons_zero, List.getElem_cons_succ, List.setIfInBounds_toArray, List.set_cons_zero, List.set_cons_succ]
              refine wpAnyH_ready (rs := [9]) (by kernel_rfl) (by simp) ?_
              refine ready_one rfl rfl (fun K hK => ?_)
              refine wp_append_bytes (m := [UInt8.ofNat p.size]) HO1 HC1 HN1 _ _ rfl rfl rfl (fun v6 w6 HOw HGw HFw => ?_)
              obtain ⟨lz, hlz⟩ : ∃ lz, l ++ [UInt8.ofNat p.size] = lz := ⟨_, rfl⟩
              rw [hlz] at HOw
              have HLZ := Lib.hid hlz
              clear hlz
              obtain ⟨a6, c6, hv6⟩ := own_slice HOw.out
              subst hv6
              have hb6 := HSx.out.box.kept (w' := w6) (HGw.out.block _ HSx.out.box.lt (fun e => by have := HSx.out.two; rcases HSx.out.away _ (mem_blk3.2 (.inl e.symm)) with e | e <;> omega))
              have hcc := hb6.c0
              have hcf := hb6.f0
              have hS6 := HSk.out _ w6 hSx (HGw.out.block gL (Nat.lt_of_lt_of_le hfr.2 HSx.out.sz) (fun e => by rcases HSx.out.away _ (mem_blk3.2 (.inl e.symm)) with e | e <;> omega))
              refine hK.out _ _ hS6 (fun hHeld6 => ?_)
              clear hK K
              try simp only [Act.put, List.getElem_toArray, List.getElem_cons_zero, List.getElem_cons_succ, List.setIfInBounds_toArray, List.set_cons_zero, List.set_cons_succ]
              have HS6 := Lib.hid (HSx.out.put0 HOw.out HGw.out HFw.out)
              refine wpAnyH_take (i := 10) (v := ?_) rfl (by kernel_rfl) (by kernel_rfl) (by kernel_rfl) (fun _ _ _ h => h) (Or.inl ⟨by rfl, ?_⟩) (by assumption) ?_
              rotate_left
              · (intro w hSw; go_simp; try (with_reducible rfl))
              try simp only [Act.put, List.getElem_toArray, List.getElem_cons_zero, List.getElem_cons_succ, List.setIfInBounds_toArray, List.set_cons_zero, List.set_cons_succ]
              have hS7 := HSk.out _ (w6.setCell ⟨w.heap.size, 0, none⟩ (.slice a6 lz.length c6)) hS6 (Below.heap_setCell w6 ⟨w.heap.size, 0, none⟩ _ gL (show gL ≠ w.heap.size by omega))
              refine wpAnyH_ready (rs := [11]) (by kernel_rfl) (by simp) ?_
              refine ready_one rfl rfl (fun K hK => ?_)
              go_wp2_with fail
              refine hK.out _ _ hS7 (fun hHeld7 => ?_)
              clear hK K HO1 HC1 HN1 HOw HGw HFw hb6 hcc hcf HSx
              try simp only [Act.put, List.getElem_toArray, List.getElem_cons_zero, List.getElem_cons_succ]
              refine wpAnyH_done (by kernel_rfl) ?_ _
              refine NoPanic.normal ?_
              generalize (w6.setCell ⟨w.heap.size, 0, none⟩ (.slice a6 lz.length c6)) = V6 at *
              have HLZ2 : Hid (lz.length = l.length + 1) := Lib.hid (by rw [← HLZ.out]; simp)
              have HS6d := Lib.hid (HS6.out.below (Below.refl _ _).drew)
              have HSD7 : Hid (S V6.drew) := Lib.hid (HSk.out V6 V6.drew hS7 rfl)
              clear HS6 hS7
              go_wp2_with fail
              refine wp_region_noPanic ?_
              refine wp_region_held_drew (S := S) (by kernel_rfl) HSD7.out (fun hHeld8 => ?_)
              generalize V6.drew = V7 at *
              have hc7 := HS6d.out.box.c0
              have HO7 := Lib.hid HS6d.out.rb
              have HN7 : Hid (lz.length + p.size ≤ 1000000000 ∧ B ≤ V7.heap.size) := Lib.hid ⟨by have := HLZ2.out; omega, by have := HS6d.out.base; have := HS6d.out.sz; have := HS6d.out.two; omega⟩
              refine wpAnyH_take (i := 0) (v := ?_) rfl (by kernel_rfl) (by kernel_rfl) (by kernel_rfl) (fun _ _ _ h => h) (Or.inl ⟨by rfl, ?_⟩) (by assumption) ?_
              rotate_left
              · (intro w hSw; go_simp; try (with_reducible rfl))
              try simp only [Act.put, List.getElem_toArray, List.getElem_cons_zero, List.setIfInBounds_toArray, List.set_cons_zero, List.set_cons_succ]
              refine wpAnyH_take (i := 2) (v := ?_) rfl (by kernel_rfl) (by kernel_rfl) (by kernel_rfl) (fun _ _ _ h => h) (Or.inl ⟨by rfl, ?_⟩) (by assumption) ?_
              rotate_left
              · (intro w hSw; go_simp; try (with_reducible rfl))
              try simp only [Act.put, List.getElem_toArray, List.getElem_cons_zero, List.getElem_cons_succ, List.setIfInBounds_toArray, List.set_cons_zero, List.set_cons_succ]
              refine wpAnyH_take (i := 3) (v := ?_) rfl (by kernel_rfl) (by kernel_rfl) (by kernel_rfl) (fun _ _ _ h => h) (Or.inl ⟨by rfl, ?_⟩) (by assumption) ?_
              rotate_left
              · (intro w hSw; go_simp; try (with_reducible rfl))
              try simp only [Act.put, List.getElem_toArray, List.getElem_cons_zero, List.getElem_cons_succ, List.setIfInBounds_toArray, List.set_cons_zero, List.set_cons_succ]
              refine wpAnyH_take (i := 4) (v := ?_) rfl (by kernel_rfl) (by kernel_rfl) (by kernel_rfl) (fun _ _ _ h => h) (Or.inl ⟨by rfl, ?_⟩) (by assumption) ?_
              rotate_left
              · (intro w hSw; go_simp; try (with_reducible rfl))
              try simp only [Act.put, List.getElem_toArray, List.getElem_cons_zero, List.getElem_cons_succ, List.setIfInBounds_toArray, List.set_cons_zero, List.set_cons_succ]
              refine wpAnyH_take (i := 5) (v := ?_) rfl (by kernel_rfl) (by kernel_rfl) (by kernel_rfl) (fun _ _ _ h => h) (Or.inl ⟨by rfl, ?_⟩) (by assumption) ?_
              rotate_left
              · (intro w hSw; have hc0 := CL.out w hSw; go_simp; try (with_reducible rfl))
              try simp only [Act.put, List.getElem_toArray, List.getElem_cons_zero, List.getElem_cons_succ, List.setIfInBounds_toArray, List.set_cons_zero, List.set_cons_succ]
              refine wpAnyH_ready (rs := [1]) (by kernel_rfl) (by simp) ?_
              refine AllReadyH.cons rfl (fun K hK => ?_) AllReadyH.nil
              rw [if_pos (by rfl)]
              go_wp2_with fail
              refine hK.out _ _ HSD7.out (fun hHeld9 => ?_)
              clear hK K
              try simp only [Act.put, List.getElem_toArray, List.getElem_cons_zero, List.getElem_cons_succ, List.setIfInBounds_toArray, List.set_cons_zero, List.set_cons_succ]
              refine wpAnyH_ready (rs := [6]) (by kernel_rfl) (by simp) ?_
              refine ready_one rfl rfl (fun K hK => ?_)
              refine wp_append_text (s := p) HO7 HN7 _ _ rfl rfl rfl (fun v8 w8 HOw HGw HFw => ?_)
              obtain ⟨ly, hly⟩ : ∃ ly, lz ++ p.data.toList = ly := ⟨_, rfl⟩
              rw [hly] at HOw
              have HLY := Lib.hid hly
              clear hly
              obtain ⟨a8, c8, hv8⟩ := own_slice HOw.out
              subst hv8
              have hb8 := HS6d.out.box.kept (w' := w8) (HGw.out.block _ HS6d.out.box.lt (fun e => by have := HS6d.out.two; rcases HS6d.out.away _ (mem_blk3.2 (.inl e.symm)) with e | e <;> omega))
              have hcc := hb8.c0
              have hcf := hb8.f0
              have hS8 := HSk.out _ w8 HSD7.out (HGw.out.block gL (Nat.lt_of_lt_of_le hfr.2 HS6d.out.sz) (fun e => by rcases HS6d.out.away _ (mem_blk3.2 (.inl e.symm)) with e | e <;> omega))
              refine hK.out _ _ hS8 (fun hHelda => ?_)
              clear hK K
              try simp only [Act.put, List.getElem_toArray, List.getElem_cons_zero, List.getElem_cons_succ, List.setIfInBounds_toArray, List.set_cons_zero, List.set_cons_succ]
              have HS8 := Lib.hid (HS6d.out.put0 HOw.out HGw.out HFw.out)
              have hS9 := HSk.out _ (w8.setCell ⟨w.heap.size, 0, none⟩ (.slice a8 ly.length c8)) hS8 (Below.heap_setCell w8 ⟨w.heap.size, 0, none⟩ _ gL (show gL ≠ w.heap.size by omega))
              refine wpAnyH_take (i := 7) (v := ?_) rfl (by kernel_rfl) (by kernel_rfl) (by kernel_rfl) (fun _ _ _ h => h) (Or.inl ⟨by rfl, ?_⟩) (by assumption) ?_
              rotate_left
              · (intro w hSw; go_simp; try (with_reducible rfl))
              try simp only [Act.put, List.getElem_toArray, List.getElem_cons_zero, List.getElem_cons_succ, List.setIfInBounds_toArray, List.set_cons_zero, List.set_cons_succ]
              refine wpAnyH_ready (rs := [8]) (by kernel_rfl) (by simp) ?_
              refine ready_one rfl rfl (fun K hK => ?_)
              go_wp2_with fail
              refine hK.out _ _ hS9 (fun hHeldb => ?_)
              clear hK K HO7 HN7 HOw HGw HFw hb8 hcc hcf HS6d hc7
              try simp only [Act.put, List.getElem_toArray, List.getElem_cons_zero, List.getElem_cons_succ]
              refine wpAnyH_done (by kernel_rfl) ?_ _
              refine NoPanic.normal ?_
              generalize (w8.setCell ⟨w.heap.size, 0, none⟩ (.slice a8 ly.length c8)) = V8 at *
              have HRf : Hid (nm8 s L f (i + 1) ly ns ats = R) := Lib.hid (by rw [← HLY.out, ← HLZ.out, List.append_assoc]; exact HR.out)
              have hlyl : ly.length ≤ 100000 + (i + 1) * 1000 := by
                have e : p.data.toList.length = p.size := Array.length_toList
                rw [← HLY.out, List.length_append, e, HLZ2.out]
                omega
              clear HR HLY HLZ HLZ2 HSD7 HSk CL
              go_wp2_with fail
              go_roundw
              case rel => exact ⟨i + 1, f, ly, ns, ats, _, _, _, by omega, by omega, by go_num, hlyl, by omega, HLEN, HSM, HAT, HS8, HRf⟩
              case measure => simp [intOf]; omega
            · go_wp2_with fail
              refine hK.out _ _ hSx (fun hHeld1 => ?_)
              clear hK K
              try simp only [Act.put, List.getElem_toArray, List.getElem_cons_zero, List.getElem_cons_succ, List.setIfInBounds_toArray, List.set_cons_zero, List.set_cons_succ]
              generalize (V.alloc (.cells #[.int .u8 ((p.size : Int) % 256)] 5)) = X at *
              generalize V.heap.size = GX at *
              refine wpAnyH_ready (rs := [1]) (by kernel_rfl) (by simp) ?_
              refine AllReadyH.cons rfl (fun K hK => ?_) AllReadyH.nil
              rw [if_pos (by rfl)]
              go_wp2_with fail
              refine hK.out _ _ hSx (fun hHeld2 => ?_)
              clear hK K
              try simp only [Act.put, List.getElem_toArray, List.getElem_cons_zero, List.getElem_cons_succ, List.setIfInBounds_toArray, List.set_cons_zero, List.set_cons_succ]
              refine wpAnyH_ready (rs := [9]) (by kernel_rfl) (by simp) ?_
              refine ready_one rfl rfl (fun K hK => ?_)
              refine wp_append_bytes (m := [UInt8.ofNat p.size]) HO1 HC1 HN1 _ _ rfl rfl rfl (fun v6 w6 HOw HGw HFw => ?_)
              obtain ⟨lz, hlz⟩ : ∃ lz, l ++ [UInt8.ofNat p.size] = lz := ⟨_, rfl⟩
              rw [hlz] at HOw
              have HLZ := Lib.hid hlz
              clear hlz
              obtain ⟨a6, c6, hv6⟩ := own_slice HOw.out
              subst hv6
              have hb6 := HSx.out.box.kept (w' := w6) (HGw.out.block _ HSx.out.box.lt (fun e => by have := HSx.out.two; rcases HSx.out.away _ (mem_blk3.2 (.inl e.symm)) with e | e <;> omega))
              have hcc := hb6.c0
              have hcf := hb6.f0
              have hS6 := HSk.out _ w6 hSx (HGw.out.block gL (Nat.lt_of_lt_of_le hfr.2 HSx.out.sz) (fun e => by rcases HSx.out.away _ (mem_blk3.2 (.inl e.symm)) with e | e <;> omega))
              refine hK.out _ _ hS6 (fun hHeld6 => ?_)
              clear hK K
              try simp only [Act.put, List.getElem_toArray, List.getElem_cons_zero, List.getElem_cons_succ, List.setIfInBounds_toArray, List.set_cons_zero, List.set_cons_succ]
              have HS6 := Lib.hid (HSx.out.put0 HOw.out HGw.out HFw.out)
              refine wpAnyH_take (i := 10) (v := ?_) rfl (by kernel_rfl) (by kernel_rfl) (by kernel_rfl) (fun _ _ _ h => h) (Or.inl ⟨by rfl, ?_⟩) (by assumption) ?_
              rotate_left
              · (intro w hSw; go_simp; try (with_reducible rfl))
              try simp only [Act.put, List.getElem_toArray, List.getElem_cons_zero, List.getElem_cons_succ, List.setIfInBounds_toArray, List.set_cons_zero, List.set_cons_succ]
              have hS7 := HSk.out _ (w6.setCell ⟨w.heap.size, 0, none⟩ (.slice a6 lz.length c6)) hS6 (Below.heap_setCell w6 ⟨w.heap.size, 0, none⟩ _ gL (show gL ≠ w.heap.size by omega))
              refine wpAnyH_ready (rs := [11]) (by kernel_rfl) (by simp) ?_
              refine ready_one rfl rfl (fun K hK => ?_)
              go_wp2_with fail
              refine hK.out _ _ hS7 (fun hHeld7 => ?_)
              clear hK K HO1 HC1 HN1 HOw HGw HFw hb6 hcc hcf HSx
              try simp only [Act.put, List.getElem_toArray, List.getElem_cons_zero, List.getElem_cons_succ]
              refine wpAnyH_done (by kernel_rfl) ?_ _
              refine NoPanic.normal ?_
              generalize (w6.setCell ⟨w.heap.size, 0, none⟩ (.slice a6 lz.length c6)) = V6 at *
              have HLZ2 : Hid (lz.length = l.length + 1) := Lib.hid (by rw [← HLZ.out]; simp)
              have HS6d := Lib.hid (HS6.out.below (Below.refl _ _).drew)
              have HSD7 : Hid (S V6.drew) := Lib.hid (HSk.out V6 V6.drew hS7 rfl)
              clear HS6 hS7
              go_wp2_with fail
              refine wp_region_noPanic ?_
              refine wp_region_held_drew (S := S) (by kernel_rfl) HSD7.out (fun hHeld8 => ?_)
              generalize V6.drew = V7 at *
              have hc7 := HS6d.out.box.c0
              have HO7 := Lib.hid HS6d.out.rb
              have HN7 : Hid (lz.length + p.size ≤ 1000000000 ∧ B ≤ V7.heap.size) := Lib.hid ⟨by have := HLZ2.out; omega, by have := HS6d.out.base; have := HS6d.out.sz; have := HS6d.out.two; omega⟩
              refine wpAnyH_take (i := 0) (v := ?_) rfl (by kernel_rfl) (by kernel_rfl) (by kernel_rfl) (fun _ _ _ h => h) (Or.inl ⟨by rfl, ?_⟩) (by assumption) ?_
              rotate_left
              · (intro w hSw; go_simp; try (with_reducible rfl))
              try simp only [Act.put, List.getElem_toArray, List.getElem_cons_zero, List.setIfInBounds_toArray, List.set_cons_zero, List.set_cons_succ]
              refine wpAnyH_take (i := 2) (v := ?_) rfl (by kernel_rfl) (by kernel_rfl) (by kernel_rfl) (fun _ _ _ h => h) (Or.inl ⟨by rfl, ?_⟩) (by assumption) ?_
              rotate_left
              · (intro w hSw; go_simp; try (with_reducible rfl))
              try simp only [Act.put, List.getElem_toArray, List.getElem_cons_zero, List.getElem_cons_succ, List.setIfInBounds_toArray, List.set_cons_zero, List.set_cons_succ]
              refine wpAnyH_take (i := 3) (v := ?_) rfl (by kernel_rfl) (by kernel_rfl) (by kernel_rfl) (fun _ _ _ h => h) (Or.inl ⟨by rfl, ?_⟩) (by assumption) ?_
              rotate_left
              · (intro w hSw; go_simp; try (with_reducible rfl))
              try simp only [Act.put, List.getElem_toArray, List.getElem_cons_zero, List.getElem_cons_succ, List.setIfInBounds_toArray, List.set_cons_zero, List.set_cons_succ]
              refine wpAnyH_take (i := 4) (v := ?_) rfl (by kernel_rfl) (by kernel_rfl) (by kernel_rfl) (fun _ _ _ h => h) (Or.inl ⟨by rfl, ?_⟩) (by assumption) ?_
              rotate_left
              · (intro w hSw; go_simp; try (with_reducible rfl))
              try simp only [Act.put, List.getElem_toArray, List.getElem_cons_zero, List.getElem_cons_succ, List.setIfInBounds_toArray, List.set_cons_zero, List.set_cons_succ]
              refine wpAnyH_take (i := 5) (v := ?_) rfl (by kernel_rfl) (by kernel_rfl) (by kernel_rfl) (fun _ _ _ h => h) (Or.inl ⟨by rfl, ?_⟩) (by assumption) ?_
              rotate_left
              · (intro w hSw; have hc0 := CL.out w hSw; go_simp; try (with_reducible rfl))
              try simp only [Act.put, List.getElem_toArray, List.getElem_cons_zero, List.getElem_cons_succ, List.setIfInBounds_toArray, List.set_cons_zero, List.set_cons_succ]
              refine wpAnyH_ready (rs := [1]) (by kernel_rfl) (by simp) ?_
              refine AllReadyH.cons rfl (fun K hK => ?_) AllReadyH.nil
              rw [if_pos (by rfl)]
              go_wp2_with fail
              refine hK.out _ _ HSD7.out (fun hHeld9 => ?_)
              clear hK K
              try simp only [Act.put, List.getElem_toArray, List.getElem_cons_zero, List.getElem_cons_succ, List.setIfInBounds_toArray, List.set_cons_zero, List.set_cons_succ]
              refine wpAnyH_ready (rs := [6]) (by kernel_rfl) (by simp) ?_
              refine ready_one rfl rfl (fun K hK => ?_)
              refine wp_append_text (s := p) HO7 HN7 _ _ rfl rfl rfl (fun v8 w8 HOw HGw HFw => ?_)
              obtain ⟨ly, hly⟩ : ∃ ly, lz ++ p.data.toList = ly := ⟨_, rfl⟩
              rw [hly] at HOw
              have HLY := Lib.hid hly
              clear hly
              obtain ⟨a8, c8, hv8⟩ := own_slice HOw.out
              subst hv8
              have hb8 := HS6d.out.box.kept (w' := w8) (HGw.out.block _ HS6d.out.box.lt (fun e => by have := HS6d.out.two; rcases HS6d.out.away _ (mem_blk3.2 (.inl e.symm)) with e | e <;> omega))
              have hcc := hb8.c0
              have hcf := hb8.f0
              have hS8 := HSk.out _ w8 HSD7.out (HGw.out.block gL (Nat.lt_of_lt_of_le hfr.2 HS6d.out.sz) (fun e => by rcases HS6d.out.away _ (mem_blk3.2 (.inl e.symm)) with e | e <;> omega))
              refine hK.out _ _ hS8 (fun hHelda => ?_)
              clear hK K
              try simp only [Act.put, List.getElem_toArray, List.getElem_cons_zero, List.getElem_cons_succ, List.setIfInBounds_toArray, List.set_cons_zero, List.set_cons_succ]
              have HS8 := Lib.hid (HS6d.out.put0 HOw.out HGw.out HFw.out)
              have hS9 := HSk.out _ (w8.setCell ⟨w.heap.size, 0, none⟩ (.slice a8 ly.length c8)) hS8 (Below.heap_setCell w8 ⟨w.heap.size, 0, none⟩ _ gL (show gL ≠ w.heap.size by omega))
              refine wpAnyH_take (i := 7) (v := ?_) rfl (by kernel_rfl) (by kernel_rfl) (by kernel_rfl) (fun _ _ _ h => h) (Or.inl ⟨by rfl, ?_⟩) (by assumption) ?_
              rotate_left
              · (intro w hSw; go_simp; try (with_reducible rfl))
              try simp only [Act.put, List.getElem_toArray, List.getElem_cons_zero, List.getElem_cons_succ, List.setIfInBounds_toArray, List.set_cons_zero, List.set_cons_succ]
              refine wpAnyH_ready (rs := [8]) (by kernel_rfl) (by simp) ?_
              refine ready_one rfl rfl (fun K hK => ?_)
              go_wp2_with fail
              refine hK.out _ _ hS9 (fun hHeldb => ?_)
              clear hK K HO7 HN7 HOw HGw HFw hb8 hcc hcf HS6d hc7
              try simp only [Act.put, List.getElem_toArray, List.getElem_cons_zero, List.getElem_cons_succ]
              refine wpAnyH_done (by kernel_rfl) ?_ _
              refine NoPanic.normal ?_
              generalize (w8.setCell ⟨w.heap.size, 0, none⟩ (.slice a8 ly.length c8)) = V8 at *
              have HRf : Hid (nm8 s L f (i + 1) ly ns ats = R) := Lib.hid (by rw [← HLY.out, ← HLZ.out, List.append_assoc]; exact HR.out)
              have hlyl : ly.length ≤ 100000 + (i + 1) * 1000 := by
                have e : p.data.toList.length = p.size := Array.length_toList
                rw [← HLY.out, List.length_append, e, HLZ2.out]
                omega
              clear HR HLY HLZ HLZ2 HSD7 HSk CL
              go_wp2_with fail
              go_roundw
              case rel => exact ⟨i + 1, f, ly, ns, ats, _, _, _, by omega, by omega, by go_num, hlyl, by omega, HLEN, HSM, HAT, HS8, HRf⟩
              case measure => simp [intOf]; omega
        · rw [show nxI (some n) = (n : Int) from rfl] at HFI
          have hn := HMEM.out n rfl
          go_wp2_with fail
          refine HFI.out.mono ?_
          rintro e w3 ⟨rfl, hb3⟩
          have HS3 := Lib.hid (HS2.out.below hb3)
          clear hb3 HFI HS2 hc0 hc1 hc2
          try simp only at HR
          have hd10 : decide ((0 : Int) ≤ (n : Int)) = true := decide_eq_true (by omega)
          obtain ⟨mm, hm2, hmm, hbm⟩ := ptr_two n hn
          rw [hmm] at HR
          have HBM := Lib.hid hbm
          have HM2 := Lib.hid hm2
          have ER := HR.out.symm
          subst ER
          clear HMEM HR hmm hbm hm2
          have HSx := Lib.hid (HS3.out.below (wr' := w3.alloc (.cells #[.int .u8 (192 + (n : Int) / 256), .int .u8 ((n : Int) % 256)] 5)) ((Below.refl _ _).alloc (Nat.le_refl _) _))
          have HO1 := Lib.hid HSx.out.rb
          have HC1 : Hid (∀ j u, (bys mm)[j]? = some u → (w3.alloc (.cells #[.int .u8 (192 + (n : Int) / 256), .int .u8 ((n : Int) % 256)] 5)).cell? ⟨w3.heap.size, j, none⟩ = some u) := Lib.hid (fun j u hu => cells_new8 w3 [.int .u8 (192 + (n : Int) / 256), .int .u8 ((n : Int) % 256)] 5 j u (by rw [← HBM.out]; exact hu))
          have HN1 : Hid (l.length + mm.length ≤ 1000000000 ∧ B ≤ (w3.alloc (.cells #[.int .u8 (192 + (n : Int) / 256), .int .u8 ((n : Int) % 256)] 5)).heap.size) := Lib.hid ⟨by have := HM2.out; omega, by have := HSx.out.base; have := HSx.out.sz; have := HSx.out.two; omega⟩
          have hc0 := HS3.out.box.c0
          go_upto_region 12 with (at_builtin; refine wpList_plain rfl (fun K hK => wp_append_bytes (m := mm) HO1 HC1 HN1 _ _ rfl rfl (by rw [HM2.out]; rfl) (fun v2 w4 HOw HGw HFw => hK _ _ ?_)); obtain ⟨lz, hlz⟩ : ∃ lz, l ++ mm = lz := ⟨_, rfl⟩; rw [hlz] at HOw; have HLZ := Lib.hid hlz; clear hlz; obtain ⟨a2, c2, hv2⟩ := own_slice HOw.out; subst hv2; have hb4 := HSx.out.box.kept (w' := w4) (HGw.out.block _ HSx.out.box.lt (fun e => by have := HSx.out.two; rcases HSx.out.away _ (mem_blk3.2 (.inl e.symm)) with e | e <;> omega)); have hcc := hb4.c0; have hcf := hb4.f0)
          have HSz := Lib.hid (HSx.out.put0 HOw.out HGw.out HFw.out)
          clear HSx HO1 HC1 HN1 HOw HGw HFw hb4 hcc hcf hc0 HS3
          generalize (w4.setCell ⟨w.heap.size, 0, none⟩ (.slice a2 lz.length c2)) = V at *
          have hc0 := HSz.out.box.c0
          have hc1 := HSz.out.box.c1
          have hc2 := HSz.out.box.c2
          have hd0 := HSz.out.res.c0
          have hd1 := HSz.out.res.c1
          have hd2 := HSz.out.res.c2
          have he0 := HSz.out.res.f0
          have he1 := HSz.out.res.f1
          have he2 := HSz.out.res.f2
          have HE := Lib.hid (name_laid (m := true) HSz.out.rb HSz.out.rn HSz.out.ra HSz.out.foot (fun k hk => by have := HSz.out.two; rcases HSz.out.away k hk with e | e <;> omega))
          have HX := Lib.hid (HSz.out.res.laid (.slice a2 lz.length c2) (.slice aN ns.length cN) (.slice aA ats.length cA))
          go_wp2_with fail
          try simp only [Exit.inBlock, Exit.then]
          refine bodyPost_ret (results_W Try.results29 rfl HX.out) rfl ?_
          rw [HLZ.out]
          exact HE.out
      · have hd : decide ((i : Int) < (N : Int)) = false := decide_eq_false (by omega)
        have hdn : decide (i < N) = false := decide_eq_false hiN
        rw [if_pos (by omega)] at HR
        have ER := HR.out
        subst ER
        have HS3 := HST
        clear HST
        have HSx := Lib.hid (HS3.out.below (wr' := wr.alloc (.cells #[.int .u8 0] 5)) ((Below.refl _ _).alloc (Nat.le_refl _) _))
        have HO1 := Lib.hid HSx.out.rb
        have HC1 : Hid (∀ j u, (bys [0])[j]? = some u → (wr.alloc (.cells #[.int .u8 0] 5)).cell? ⟨wr.heap.size, j, none⟩ = some u) := Lib.hid (fun j u hu => cells_new8 wr [.int .u8 0] 5 j u hu)
        have HN1 : Hid (l.length + ([0] : List UInt8).length ≤ 1000000000 ∧ B ≤ (wr.alloc (.cells #[.int .u8 0] 5)).heap.size) := Lib.hid ⟨by simp; omega, by have := HSx.out.base; have := HSx.out.sz; have := HSx.out.two; omega⟩
        have hc0 := HS3.out.box.c0
        go_upto_region 19 with (at_builtin; refine wpList_plain rfl (fun K hK => wp_append_bytes (m := [0]) HO1 HC1 HN1 _ _ rfl rfl rfl (fun v2 w4 HOw HGw HFw => hK _ _ ?_)); obtain ⟨lz, hlz⟩ : ∃ lz, l ++ [0] = lz := ⟨_, rfl⟩; rw [hlz] at HOw; have HLZ := Lib.hid hlz; clear hlz; obtain ⟨a2, c2, hv2⟩ := own_slice HOw.out; subst hv2; have hb4 := HSx.out.box.kept (w' := w4) (HGw.out.block _ HSx.out.box.lt (fun e => by have := HSx.out.two; rcases HSx.out.away _ (mem_blk3.2 (.inl e.symm)) with e | e <;> omega)); have hcc := hb4.c0; have hcf := hb4.f0)
        have HSz := Lib.hid (HSx.out.put0 HOw.out HGw.out HFw.out)
        clear HSx HO1 HC1 HN1 HOw HGw HFw hb4 hcc hcf hc0 HS3
        generalize (w4.setCell ⟨w.heap.size, 0, none⟩ (.slice a2 lz.length c2)) = V at *
        have hc0 := HSz.out.box.c0
        have hc1 := HSz.out.box.c1
        have hc2 := HSz.out.box.c2
        have hd0 := HSz.out.res.c0
        have hd1 := HSz.out.res.c1
        have hd2 := HSz.out.res.c2
        have he0 := HSz.out.res.f0
        have he1 := HSz.out.res.f1
        have he2 := HSz.out.res.f2
        have HE := Lib.hid (name_laid (m := true) HSz.out.rb HSz.out.rn HSz.out.ra HSz.out.foot (fun k hk => by have := HSz.out.two; rcases HSz.out.away k hk with e | e <;> omega))
        have HX := Lib.hid (HSz.out.res.laid (.slice a2 lz.length c2) (.slice aN ns.length cN) (.slice aA ats.length cA))
        go_wp2_with fail
        try simp only [Exit.inBlock, Exit.then]
        refine bodyPost_ret (results_W Try.results29 rfl HX.out) rfl ?_
        rw [HLZ.out]
        exact HE.out
end Go.Proofs.Ytbeoapfbddcpcaa
/- Contract of the landed writer's note. -/
namespace Go.Proofs.Ytbeoapfbddcpcaa
open Go.RowKit Go.Maps
set_option linter.unusedVariables false
set_option maxRecDepth 20000

/-- What note leaves. -/
def NoteRet (w : World) (G B : Nat) (vB : Value) (m : Option Nat) (l : List UInt8) (ns : List ByteArray) (ats : List Nat) (e : Ending) (w' : World) : Prop :=
  e = .returned (.tuple #[]) ∧ ∃ m', WrAt w' G B vB m' l ns ats ∧ Foot (wblk G vB m) (wblk G vB m') w w'
set_option maxRecDepth 100000 in
set_option maxHeartbeats 1000000 in
theorem note_any {w : World} {G B : Nat} {vB : Value} {m : Option Nat} {l : List UInt8} {ns : List ByteArray} {ats : List Nat} (x : ByteArray) (h : WrAt w G B vB m l ns ats) (hx : x.size ≤ 1000000) (hl : l.length ≤ 1000000) (hns : ns.length ≤ 1000000) (hla : ats.length = ns.length) (hf : find8 ns ats x = none) (hB : B ≤ w.heap.size) :
    Calls Try.prog 46 #[.pointer (some ⟨G, 0, none⟩), .string x] w (NoteRet w G B vB m l (if l.length < 16384 then ns ++ [x] else ns) (if l.length < 16384 then ats ++ [l.length] else ats)) := by
  have HLEN := Lib.hid (wlen_any h)
  have HH := Lib.hid h
  by_cases hbig : l.length < 16384
  · rw [if_pos hbig, if_pos hbig]
    have hd : decide ((16384 : Int) ≤ (l.length : Int)) = false := decide_eq_false (by omega)
    have hdn : decide (16384 ≤ l.length) = false := decide_eq_false (by omega)
    have hc1 := h.c1
    have hf1 := h.f1
    have HHF := Lib.hid hf
    have HLA := Lib.hid hla
    have qm : ∀ (w : World) (a : Option Nat), (binOp .eql 41 (.map a) (.map none)).run Try.prog w = .ok (.bool a.isNone) w := fun w a => by cases a <;> rfl
    have hmm := @run_makeMap Try.prog
    -- what is left: the store, from a world in which the map is there
    have FIN : ∀ (b : Nat) (V : World), Hid (WrAt V G B vB (some b) l ns ats → Foot (wblk G vB m) (wblk G vB (some b)) w V → ∃ V', (Instr.mapUpdate 41 (.map (some b)) (.string x) (.int .i64 (l.length : Int))).run Try.prog V = .ok () V' ∧ V'.cell? ⟨G, 1, none⟩ = some (.map (some b)) ∧ NoteRet w G B vB m l (ns ++ [x]) (ats ++ [l.length]) (.returned (.tuple #[])) V') := fun b V => Lib.hid (fun hV hFo => by
      obtain ⟨V', hr, hm, hg⟩ := hV.mp.store x l.length hx hl hns HLA.out HHF.out
      have R := hV.noted hm hg
      exact ⟨V', hr, R.1.c1, rfl, _, R.1, hFo.trans R.2⟩)
    clear h hf hla
    go_enter Try.func46, Try.ntmps46
    go_wp2_with fail
    refine HLEN.out.mono ?_
    rintro e w1 ⟨rfl, rfl⟩
    cases m with
    | none =>
      have R := HH.out.made hB
      obtain ⟨V, hV⟩ : ∃ V, ((w1.alloc (.map #[] 0)).setCell ⟨G, 1, none⟩ (.map (some w1.heap.size))) = V := ⟨_, rfl⟩
      rw [hV] at R
      have HFI := Lib.hid ((FIN _ V.drew).out (R.1.below ((Below.refl _ _).drew)) (R.2.trans (Foot.ofBelow _ ((Below.refl _ _).drew))))
      have HLE2 := Lib.hid (wlen_any (R.1.below ((Below.refl _ _).drew)))
      have hcd : V.drew.cell? ⟨G, 1, none⟩ = some (.map (some w1.heap.size)) := R.1.c1
      have hg1 := (bcell (W := w1) (w1 := w1.alloc (.map #[] 0)) ((Below.refl _ _).alloc (Nat.le_refl _) _)).1 G 1 HH.out.lt
      have hg2 := (bcell (W := w1) (w1 := w1.alloc (.map #[] 0)) ((Below.refl _ _).alloc (Nat.le_refl _) _)).2 G 1 HH.out.lt
      rw [hc1] at hg1
      rw [hf1] at hg2
      clear R FIN HLEN
      go_upto_region 3 with fail
      try rw [hV]
      generalize hgb : w1.heap.size = b at *
      obtain ⟨V', hrun, hcell', HNR⟩ := HFI.out
      have HN2 := Lib.hid HNR
      have HRUN := Lib.hid hrun
      clear HNR HFI hrun hV
      refine wp_region_noPanic ?_
      obtain ⟨S, hS⟩ : ∃ S : World → Prop, (fun W => W.cell? ⟨G, 1, none⟩ = some (.map (some b))) = S := ⟨_, rfl⟩
      have C1 : Hid (∀ w', S w' → w'.cell? ⟨G, 1, none⟩ = some (.map (some b))) := Lib.hid (fun w' h => by rw [← hS] at h; exact h)
      have HSS : Hid (S V.drew) := Lib.hid (by rw [← hS]; exact hcd)
      have HS2 : Hid (S V') := Lib.hid (by rw [← hS]; exact hcell')
      clear hS hcell'
      refine wp_region_held_drew (S := S) (by kernel_rfl) HSS.out (fun hHeld => ?_)
      generalize V.drew = U at *
      refine wpAnyH_take (i := 0) (v := ?_) rfl (by kernel_rfl) (by kernel_rfl) (by kernel_rfl) (fun _ _ _ h => h) (Or.inl ⟨by rfl, ?_⟩) (by assumption) ?_
      rotate_left
      · (intro w hSw; go_simp; try (with_reducible rfl))
      try simp only [Act.put, List.getElem_toArray, List.getElem_cons_zero, List.setIfInBounds_toArray, List.set_cons_zero, List.set_cons_succ]
      refine wpAnyH_take (i := 1) (v := ?_) rfl (by kernel_rfl) (by kernel_rfl) (by kernel_rfl) (fun _ _ _ h => h) (Or.inl ⟨by rfl, ?_⟩) (by assumption) ?_
      rotate_left
      · (intro w hSw; go_simp; try (with_reducible rfl))
      try simp only [Act.put, List.getElem_toArray, List.getElem_cons_zero, List.getElem_cons_succ, List.setIfInBounds_toArray, List.set_cons_zero, List.set_cons_succ]
      refine wpAnyH_take (i := 2) (v := ?_) rfl (by kernel_rfl) (by kernel_rfl) (by kernel_rfl) (fun _ _ _ h => h) (Or.inl ⟨by rfl, ?_⟩) (by assumption) ?_
      rotate_left
      · (intro w hSw; go_simp; try (with_reducible rfl))
      try simp only [Act.put, List.getElem_toArray, List.getElem_cons_zero, List.getElem_cons_succ, List.setIfInBounds_toArray, List.set_cons_zero, List.set_cons_succ]
      refine wpAnyH_take (i := 3) (v := ?_) rfl (by kernel_rfl) (by kernel_rfl) (by kernel_rfl) (fun _ _ _ h => h) (Or.inl ⟨by rfl, ?_⟩) (by assumption) ?_
      rotate_left
      · (intro w hSw; have hc0 := C1.out w hSw; go_simp; try (with_reducible rfl))
      try simp only [Act.put, List.getElem_toArray, List.getElem_cons_zero, List.getElem_cons_succ, List.setIfInBounds_toArray, List.set_cons_zero, List.set_cons_succ]
      refine wpAnyH_take (i := 4) (v := ?_) rfl (by kernel_rfl) (by kernel_rfl) (by kernel_rfl) (fun _ _ _ h => h) (Or.inl ⟨by rfl, ?_⟩) (by assumption) ?_
      rotate_left
      · (intro w hSw; go_simp; try (with_reducible rfl))
      try simp only [Act.put, List.getElem_toArray, List.getElem_cons_zero, List.getElem_cons_succ, List.setIfInBounds_toArray, List.set_cons_zero, List.set_cons_succ]
      refine wpAnyH_take (i := 5) (v := ?_) rfl (by kernel_rfl) (by kernel_rfl) (by kernel_rfl) (fun _ _ _ h => h) (Or.inl ⟨by rfl, ?_⟩) (by assumption) ?_
      rotate_left
      · (intro w hSw; go_simp; try (with_reducible rfl))
      try simp only [Act.put, List.getElem_toArray, List.getElem_cons_zero, List.getElem_cons_succ, List.setIfInBounds_toArray, List.set_cons_zero, List.set_cons_succ]
      refine wpAnyH_ready (rs := [6]) (by kernel_rfl) (by simp) ?_
      refine AllReadyH.cons rfl (fun K hK => ?_) AllReadyH.nil
      go_simp
      refine HLE2.out.mono ?_
      rintro e w2 ⟨rfl, rfl⟩
      go_wp2_with fail
      refine hK.out _ _ HSS.out (fun hHeld => ?_)
      clear hK K
      try simp only [Act.put, List.getElem_toArray, List.getElem_cons_zero, List.getElem_cons_succ, List.setIfInBounds_toArray, List.set_cons_zero, List.set_cons_succ]
      refine wpAnyH_ready (rs := [7]) (by kernel_rfl) (by simp) ?_
      refine ready_one rfl rfl (fun K hK => ?_)
      have hrun2 := HRUN.out
      go_wp2_with fail
      refine hK.out _ _ HS2.out (fun hHeldb => ?_)
      clear hK K
      refine wpAnyH_done (by kernel_rfl) ?_ _
      refine NoPanic.normal ?_
      clear hrun2 HRUN hcd HSS C1 HS2 hHeld hHeldb hg1 hg2 hc1
      go_wp2_with fail
      go_end0
      exact HN2.out
    | some b =>
      have HFI := Lib.hid ((FIN b w1.drew).out (HH.out.below ((Below.refl _ _).drew)) (Foot.ofBelow _ ((Below.refl _ _).drew)))
      have HLE2 := Lib.hid (wlen_any (HH.out.below ((Below.refl w1.heap.size w1).drew)))
      have hcd : w1.drew.cell? ⟨G, 1, none⟩ = some (.map (some b)) := hc1
      clear FIN HLEN
      go_upto_region 3 with fail
      obtain ⟨V', hrun, hcell', HNR⟩ := HFI.out
      have HN2 := Lib.hid HNR
      have HRUN := Lib.hid hrun
      clear HNR HFI hrun
      refine wp_region_noPanic ?_
      obtain ⟨S, hS⟩ : ∃ S : World → Prop, (fun W => W.cell? ⟨G, 1, none⟩ = some (.map (some b))) = S := ⟨_, rfl⟩
      have C1 : Hid (∀ w', S w' → w'.cell? ⟨G, 1, none⟩ = some (.map (some b))) := Lib.hid (fun w' h => by rw [← hS] at h; exact h)
      have HSS : Hid (S w1.drew) := Lib.hid (by rw [← hS]; exact hcd)
      have HS2 : Hid (S V') := Lib.hid (by rw [← hS]; exact hcell')
      clear hS hcell'
      refine wp_region_held_drew (S := S) (by kernel_rfl) HSS.out (fun hHeld => ?_)
      generalize w1.drew = U at *
      refine wpAnyH_take (i := 0) (v := ?_) rfl (by kernel_rfl) (by kernel_rfl) (by kernel_rfl) (fun _ _ _ h => h) (Or.inl ⟨by rfl, ?_⟩) (by assumption) ?_
      rotate_left
      · (intro w hSw; go_simp; try (with_reducible rfl))
      try simp only [Act.put, List.getElem_toArray, List.getElem_cons_zero, List.setIfInBounds_toArray, List.set_cons_zero, List.set_cons_succ]
      refine wpAnyH_take (i := 1) (v := ?_) rfl (by kernel_rfl) (by kernel_rfl) (by kernel_rfl) (fun _ _ _ h => h) (Or.inl ⟨by rfl, ?_⟩) (by assumption) ?_
      rotate_left
      · (intro w hSw; go_simp; try (with_reducible rfl))
      try simp only [Act.put, List.getElem_toArray, List.getElem_cons_zero, List.getElem_cons_succ, List.setIfInBounds_toArray, List.set_cons_zero, List.set_cons_succ]
      refine wpAnyH_take (i := 2) (v := ?_) rfl (by kernel_rfl) (by kernel_rfl) (by kernel_rfl) (fun _ _ _ h => h) (Or.inl ⟨by rfl, ?_⟩) (by assumption) ?_
      rotate_left
      · (intro w hSw; go_simp; try (with_reducible rfl))
      try simp only [Act.put, List.getElem_toArray, List.getElem_cons_zero, List.getElem_cons_succ, List.setIfInBounds_toArray, List.set_cons_zero, List.set_cons_succ]
      refine wpAnyH_take (i := 3) (v := ?_) rfl (by kernel_rfl) (by kernel_rfl) (by kernel_rfl) (fun _ _ _ h => h) (Or.inl ⟨by rfl, ?_⟩) (by assumption) ?_
      rotate_left
      · (intro w hSw; have hc0 := C1.out w hSw; go_simp; try (with_reducible rfl))
      try simp only [Act.put, List.getElem_toArray, List.getElem_cons_zero, List.getElem_cons_succ, List.setIfInBounds_toArray, List.set_cons_zero, List.set_cons_succ]
      refine wpAnyH_take (i := 4) (v := ?_) rfl (by kernel_rfl) (by kernel_rfl) (by kernel_rfl) (fun _ _ _ h => h) (Or.inl ⟨by rfl, ?_⟩) (by assumption) ?_
      rotate_left
      · (intro w hSw; go_simp; try (with_reducible rfl))
      try simp only [Act.put, List.getElem_toArray, List.getElem_cons_zero, List.getElem_cons_succ, List.setIfInBounds_toArray, List.set_cons_zero, List.set_cons_succ]
      refine wpAnyH_take (i := 5) (v := ?_) rfl (by kernel_rfl) (by kernel_rfl) (by kernel_rfl) (fun _ _ _ h => h) (Or.inl ⟨by rfl, ?_⟩) (by assumption) ?_
      rotate_left
      · (intro w hSw; go_simp; try (with_reducible rfl))
      try simp only [Act.put, List.getElem_toArray, List.getElem_cons_zero, List.getElem_cons_succ, List.setIfInBounds_toArray, List.set_cons_zero, List.set_cons_succ]
      refine wpAnyH_ready (rs := [6]) (by kernel_rfl) (by simp) ?_
      refine AllReadyH.cons rfl (fun K hK => ?_) AllReadyH.nil
      go_simp
      refine HLE2.out.mono ?_
      rintro e w2 ⟨rfl, rfl⟩
      go_wp2_with fail
      refine hK.out _ _ HSS.out (fun hHeld => ?_)
      clear hK K
      try simp only [Act.put, List.getElem_toArray, List.getElem_cons_zero, List.getElem_cons_succ, List.setIfInBounds_toArray, List.set_cons_zero, List.set_cons_succ]
      refine wpAnyH_ready (rs := [7]) (by kernel_rfl) (by simp) ?_
      refine ready_one rfl rfl (fun K hK => ?_)
      have hrun2 := HRUN.out
      go_wp2_with fail
      refine hK.out _ _ HS2.out (fun hHeldb => ?_)
      clear hK K
      refine wpAnyH_done (by kernel_rfl) ?_ _
      refine NoPanic.normal ?_
      clear hrun2 HRUN hcd HSS C1 HS2 hHeld hHeldb hc1
      go_wp2_with fail
      go_end0
      exact HN2.out
  · rw [if_neg hbig, if_neg hbig]
    have hd : decide ((16384 : Int) ≤ (l.length : Int)) = true := decide_eq_true (by omega)
    have hdn : decide (16384 ≤ l.length) = true := decide_eq_true (by omega)
    clear h hf
    go_enter Try.func46, Try.ntmps46
    go_wp2_with fail
    refine HLEN.out.mono ?_
    rintro e w1 ⟨rfl, rfl⟩
    go_wp2_with fail
    go_end0
    exact ⟨rfl, m, HH.out, Foot.ofBelow _ (Below.refl _ _)⟩
end Go.Proofs.Ytbeoapfbddcpcaa
/- Contracts of the landed writer's Name, and of Bytes. -/
namespace Go.Proofs.Ytbeoapfbddcpcaa
open Go.RowKit Go.Maps
set_option linter.unusedVariables false
set_option maxRecDepth 20000

/-- What Name leaves. -/
def WNameRet (w : World) (G B : Nat) (F0 : List Nat) (b : Bool) (R : List UInt8 × List ByteArray × List Nat) (e : Ending) (w' : World) : Prop :=
  e = .returned (.bool b) ∧ ∃ vB m, WrAt w' G B vB m R.1 R.2.1 R.2.2 ∧ Foot F0 (wblk G vB m) w w'
/-- A label's bytes as a conversion lays them. -/
theorem conv_below (w : World) (s : ByteArray) : Below w.heap.size w (Lib.bytesWorld w 5 s) := ⟨rfl, rfl, rfl, by rw [Lib.bytesWorld_size]; omega, fun k hk => Lib.bytesWorld_at_old w _ s k hk⟩
theorem conv_cells (w : World) (s : ByteArray) : ∀ j u, (bys s.data.toList)[j]? = some u → (Lib.bytesWorld w 5 s).cell? ⟨w.heap.size, j, none⟩ = some u := by
  intro j u hu
  have hj : j < s.size := by
    have := (List.getElem?_eq_some_iff.1 hu).1
    rw [bys_length, data_size] at this
    exact this
  rw [Lib.bytesWorld_cell w _ s j hj]
  have hj2 : j < s.data.toList.length := by rw [data_size]; exact hj
  unfold bys at hu
  rw [List.getElem?_map, List.getElem?_eq_getElem hj2] at hu
  rw [List.getD_eq_getElem?_getD, List.getElem?_eq_getElem hj2]
  exact hu
theorem bys_sz {p : ByteArray} (h : p.size ≤ 63) : bys [UInt8.ofNat p.size] = [.int .u8 (p.size : Int)] := by
  rw [bys_one]
  congr 2
  omega
set_option maxRecDepth 100000 in
set_option maxHeartbeats 4000000 in
theorem name_any {w : World} {G B : Nat} {vB0 : Value} {m0 : Option Nat} {l0 : List UInt8} {ns0 : List ByteArray} {ats0 : List Nat} (s : ByteArray) (h : WrAt w G B vB0 m0 l0 ns0 ats0) (hs : s.size ≤ 1000000) (hl : l0.length ≤ 100000) (hns : ns0.length ≤ 100000) (hla : ats0.length = ns0.length) (hat : ∀ a ∈ ats0, a < 16384) (hB : B ≤ w.heap.size) :
    Calls Try.prog 30 #[.pointer (some ⟨G, 0, none⟩), .string s] w (WNameRet w G B (wblk G vB0 m0) (mayN s) (if mayN s = true then nm8 s (labelsB s) ((labelsB s).length + 1) 0 l0 ns0 ats0 else (l0, ns0, ats0))) := by
  have HMA := Lib.hid (may_any s w hs)
  have HH := Lib.hid h
  cases hmay : mayN s with
  | false =>
    rw [hmay] at HMA
    rw [if_neg (by decide)]
    clear h hat hmay
    go_enter Try.func30, Try.ntmps30
    go_wp2_with fail
    refine HMA.out.mono ?_
    rintro e w1 ⟨rfl, hb⟩
    have HB1 := Lib.hid hb
    clear hb HMA
    go_wp2_with fail
    go_ret
    exact ⟨rfl, _, _, HH.out.below HB1.out, Foot.ofBelow _ HB1.out⟩
  | true =>
    rw [hmay] at HMA
    rw [if_pos rfl]
    have HFU := Lib.hid (may_full hmay)
    have HSM := Lib.hid (may_small hmay)
    have HLB := Lib.hid (may_label hmay)
    have hs253 := may_small hmay
    obtain ⟨N, hN⟩ : ∃ N, (labelsB s).length = N := ⟨_, rfl⟩
    have HN := Lib.hid hN
    have hNs : N ≤ s.size + 1 := by rw [← hN]; exact labels_len s
    obtain ⟨R, hR⟩ : ∃ R, nm8 s (labelsB s) ((labelsB s).length + 1) 0 l0 ns0 ats0 = R := ⟨_, rfl⟩
    have HR := Lib.hid hR
    rw [hR]
    rw [hN] at HR
    have HLA := Lib.hid hla
    have HAT := Lib.hid hat
    have HHB := HH
    clear h hla hat hmay hR hN
    go_enter Try.func30, Try.ntmps30
    go_wp2_with fail
    refine HMA.out.mono ?_
    rintro e w1 ⟨rfl, hb⟩
    have HW1 := Lib.hid (HH.out.below hb)
    have HF1 := Lib.hid (Foot.ofBelow (wblk G vB0 m0) hb)
    have hsz1 := hb.size
    clear hb HMA HH HHB
    have HR0 := Lib.hid (rest_zero s)
    go_wp2_with fail
    go_loopw [5] (fun v wr => ∃ (i f : Nat) (l : List UInt8) (ns : List ByteArray) (ats : List Nat) (vB : Value) (m : Option Nat), i ≤ N ∧ N + 1 = i + f ∧ v = .string (restB s i) ∧ l.length ≤ 100000 + i * 1000 ∧ ns.length ≤ 100000 + i ∧ Hid (ats.length = ns.length) ∧ Hid (∀ a ∈ ats, a < 16384) ∧ Hid (nm8 s (labelsB s) f i l ns ats = R) ∧ Hid (WrAt wr G B vB m l ns ats) ∧ Hid (Foot (wblk G vB0 m0) (wblk G vB m) w wr)) (fun v _ => strSz v)
    case atStart => exact ⟨0, N + 1, l0, ns0, ats0, vB0, m0, Nat.zero_le _, by omega, by rw [HR0.out], by omega, by omega, HLA, HAT, HR, HW1, HF1⟩
    case round =>
      clear HW1 HF1 HR0 HR HLA HAT
      obtain ⟨i, f0, l, ns, ats, vB, m, hi, hif, rfl, hll, hnn, HLA, HAT, HR, HW, HF⟩ := hrel
      obtain ⟨f, rfl⟩ : ∃ f, f0 = f + 1 := ⟨f0 - 1, by omega⟩
      have hBw : B ≤ wr.heap.size := by have := HF.out.size; omega
      have hrl := rest_le s i
      have HRP := Lib.hid (rest_pos HFU.out i)
      by_cases hiN : i < N
      · have hrp : 0 < (restB s i).size := HRP.out.2 (by rw [HN.out]; exact hiN)
        have he := isEmpty_false (restB s i) hrp
        have HFI := Lib.hid (label_first HFU.out i (by rw [HN.out]; exact hiN))
        have hflab := HLB.out (firstB (restB s i)) (by
          rw [← HFI.out]
          have h : i < (labelsB s).length := by rw [HN.out]; exact hiN
          rw [List.getD_eq_getElem?_getD, List.getElem?_eq_getElem h]
          exact List.getElem_mem h)
        have hplt := par_lt (restB s i) hrp
        have hfl1 := hflab.1
        have hfl2 := hflab.2
        unfold nm8 at HR
        rw [HN.out, if_neg (by omega), HFI.out] at HR
        have hlook := HW.out.mp.look (restB s i) (by omega)
        have hc1 := HW.out.c1
        have HMEM := Lib.hid (fun n => fun (h : find8 ns ats (restB s i) = some n) => HAT.out n (find8_mem ns ats (restB s i) n h))
        have HNO := Lib.hid (fun (h : find8 ns ats (restB s i) = none) => note_any (restB s i) HW.out (by omega) (by omega) (by omega) HLA.out h hBw)
        have HCU := fun W => Lib.hid (cut8_any (restB s i) W (by omega))
        have HRN := Lib.hid (rest_par i s)
        generalize firstB (restB s i) = p at *
        generalize parB (restB s i) = r2 at *
        cases hfind : find8 ns ats (restB s i) with
        | some n =>
          rw [hfind] at hlook HR
          have hn := HMEM.out n hfind
          obtain ⟨mm, hm2, hmm, hbm⟩ := ptr_two n hn
          simp only at HR
          rw [hmm] at HR
          have HBM := Lib.hid hbm
          have HM2 := Lib.hid hm2
          have ER := HR.out.symm
          subst ER
          have hlk : (Instr.lookup 41 (.map m) (.string (restB s i)) true).run Try.prog wr = .ok (.tuple #[.int .i64 (n : Int), .bool true]) wr := hlook
          clear HMEM hmm hbm hm2 HNO HCU hlook hfind HRN HFI HR
          generalize restB s i = r at *
          have hsh : (n : Int) / 256 < 64 := by omega
          have hw1 : IntKind.u8.wrap ((n : Int) / 256) = (n : Int) / 256 := by rw [IntKind.wrap_u8]; omega
          have hor : bits .or .u8 192 ((n : Int) / 256) = 192 + (n : Int) / 256 := bits_join .u8 8 (by decide) (fun n h0 h1 => by rw [IntKind.wrap_u8]; omega) 6 192 ((n : Int) / 256) (by omega) (by omega) (by omega) (by omega) (by omega) (by omega)
          have HSx := Lib.hid (HW.out.below (w' := wr.alloc (.cells #[.int .u8 (192 + (n : Int) / 256), .int .u8 ((n : Int) % 256)] 5)) ((Below.refl _ _).alloc (Nat.le_refl _) _))
          have HC1 : Hid (∀ j u, (bys mm)[j]? = some u → (wr.alloc (.cells #[.int .u8 (192 + (n : Int) / 256), .int .u8 ((n : Int) % 256)] 5)).cell? ⟨wr.heap.size, j, none⟩ = some u) := Lib.hid (fun j u hu => cells_new8 wr [.int .u8 (192 + (n : Int) / 256), .int .u8 ((n : Int) % 256)] 5 j u (by rw [← HBM.out]; exact hu))
          have HRA := Lib.hid (raw_any (c := 2) mm HSx.out HC1.out (by have := HM2.out; omega) (by simp; omega))
          rw [HM2.out] at HRA
          have HFx := Lib.hid (HF.out.trans (Foot.ofBelow (wblk G vB m) (w' := wr.alloc (.cells #[.int .u8 (192 + (n : Int) / 256), .int .u8 ((n : Int) % 256)] 5)) ((Below.refl _ _).alloc (Nat.le_refl _) _)))
          go_wp2_with fail
          refine HRA.out.mono ?_
          rintro e w2 ⟨rfl, vB', hW2, hF2⟩
          have HW2 := Lib.hid hW2
          have HF2 := Lib.hid (HFx.out.trans hF2)
          clear hW2 hF2 HRA HFx HSx HC1 hc1 hlk
          go_wp2_with fail
          go_ret
          exact ⟨rfl, _, _, HW2.out, HF2.out⟩
        | none =>
          rw [hfind] at hlook HR
          have HNT := Lib.hid (HNO.out hfind)
          simp only at HR
          have hlk : (Instr.lookup 41 (.map m) (.string (restB s i)) true).run Try.prog wr = .ok (.tuple #[.int .i64 0, .bool false]) wr := hlook
          clear HMEM HNO hlook hfind HFI
          obtain ⟨ns2, hns2⟩ : ∃ ns2, (if l.length < 16384 then ns ++ [restB s i] else ns) = ns2 := ⟨_, rfl⟩
          obtain ⟨ats2, hats2⟩ : ∃ ats2, (if l.length < 16384 then ats ++ [l.length] else ats) = ats2 := ⟨_, rfl⟩
          have hthree : ats2.length = ns2.length ∧ ns2.length ≤ 100000 + (i + 1) ∧ ∀ a ∈ ats2, a < 16384 := by
            have h1 := HLA.out
            by_cases hb : l.length < 16384
            · rw [if_pos hb] at hns2 hats2
              rw [← hns2, ← hats2]
              refine ⟨by simp [h1], by simp; omega, fun a ha => ?_⟩
              rcases List.mem_append.1 ha with ha | ha
              · exact HAT.out a ha
              · rw [List.mem_singleton.1 ha]; exact hb
            · rw [if_neg hb] at hns2 hats2
              rw [← hns2, ← hats2]
              exact ⟨h1, by omega, HAT.out⟩
          have HLA2 := Lib.hid hthree.1
          have hnn2 := hthree.2.1
          have HAT2 := Lib.hid hthree.2.2
          clear hthree
          rw [hns2, hats2] at HNT HR
          clear hns2 hats2 HLA HAT
          generalize restB s i = r at *
          go_wp2_with fail
          refine HNT.out.mono ?_
          rintro e w2 ⟨rfl, m2, hW2, hF2⟩
          have HW2 := Lib.hid hW2
          have HF2 := Lib.hid (HF.out.trans hF2)
          have hsz2 := hF2.size
          clear hW2 hF2 HNT hc1 hlk HW HF
          go_wp2_with fail
          refine (HCU _).out.mono ?_
          rintro e w3 ⟨rfl, hb3⟩
          have HW3 := Lib.hid (HW2.out.below hb3)
          have HF3 := Lib.hid (HF2.out.trans (Foot.ofBelow _ hb3))
          have hsz3 := hb3.size
          clear hb3 HCU HW2 HF2
          have HSx := Lib.hid (HW3.out.below (w' := w3.alloc (.cells #[.int .u8 (p.size : Int)] 5)) ((Below.refl _ _).alloc (Nat.le_refl _) _))
          have HC1 : Hid (∀ j u, (bys [UInt8.ofNat p.size])[j]? = some u → (w3.alloc (.cells #[.int .u8 (p.size : Int)] 5)).cell? ⟨w3.heap.size, j, none⟩ = some u) := Lib.hid (fun j u hu => cells_new8 w3 [.int .u8 (p.size : Int)] 5 j u (by rw [← bys_sz hflab.2]; exact hu))
          have HRA := Lib.hid (raw_any (c := 1) [UInt8.ofNat p.size] HSx.out HC1.out (by simp; omega) (by simp; omega))
          have HFx := Lib.hid (HF3.out.trans (Foot.ofBelow (wblk G vB m2) (w' := w3.alloc (.cells #[.int .u8 (p.size : Int)] 5)) ((Below.refl _ _).alloc (Nat.le_refl _) _)))
          obtain ⟨lz, hlz⟩ : ∃ lz, l ++ [UInt8.ofNat p.size] = lz := ⟨_, rfl⟩
          rw [hlz] at HRA
          have HLZ := Lib.hid hlz
          have hlzl : lz.length = l.length + 1 := by rw [← hlz]; simp
          clear hlz
          go_wp2_with fail
          refine HRA.out.mono ?_
          rintro e w4 ⟨rfl, vB4, hW4, hF4⟩
          have HW4 := Lib.hid hW4
          have HF4 := Lib.hid (HFx.out.trans hF4)
          have hsz4 := hF4.size
          simp at hsz4
          clear hW4 hF4 HRA HFx HSx HC1 HF3 HW3
          have hconv := Lib.run_convert_string_bytes (P := Try.prog) w4 9 24 5 p Try.underlying9 Try.underlying24 Try.underlying5
          have HCB := Lib.hid (conv_below w4 p)
          have HCC := Lib.hid (conv_cells w4 p)
          generalize Lib.bytesWorld w4 5 p = W5 at *
          generalize grownCap w4 p.size 0 5 = cap5 at *
          have HSy := Lib.hid (HW4.out.below HCB.out)
          have HRB := Lib.hid (raw_any (c := cap5) p.data.toList HSy.out HCC.out (by rw [data_size]; omega) (by have := HCB.out.size; omega))
          rw [data_size] at HRB
          have HFy := Lib.hid (HF4.out.trans (Foot.ofBelow (wblk G vB4 m2) HCB.out))
          clear HCC HSy HCB HF4 HW4
          go_wp2_with fail
          refine HRB.out.mono ?_
          rintro e w6 ⟨rfl, vB6, hW6, hF6⟩
          have HW6 := Lib.hid hW6
          have HF6 := Lib.hid (HFy.out.trans hF6)
          clear hW6 hF6 HRB HFy hconv
          obtain ⟨ly, hly⟩ : ∃ ly, lz ++ p.data.toList = ly := ⟨_, rfl⟩
          rw [hly] at HW6
          have hlyl : ly.length ≤ 100000 + (i + 1) * 1000 := by
            rw [← hly, List.length_append, data_size]
            omega
          have HRf : Hid (nm8 s (labelsB s) f (i + 1) ly ns2 ats2 = R) := Lib.hid (by rw [← hly, ← HLZ.out, List.append_assoc]; exact HR.out)
          clear HR hly HLZ
          go_wp2_with fail
          go_roundw
          case rel => exact ⟨i + 1, f, ly, ns2, ats2, vB6, m2, by omega, by omega, by rw [HRN.out], hlyl, hnn2, HLA2, HAT2, HRf, HW6, HF6⟩
          case measure => simp [strSz]; omega
      · obtain rfl : i = N := by omega
        have hr0 : (restB s i).size = 0 := by
          have := HRP.out
          rw [HN.out] at this
          omega
        have he := isEmpty_true (restB s i) hr0
        unfold nm8 at HR
        rw [HN.out, if_pos (Nat.le_refl _)] at HR
        have ER := HR.out.symm
        subst ER
        generalize restB s i = r at *
        have HSx := Lib.hid (HW.out.below (w' := wr.alloc (.cells #[.int .u8 0] 5)) ((Below.refl _ _).alloc (Nat.le_refl _) _))
        have HC1 : Hid (∀ j u, (bys [0])[j]? = some u → (wr.alloc (.cells #[.int .u8 0] 5)).cell? ⟨wr.heap.size, j, none⟩ = some u) := Lib.hid (fun j u hu => cells_new8 wr [.int .u8 0] 5 j u hu)
        have HRA := Lib.hid (raw_any (c := 1) [0] HSx.out HC1.out (by simp; omega) (by simp; omega))
        have HFx := Lib.hid (HF.out.trans (Foot.ofBelow (wblk G vB m) (w' := wr.alloc (.cells #[.int .u8 0] 5)) ((Below.refl _ _).alloc (Nat.le_refl _) _)))
        clear HR HRP
        go_wp2_with fail
        refine HRA.out.mono ?_
        rintro e w2 ⟨rfl, vB', hW2, hF2⟩
        have HW2 := Lib.hid hW2
        have HF2 := Lib.hid (HFx.out.trans hF2)
        clear hW2 hF2 HRA HFx HSx HC1
        go_wp2_with fail
        go_ret
        exact ⟨rfl, _, _, HW2.out, HF2.out⟩
end Go.Proofs.Ytbeoapfbddcpcaa
/- Contract of the landed Bytes; lives of layer 8. -/
namespace Go.Proofs.Ytbeoapfbddcpcaa
open Go.RowKit Go.Maps
set_option linter.unusedVariables false
set_option maxRecDepth 20000

/-- No two rests of one name are the same: a writer's first name is never shortened. -/
theorem find8_longer : ∀ (ns : List ByteArray) (ats : List Nat) (x : ByteArray), (∀ n ∈ ns, x.size < n.size) → find8 ns ats x = none := by
  intro ns ats x h
  refine find8_none ns ats x (fun j hj e => ?_)
  have := h _ (List.getElem_mem hj)
  rw [e] at this
  omega
theorem nm8_first (s : ByteArray) (hf : Full s) : ∀ (f i : Nat) (ns : List ByteArray) (ats : List Nat), (labelsB s).length + 1 = i + f → i ≤ (labelsB s).length → (∀ n ∈ ns, (restB s i).size < n.size) → (nm8 s (labelsB s) f i (bytesTo (labelsB s) i) ns ats).1 = bytesL (labelsB s)
  | 0, i, ns, ats, h, hi, _ => by omega
  | f + 1, i, ns, ats, h, hi, hn => by
    unfold nm8
    by_cases hl : (labelsB s).length ≤ i
    · rw [if_pos hl]
      have : i = (labelsB s).length := by omega
      rw [this]
      rfl
    · rw [if_neg hl, find8_longer ns ats _ hn]
      have hlt : (restB s (i + 1)).size < (restB s i).size := by rw [rest_par]; exact par_lt _ ((rest_pos hf i).2 (by omega))
      refine nm8_first s hf f (i + 1) _ _ (by omega) (by omega) (fun n hm => ?_)
      split at hm
      · rcases List.mem_append.1 hm with hm | hm
        · exact Nat.lt_trans hlt (hn n hm)
        · rw [List.mem_singleton.1 hm]; exact hlt
      · exact Nat.lt_trans hlt (hn n hm)
theorem nm8_bytes {s : ByteArray} (h : mayN s = true) : (nm8 s (labelsB s) ((labelsB s).length + 1) 0 [] [] []).1 = bytesL (labelsB s) :=
  nm8_first s (may_full h) _ 0 [] [] (by omega) (Nat.zero_le _) (fun n hn => by cases hn)
/-- What is written has so many bytes. -/
theorem bytesTo_size (l : List ByteArray) : ∀ k, (bytesTo l k).length + 1 = sizeTo l k
  | 0 => rfl
  | k + 1 => by
    have h := bytesTo_size l k
    have e : sizeTo l (k + 1) = sizeTo l k + 1 + (l.getD k ⟨#[]⟩).size := rfl
    have e2 : (bytesTo l (k + 1)).length = (bytesTo l k).length + (1 + (l.getD k ⟨#[]⟩).size) := by
      show (bytesTo l k ++ labL _).length = _
      rw [List.length_append]
      unfold labL
      rw [List.length_cons, data_size]
      omega
    omega
theorem bytesL_size (l : List ByteArray) : (bytesL l).length = sizeL l := by
  unfold bytesL sizeL
  rw [List.length_append, ← bytesTo_size]
  rfl
theorem chainB {a b c : World} (h : Below a.heap.size a b) (k : Below a.heap.size b c) : Below a.heap.size a c := h.trans k
/-- What Bytes hands back. -/
def bytes8 (s : ByteArray) : List UInt8 := if mayN s = true then bytesL (labelsB s) else []
theorem bytes8_size (s : ByteArray) : (bytes8 s).length ≤ 255 := by
  unfold bytes8
  split
  · rename_i h
    rw [bytesL_size]
    exact (of_decide_eq_true h : MayL _).2
  · exact Nat.zero_le _
def errI (s : ByteArray) : Int := if mayN s = true then 0 else 1
set_option maxRecDepth 100000 in
set_option maxHeartbeats 1000000 in
theorem bytes8_any (s : ByteArray) (w : World) (hs : s.size ≤ 1000000) :
    Calls Try.prog 12 #[.string s] w fun e w' => ∃ v, e = .returned (.tuple #[v, .int .i64 (errI s)]) ∧ w'.ownsRow w.heap.size 5 1 v (bytes8 s).length (bys (bytes8 s)) ∧ Below w.heap.size w w' := by
  obtain ⟨W, hW⟩ : ∃ W, w.alloc (.cells #[.slice none 0 0, .map none] 43) = W := ⟨_, rfl⟩
  have HB0 : Hid (Below w.heap.size w W) := Lib.hid (by rw [← hW]; exact (Below.refl _ _).alloc (Nat.le_refl _) _)
  have HWR : Hid (WrAt W w.heap.size w.heap.size (.slice none 0 0) none [] [] []) := Lib.hid (by rw [← hW]; exact wrAt_new w w.heap.size (Nat.le_refl _))
  have HNA := Lib.hid (name_any s HWR.out hs (by simp) (by simp) rfl (fun a ha => by cases ha) HB0.out.size)
  have HB8 := Lib.hid (bytes8_size s)
  cases hmay : mayN s with
  | false =>
    have e1 : bytes8 s = [] := by unfold bytes8; rw [hmay]; rfl
    have e2 : errI s = 1 := by unfold errI; rw [hmay]; rfl
    rw [hmay] at HNA
    rw [e1, e2]
    go_enter Try.func12, Try.ntmps12
    go_upto_region 2 with fail
    try rw [hW]
    clear hW e1 e2 HB8
    go_wp2_with fail
    refine HNA.out.mono ?_
    rintro e w1 ⟨rfl, vB, m, hw1, hf1⟩
    have HB1 := Lib.hid (chainB HB0.out (hf1.below (fun k hk => HWR.out.blk_ge k hk) HB0.out.size))
    clear hw1 hf1 HNA
    go_wp2_with fail
    go_ret2
    exact ⟨_, rfl, World.ownsRow_nil _ _ _ _, HB1.out⟩
  | true =>
    have e1 : bytes8 s = bytesL (labelsB s) := by unfold bytes8; rw [hmay]; rfl
    have e2 : errI s = 0 := by unfold errI; rw [hmay]; rfl
    rw [hmay, if_pos rfl] at HNA
    have HNB := Lib.hid (nm8_bytes hmay)
    generalize nm8 s (labelsB s) ((labelsB s).length + 1) 0 [] [] [] = R at *
    rw [e1] at HB8 ⊢
    rw [e2]
    generalize bytesL (labelsB s) = bl at *
    obtain ⟨r1, r2, r3⟩ := R
    have ER := HNB.out
    simp only at ER
    subst ER
    go_enter Try.func12, Try.ntmps12
    go_upto_region 2 with fail
    try rw [hW]
    clear hW e1 e2 HNB
    go_wp2_with fail
    refine HNA.out.mono ?_
    rintro e w1 ⟨rfl, vB, m, hw1, hf1⟩
    have HB1 := Lib.hid (chainB HB0.out (hf1.below (fun k hk => HWR.out.blk_ge k hk) HB0.out.size))
    have HWB := Lib.hid (wbytes_any hw1 (by have := HB8.out; simp only; omega))
    simp only at HWB
    clear hw1 hf1 HNA
    go_wp2_with fail
    refine HWB.out.mono ?_
    rintro e w2 ⟨v, rfl, ho, hb2⟩
    have HO := Lib.hid (own_lower8 ho HB1.out.size)
    have HB2 := Lib.hid (chain HB1.out hb2)
    clear ho hb2 HWB
    go_wp2_with fail
    go_ret2
    exact ⟨_, rfl, HO.out, HB2.out⟩
end Go.Proofs.Ytbeoapfbddcpcaa
/- Lives of layer 8: the document's example. -/
namespace Go.Proofs.Ytbeoapfbddcpcaa
open Go.RowKit Go.Maps
set_option linter.unusedVariables false
set_option maxRecDepth 20000

def exA : ByteArray := ⟨#[97, 46, 98]⟩
def exC : ByteArray := ⟨#[99, 46, 98]⟩
theorem exA_may : mayN exA = true := by kernel_rfl
theorem exC_may : mayN exC = true := by kernel_rfl
def exR : List UInt8 × List ByteArray × List Nat := ([1, 97, 1, 98, 0], [⟨#[97, 46, 98]⟩, ⟨#[98]⟩], [0, 2])
theorem exA_is : nm8 exA (labelsB exA) ((labelsB exA).length + 1) 0 [] [] [] = exR := by kernel_rfl
theorem exC_is : (nm8 exC (labelsB exC) ((labelsB exC).length + 1) 0 exR.1 exR.2.1 exR.2.2).1 = [1, 97, 1, 98, 0, 1, 99, 192, 2] := by kernel_rfl
/-- Bytes of one's own, as the conversion to a text reads them. -/
theorem own_at {w : World} {B : Nat} {v : Value} {l : List UInt8} (h : w.ownsRow B 5 1 v l.length (bys l)) : BytesAt w v l := own_bytes_back h
set_option maxRecDepth 100000 in
set_option maxHeartbeats 1000000 in
theorem lives8_any (w : World) :
    Calls Try.prog 19 #[] w fun e w' => e = .returned (.bool true) ∧ Below w.heap.size w w' := by
  obtain ⟨W, hW⟩ : ∃ W, w.alloc (.cells #[.slice none 0 0, .map none] 43) = W := ⟨_, rfl⟩
  have HB0 : Hid (Below w.heap.size w W) := Lib.hid (by rw [← hW]; exact (Below.refl _ _).alloc (Nat.le_refl _) _)
  have HWR : Hid (WrAt W w.heap.size w.heap.size (.slice none 0 0) none [] [] []) := Lib.hid (by rw [← hW]; exact wrAt_new w w.heap.size (Nat.le_refl _))
  have HNA := Lib.hid (name_any exA HWR.out (by decide) (by simp) (by simp) rfl (fun a ha => by cases ha) HB0.out.size)
  rw [exA_may, if_pos rfl, exA_is] at HNA
  have HNC := fun W vB m (h : WrAt W w.heap.size w.heap.size vB m exR.1 exR.2.1 exR.2.2) hB => Lib.hid (name_any exC h (by decide) (by decide) (by decide) rfl (by decide) hB)
  rw [exC_may, if_pos rfl] at HNC
  have HXC := Lib.hid exC_is
  generalize nm8 exC (labelsB exC) ((labelsB exC).length + 1) 0 exR.1 exR.2.1 exR.2.2 = R at *
  obtain ⟨r1, r2, r3⟩ := R
  have ER := HXC.out
  simp only at ER
  subst ER
  clear HXC
  have ea : exA = ⟨#[97, 46, 98]⟩ := rfl
  have ec : exC = ⟨#[99, 46, 98]⟩ := rfl
  rw [ea] at HNA
  rw [ec] at HNC
  clear ea ec
  go_enter Try.func19, Try.ntmps19
  go_upto_region 2 with fail
  try rw [hW]
  clear hW
  go_wp2_with fail
  refine HNA.out.mono ?_
  rintro e w1 ⟨rfl, vB, m, hw1, hf1⟩
  have HB1 := Lib.hid (chainB HB0.out (hf1.below (fun k hk => HWR.out.blk_ge k hk) HB0.out.size))
  have HW1 := Lib.hid hw1
  have HN2 := HNC w1 vB m hw1 HB1.out.size
  clear hw1 hf1 HNA HNC HWR HB0
  go_wp2_with fail
  refine HN2.out.mono ?_
  rintro e w2 ⟨rfl, vB2, m2, hw2, hf2⟩
  have HB2 := Lib.hid (chainB HB1.out (hf2.below (fun k hk => HW1.out.blk_ge k hk) HB1.out.size))
  have HWB := Lib.hid (wbytes_any hw2 (show ([1, 97, 1, 98, 0, 1, 99, 192, 2] : List UInt8).length ≤ 1000000 by decide))
  simp only at HWB
  clear hw2 hf2 HN2 HB1 HW1
  go_wp2_with fail
  refine HWB.out.mono ?_
  rintro e w3 ⟨v, rfl, ho, hb3⟩
  have HB3 := Lib.hid (chain HB2.out hb3)
  have HSA : ∀ (g : Nat) (W : World), Hid (Below w3.heap.size w3 W → W.heap.size = w3.heap.size + 1 → (∀ j u, (bys [1, 97, 1, 98, 0, 1, 99, 192, 2])[j]? = some u → W.cell? ⟨g, j, none⟩ = some u) → Calls Try.prog 20 #[v, .slice (some ⟨g, 0, none⟩) 9 9] W fun e w' => e = .returned (.bool true) ∧ w' = W) := fun g W => Lib.hid (fun hb _ hcells => by
    have h1 : BytesAt W v [1, 97, 1, 98, 0, 1, 99, 192, 2] := own_at (own_below8 ho hb)
    have h2 : BytesAt W (.slice (some ⟨g, 0, none⟩) 9 9) [1, 97, 1, 98, 0, 1, 99, 192, 2] := by
      unfold BytesAt
      exact run_convert_bytes_back (P := Try.prog) W 24 9 5 ⟨g, 0, none⟩ 9 [1, 97, 1, 98, 0, 1, 99, 192, 2] Try.underlying24 Try.underlying5 Try.underlying9 (fun j hj => by
        rw [add_none]
        exact hcells j _ (by unfold bys; rw [List.getElem?_map, List.getElem?_eq_getElem hj]; rfl))
    have := refSameBytes_any _ _ _ _ W h1 h2
    rw [decide_eq_true rfl] at this
    exact this)
  clear ho hb3 HWB HB2
  go_wp2_with fail
  refine ((HSA _ _).out ((Below.refl _ _).alloc (Nat.le_refl _) _) (by simp) (fun j u hu => cells_new8 w3 (bys [1, 97, 1, 98, 0, 1, 99, 192, 2]) 5 j u hu)).mono ?_
  rintro e w4 ⟨rfl, rfl⟩
  go_wp2_with fail
  go_ret
  exact ⟨rfl, chain HB3.out ((Below.refl _ _).alloc (Nat.le_refl _) _)⟩
end Go.Proofs.Ytbeoapfbddcpcaa
/- A name made good may be. Plain facts. -/
namespace Go.Proofs.Ytbeoapfbddcpcaa
open Go.RowKit
set_option linter.unusedVariables false
set_option maxRecDepth 20000

theorem goodTo_pos (l : List ByteArray) : ∀ k, ∀ p ∈ goodTo l k, 0 < p.size
  | 0 => by simp [goodTo]
  | k + 1 => by
    have h := goodTo_pos l k
    unfold goodTo
    split
    · exact h
    · split
      · exact h
      · intro p hp
        rcases List.mem_append.1 hp with hp | hp
        · exact h p hp
        · rw [List.mem_singleton.1 hp]; omega
theorem few_free {p : ByteArray} (h : NoDot p) (n : Nat) : NoDot (few p n) := by
  unfold few
  split
  · intro c hc
    rw [data_extract, List.drop_zero] at hc
    exact h c (List.mem_of_mem_take hc)
  · exact h
theorem goodTo_free {l : List ByteArray} (hl : ∀ p ∈ l, NoDot p) : ∀ k, ∀ p ∈ goodTo l k, NoDot p
  | 0 => by simp [goodTo]
  | k + 1 => by
    have h := goodTo_free hl k
    unfold goodTo
    split
    · exact h
    · split
      · exact h
      · intro p hp
        rcases List.mem_append.1 hp with hp | hp
        · exact h p hp
        · rw [List.mem_singleton.1 hp]
          refine few_free ?_ 12
          rw [List.getD_eq_getElem?_getD]
          cases hq : l[k]? with
          | none => intro c hc; exact absurd hc (by simp)
          | some q => exact hl q (List.mem_of_getElem? hq)
theorem good_may (s : ByteArray) : mayN (goodN s) = true := by
  have h1 := goodTo_pos (labelsB s) (labelsB s).length
  have h2 := goodTo_free (labels_free s) (labelsB s).length
  have h3 := goodTo_small (labelsB s) (labelsB s).length
  have e : labelsB (goodN s) = goodTo (labelsB s) (labelsB s).length := labels_join _ h1 h2
  refine may_of (Nat.le_trans (goodN_small s) (by decide)) (fun p hp => ?_)
  rw [e] at hp
  exact ⟨h1 p hp, Nat.le_trans (h3 p hp) (by decide)⟩
end Go.Proofs.Ytbeoapfbddcpcaa
/- What a writer wrote spells its names. Plain facts. -/
namespace Go.Proofs.Ytbeoapfbddcpcaa
open Go.RowKit
set_option linter.unusedVariables false
set_option maxRecDepth 20000

/-- A pointer written at l's end. -/
theorem ptr_facts (l rest : List UInt8) (n : Nat) (h : n < 16384) : l.length + 1 < (l ++ [UInt8.ofNat (192 + n / 256), UInt8.ofNat (n % 256)] ++ rest).length ∧ 192 ≤ ((l ++ [UInt8.ofNat (192 + n / 256), UInt8.ofNat (n % 256)] ++ rest).getD l.length 0).toNat ∧ toAt (l ++ [UInt8.ofNat (192 + n / 256), UInt8.ofNat (n % 256)] ++ rest) l.length = n := by
  have hl : (l ++ [UInt8.ofNat (192 + n / 256), UInt8.ofNat (n % 256)] ++ rest).length = l.length + 2 + rest.length := by simp; omega
  have g1 : ((l ++ [UInt8.ofNat (192 + n / 256), UInt8.ofNat (n % 256)] ++ rest).getD l.length 0).toNat = 192 + n / 256 := by
    rw [List.append_assoc, List.getD_eq_getElem?_getD, List.getElem?_append_right (Nat.le_refl _), Nat.sub_self]
    show (UInt8.ofNat (192 + n / 256)).toNat = _
    rw [UInt8.toNat_ofNat', Nat.mod_eq_of_lt (by omega)]
  have g2 : ((l ++ [UInt8.ofNat (192 + n / 256), UInt8.ofNat (n % 256)] ++ rest).getD (l.length + 1) 0).toNat = n % 256 := by
    rw [List.append_assoc, List.getD_eq_getElem?_getD, List.getElem?_append_right (by omega), Nat.add_sub_cancel_left]
    show (UInt8.ofNat (n % 256)).toNat = _
    rw [UInt8.toNat_ofNat', Nat.mod_eq_of_lt (by omega)]
  refine ⟨by omega, by omega, ?_⟩
  unfold toAt
  rw [g1, g2]
  omega
/-- Every name that is kept is spelled at its place. -/
def WInv (l : List UInt8) (ns : List ByteArray) (ats : List Nat) : Prop :=
  ats.length = ns.length ∧ (∀ a ∈ ats, a < 16384) ∧ ∀ x n, find8 ns ats x = some n → ∃ nx, Sp l n n (labelsB x) nx
theorem WInv.nil : WInv [] [] [] := ⟨rfl, by simp, fun x n h => by unfold find8 at h; cases h⟩
theorem WInv.more {l : List UInt8} {ns : List ByteArray} {ats : List Nat} (h : WInv l ns ats) (x : List UInt8) : WInv (l ++ x) ns ats :=
  ⟨h.1, h.2.1, fun y n hy => by obtain ⟨nx, hs⟩ := h.2.2 y n hy; exact ⟨nx, hs.more x⟩⟩
theorem nm8_sp (s : ByteArray) (hm : mayN s = true) (P0 : Nat) : ∀ (f i : Nat) (l : List UInt8) (ns : List ByteArray) (ats : List Nat), (labelsB s).length + 1 = i + f → i ≤ (labelsB s).length → ats.length = ns.length → (∀ a ∈ ats, a < 16384) → P0 ≤ l.length →
    (∀ x n, x.size ≤ (restB s i).size → find8 ns ats x = some n → n < P0 ∧ ∃ nx, Sp l n n (labelsB x) nx) →
    ∃ tl, (nm8 s (labelsB s) f i l ns ats).1 = l ++ tl ∧ tl.length ≤ ((labelsB s).length - i) * 64 + 2 ∧ (nm8 s (labelsB s) f i l ns ats).2.1.length ≤ ns.length + ((labelsB s).length - i) ∧ (∃ nx, Sp (l ++ tl) P0 l.length ((labelsB s).drop i) nx) ∧
      (∀ x, (restB s i).size < x.size → find8 (nm8 s (labelsB s) f i l ns ats).2.1 (nm8 s (labelsB s) f i l ns ats).2.2 x = find8 ns ats x) ∧
      (∀ x n, x.size ≤ (restB s i).size → find8 (nm8 s (labelsB s) f i l ns ats).2.1 (nm8 s (labelsB s) f i l ns ats).2.2 x = some n → ∃ nx, Sp (l ++ tl) n n (labelsB x) nx) ∧
      (nm8 s (labelsB s) f i l ns ats).2.2.length = (nm8 s (labelsB s) f i l ns ats).2.1.length ∧ (∀ a ∈ (nm8 s (labelsB s) f i l ns ats).2.2, a < 16384)
  | 0, i, l, ns, ats, h, hi, _, _, _, _ => by omega
  | f + 1, i, l, ns, ats, h, hi, hla, hat, hP, hG => by
    unfold nm8
    by_cases hl : (labelsB s).length ≤ i
    · rw [if_pos hl]
      refine ⟨[0], rfl, by simp, by simp, ?_, fun x _ => rfl, fun x n hx hf => ?_, hla, hat⟩
      · rw [List.drop_eq_nil_iff.2 hl]
        refine ⟨_, .zero (by simp) ?_⟩
        rw [List.getD_eq_getElem?_getD, List.getElem?_append_right (Nat.le_refl _), Nat.sub_self]
        rfl
      · obtain ⟨_, nx, hs⟩ := hG x n hx hf
        exact ⟨nx, hs.more _⟩
    · rw [if_neg hl]
      have hil : i < (labelsB s).length := by omega
      have hdrop : (labelsB s).drop i = labelsB (restB s i) := (labels_rest i (may_full hm)).symm
      cases hf : find8 ns ats (restB s i) with
      | some n =>
        have hn := hat n (find8_mem ns ats _ n hf)
        obtain ⟨hnP, nx, hs⟩ := hG (restB s i) n (Nat.le_refl _) hf
        obtain ⟨f1, f2, f3⟩ := ptr_facts l [] n hn
        rw [List.append_nil] at f1 f2 f3
        refine ⟨_, rfl, by simp, by simp, ?_, fun x _ => rfl, fun x k hx hf => ?_, hla, hat⟩
        · rw [hdrop]
          exact ⟨_, .ptr f1 f2 (by rw [f3]; exact hnP) (by rw [f3]; exact hs.more _)⟩
        · obtain ⟨_, nx, hs⟩ := hG x k hx hf
          exact ⟨nx, hs.more _⟩
      | none =>
        simp only
        have hrp : 0 < (restB s i).size := (rest_pos (may_full hm) i).2 hil
        have hlt : (restB s (i + 1)).size < (restB s i).size := by rw [rest_par]; exact par_lt _ hrp
        obtain ⟨p, hp⟩ : ∃ p, (labelsB s).getD i ⟨#[]⟩ = p := ⟨_, rfl⟩
        have hpm : p ∈ labelsB s := by
          rw [← hp, List.getD_eq_getElem?_getD, List.getElem?_eq_getElem hil]
          exact List.getElem_mem hil
        have hpl := may_label hm p hpm
        have hcons : (labelsB s).drop i = p :: (labelsB s).drop (i + 1) := by
          rw [List.drop_eq_getElem_cons hil]
          congr 1
          rw [← hp, List.getD_eq_getElem?_getD, List.getElem?_eq_getElem hil]
          rfl
        rw [hp]
        have hlab : (labL p).length = 1 + p.size := by unfold labL; rw [List.length_cons, data_size]; omega
        obtain ⟨ns2, hns2⟩ : ∃ ns2, (if l.length < 16384 then ns ++ [restB s i] else ns) = ns2 := ⟨_, rfl⟩
        obtain ⟨ats2, hats2⟩ : ∃ ats2, (if l.length < 16384 then ats ++ [l.length] else ats) = ats2 := ⟨_, rfl⟩
        rw [hns2, hats2]
        -- what is found behind the note
        have hfind : ats2.length = ns2.length ∧ (∀ a ∈ ats2, a < 16384) ∧ ns2.length ≤ ns.length + 1 ∧ ∀ x, find8 ns2 ats2 x = match find8 ns ats x with | some k => some k | none => if restB s i = x ∧ l.length < 16384 then some l.length else none := by
          by_cases hb : l.length < 16384
          · rw [if_pos hb] at hns2 hats2
            rw [← hns2, ← hats2]
            refine ⟨by simp [hla], fun a ha => ?_, by simp, fun x => ?_⟩
            · rcases List.mem_append.1 ha with ha | ha
              · exact hat a ha
              · rw [List.mem_singleton.1 ha]; exact hb
            · rw [find8_snoc ns ats _ _ x hla]
              cases find8 ns ats x with
              | some k => rfl
              | none => simp [hb]
          · rw [if_neg hb] at hns2 hats2
            rw [← hns2, ← hats2]
            refine ⟨hla, hat, by omega, fun x => ?_⟩
            cases find8 ns ats x with
            | some k => rfl
            | none => simp [hb]
        obtain ⟨hla2, hat2, hnn2, hf2⟩ := hfind
        have hll : (l ++ labL p).length = l.length + 1 + p.size := by rw [List.length_append, hlab]; omega
        obtain ⟨tl, t1, t2, t3, ⟨nx, t4⟩, t5, t6, t7, t8⟩ := nm8_sp s hm P0 f (i + 1) (l ++ labL p) ns2 ats2 (by omega) (by omega) hla2 hat2 (by omega) (fun x n hx hfx => by
          rw [hf2 x] at hfx
          cases hfo : find8 ns ats x with
          | some k =>
            rw [hfo] at hfx
            have : k = n := by simpa using hfx
            subst this
            obtain ⟨g1, g2, g3⟩ := hG x k (by omega) hfo
            exact ⟨g1, g2, g3.more _⟩
          | none =>
            rw [hfo] at hfx
            simp only at hfx
            by_cases hrx : restB s i = x ∧ l.length < 16384
            · rw [← hrx.1] at hx; omega
            · rw [if_neg hrx] at hfx; cases hfx)
        have hspell : ∃ nx, Sp (l ++ (labL p ++ tl)) P0 l.length ((labelsB s).drop i) nx := by
          obtain ⟨f1, f2, f3, f4⟩ := lab_facts l tl p hpl.2
          rw [hll] at t4
          rw [hcons, ← List.append_assoc]
          exact ⟨nx, .lab f1 f2 (by omega) hpl.2 f3 f4 (labels_free s p hpm) t4⟩
        have hmul : ((labelsB s).length - i) * 64 = ((labelsB s).length - (i + 1)) * 64 + 64 := by
          have : (labelsB s).length - i = (labelsB s).length - (i + 1) + 1 := by omega
          rw [this, Nat.succ_mul]
        refine ⟨labL p ++ tl, by rw [t1, List.append_assoc], by rw [List.length_append, hlab, hmul]; omega, by omega, hspell, fun x hx => ?_, fun x n hx hfx => ?_, t7, t8⟩
        · rw [t5 x (by omega), hf2 x]
          cases find8 ns ats x with
          | some k => rfl
          | none =>
            simp only
            rw [if_neg (fun e => by rw [e.1] at hx; omega)]
        · by_cases hsm : x.size ≤ (restB s (i + 1)).size
          · obtain ⟨nx2, h2⟩ := t6 x n hsm hfx
            rw [List.append_assoc] at h2
            exact ⟨nx2, h2⟩
          · rw [t5 x (by omega), hf2 x] at hfx
            cases hfo : find8 ns ats x with
            | some k =>
              rw [hfo] at hfx
              have : k = n := by simpa using hfx
              subst this
              obtain ⟨_, g2, g3⟩ := hG x k hx hfo
              exact ⟨g2, g3.more _⟩
            | none =>
              rw [hfo] at hfx
              simp only at hfx
              by_cases hrx : restB s i = x ∧ l.length < 16384
              · rw [if_pos hrx] at hfx
                have : l.length = n := by simpa using hfx
                subst this
                obtain ⟨nx2, h2⟩ := hspell
                rw [← hrx.1, ← hdrop]
                exact ⟨nx2, h2.wider hP⟩
              · rw [if_neg hrx] at hfx; cases hfx
/-- What is written when a name is. -/
def nmAll (s : ByteArray) (l : List UInt8) (ns : List ByteArray) (ats : List Nat) : List UInt8 × List ByteArray × List Nat :=
  if mayN s = true then nm8 s (labelsB s) ((labelsB s).length + 1) 0 l ns ats else (l, ns, ats)
theorem nm8_inv {s : ByteArray} {l : List UInt8} {ns : List ByteArray} {ats : List Nat} (h : WInv l ns ats) (hs : s.size ≤ 40) :
    WInv (nmAll s l ns ats).1 (nmAll s l ns ats).2.1 (nmAll s l ns ats).2.2 ∧ (∃ tl, (nmAll s l ns ats).1 = l ++ tl) ∧ (nmAll s l ns ats).1.length ≤ l.length + 3000 ∧ (nmAll s l ns ats).2.1.length ≤ ns.length + 50 ∧ (mayN s = true → ∃ nx, Sp (nmAll s l ns ats).1 l.length l.length (labelsB s) nx) := by
  unfold nmAll
  by_cases hm : mayN s = true
  · rw [if_pos hm]
    have hln := labels_len s
    obtain ⟨tl, t1, t2, t3, ⟨nx, t4⟩, t5, t6, t7, t8⟩ := nm8_sp s hm l.length ((labelsB s).length + 1) 0 l ns ats (by omega) (Nat.zero_le _) h.1 h.2.1 (Nat.le_refl _) (fun x n _ hf => by
      obtain ⟨nx, hs⟩ := h.2.2 x n hf
      exact ⟨hs.lt, nx, hs⟩)
    rw [t1]
    refine ⟨⟨t7, t8, fun x n hf => ?_⟩, ⟨tl, rfl⟩, by rw [List.length_append]; omega, by omega, fun _ => ⟨nx, ?_⟩⟩
    · by_cases hx : x.size ≤ (restB s 0).size
      · exact t6 x n hx hf
      · rw [t5 x (by omega)] at hf
        obtain ⟨nx, hs⟩ := h.2.2 x n hf
        exact ⟨nx, hs.more _⟩
    · rw [List.drop_zero] at t4
      exact t4
  · rw [if_neg hm]
    exact ⟨h, ⟨[], by simp⟩, by simp, by simp, fun e => absurd e hm⟩
end Go.Proofs.Ytbeoapfbddcpcaa

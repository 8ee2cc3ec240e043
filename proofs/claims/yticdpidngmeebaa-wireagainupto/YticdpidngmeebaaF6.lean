/- Texts that belong together, one behind the other: WirRecW, WirWhole, WirWrite, LabBytes, LabLives, WirLives, OpenMsg, RefWireSt, ConvT. -/
import Derived.Test.YticdpidngmeebaaF5
import Derived.Laws.Rows
import Derived.Deep.Cut
import Derived.Test.YticdpidngmeebaaRows
import Derived.Deep.Strs
/- Contract of the landed writer's records: records, written as long as there is room (walks/WirRecW.py prints this text). -/
namespace Go.Proofs.Yticdpidngmeebaa
open Go.RowKit Go.Maps
set_option linter.unusedVariables false
set_option maxRecDepth 20000

/-- What is written of records, beside what it becomes. -/
def RecRet (w : World) (G B : Nat) (F0 : List Nat) (t : Wst) (e : Ending) (w' : World) : Prop :=
  e = .returned (.tuple #[]) ∧ ∃ vB m vS u zs, W9 w' G B vB m vS u zs ∧ PR u zs t ∧ Wok 90000 u ∧ zs.length ≤ u.1.length ∧ Foot F0 (w9blk G vB m vS) w w'
theorem gd_len {α : Type} {f : Wst → α → Wst} {t : Wst} {x : α} (h : ¬ 1232 < t.1.length) : gd f t x = f t x := by unfold gd; rw [if_neg h]
theorem nats5 (a b c d : Nat) : nats9 [a, b, c / 65536, d, 0] = [.int .i64 (a : Int), .int .i64 (b : Int), .int .i64 ((c : Int) / 65536), .int .i64 (d : Int), .int .i64 0] := rfl
theorem recAt_kept {w w' : World} {G : Nat} {r : Rec} (h : RecAt w G r) (hk : w'.heap[G]? = w.heap[G]?) : RecAt w' G r :=
  ⟨h.len, (Array.getElem?_eq_some_iff.1 (hk.trans (Array.getElem?_eq_getElem h.lt))).1, fun j u hu => (World.cell?_of_block (a := ⟨G, 0 + j, none⟩) hk).trans (h.range j u hu), fun j hj => by
    rw [World.cell?_of_block (a := ⟨G, 0 + j, none⟩) hk, World.frozen?_of_block (a := ⟨G, 0 + j, none⟩) hk]
    exact h.there j hj⟩
theorem ready_more {P : Program} {md : Region.Mode} {ops : Array Oper} {Q : Exit → Act → World → Prop} {S : World → Prop} {fuel : Nat} {listed : Array Bool} {a : Act} {w : World} {i : Nat} {o : Oper} {rs : List Nat} (ho : ops[i]? = some o) (hw : Region.wanted o (yielded ops a.tmps) = true)
    (h : ∀ K' : Act → World → Prop, Shut (∀ a w, S w → (S w → wpAnyH P md ops Q S fuel (listed.setIfInBounds i true) a w) → K' a w) → Oper.wp P o a w K' Q) (hs : AllReadyH P md ops Q S fuel listed a w rs) : AllReadyH P md ops Q S fuel listed a w (i :: rs) :=
  AllReadyH.cons ho (fun K hK => by rw [if_pos hw]; exact h K hK) hs
set_option maxRecDepth 100000 in
set_option maxHeartbeats 8000000 in
theorem records_any {w w0 : World} {G B : Nat} {vB vS : Value} {m : Option Nat} {u0 t0 : Wst} {zs0 : List (Nat × Nat)} (a : Option Addr) (cap : Nat) (D : List Rec) (h : W9 w G B vB m vS u0 zs0) (hpr : PR u0 zs0 t0) (hok : Wok 90000 u0) (hzl : zs0.length ≤ u0.1.length) (hD : RecsAt w0 a cap D) (hB0 : w0.heap.size = B) (hbw : Below B w0 w) (hm : ∀ r ∈ D, mayR r = true) (hl : D.length ≤ 1000000) :
    Calls Try.prog 30 #[.pointer (some ⟨G, 0, none⟩), .slice a D.length cap] w (RecRet w G B (w9blk G vB m vS) (D.foldl (gd rW) t0)) := by
  obtain ⟨N, hN⟩ : ∃ N, D.length = N := ⟨_, rfl⟩
  have HN := Lib.hid hN
  have HD := Lib.hid hD
  have HM := Lib.hid hm
  have HB0 := Lib.hid hB0
  have HBW := Lib.hid hbw
  have HH := Lib.hid h
  have HPR0 := Lib.hid hpr
  have HOK := Lib.hid hok
  have HZL0 := Lib.hid hzl
  rw [hN] at hl ⊢
  clear hN hD hm hB0 hbw h hok hpr hzl
  go_enter Try.func30, Try.ntmps30
  go_wp2_with fail
  go_loopw [9] (fun i wr => ∃ (k : Nat) (vB' : Value) (m' : Option Nat) (vS' : Value) (u t : Wst) (zs : List (Nat × Nat)), k ≤ N ∧ i = .int .i64 (k : Int) ∧ Hid (t = (D.take k).foldl (gd rW) t0) ∧ Hid (PR u zs t) ∧ Hid (Wok 90000 u) ∧ Hid (zs.length ≤ u.1.length) ∧ Hid (W9 wr G B vB' m' vS' u zs) ∧ Hid (Foot (w9blk G vB m vS) (w9blk G vB' m' vS') w wr)) (fun i _ => N - (intOf i).toNat)
  case atStart => exact ⟨0, vB, m, vS, u0, t0, zs0, Nat.zero_le _, rfl, Lib.hid rfl, HPR0, HOK, HZL0, HH, Lib.hid (Foot.ofBelow _ (Below.refl _ _))⟩
  case round =>
    obtain ⟨k, vB', m', vS', u, t, zs, hk, rfl, HT, HPR, HOT, HZL, HX, HF⟩ := hrel
    have HBR : Hid (Below B w0 wr) := Lib.hid (HBW.out.trans (HF.out.below HH.out.blk_ge (by have := HBW.out.size; have := HB0.out; omega)))
    by_cases hkN : k < N
    · have hd : decide ((k : Int) < (N : Int)) = true := decide_eq_true (by omega)
      have hdn : decide (k < N) = true := decide_eq_true hkN
      have hkD : k < D.length := by rw [HN.out]; exact hkN
      have hBw : B ≤ wr.heap.size := by have := HBR.out.size; have := HB0.out; omega
      obtain ⟨g, o, ha, hg, hrg⟩ := (HD.out.below (by rw [HB0.out]; exact HBR.out)).at k hkD
      subst ha
      have HRG := Lib.hid hrg
      have HMR := Lib.hid (HM.out _ (List.getElem_mem hkD))
      have HFIT := Lib.hid (HD.out.2.2.1 _ (List.getElem_mem hkD))
      have HTK := Lib.hid (fold_at (gd rW) D t0 k hkD)
      have HTR := Lib.hid (fold_rest (gd rW) D t0 k)
      rw [← HT.out] at HTK HTR
      generalize D[k] = r at *
      have H16 := Lib.hid HFIT.out.1
      have hb1 : (0 : Int) ≤ (k : Int) := by omega
      have hb2 : (k : Int) < (N : Int) := by omega
      have HZ := Lib.hid (rec_zeroed wr)
      have HZB : Hid (Below wr.heap.size wr (wr.alloc (.cells zC 42))) := Lib.hid ((Below.refl _ _).alloc (Nat.le_refl _) _)
      have HPN : Hid (wr.heap.size ∉ wblk G vB' m') := Lib.hid (fun e => by have := HX.out.wx.blk_lt _ e; omega)
      clear hrg hg
      go_upto_region 3 with (first | refine load_rec H16 HRG _ rfl rfl rfl ?_ | refine store_rec HZ _ _ H16 rfl rfl rfl rfl (fun V HW HRP => ?_))
      have HVB : Hid (Below wr.heap.size wr V) := Lib.hid (by rw [HW.out]; exact below_cells (Nat.le_refl _) _ _ _ HZB.out)
      replace HX := Lib.hid (HX.out.below HVB.out)
      replace HF := Lib.hid (HF.out.trans (Foot.ofBelow (w9blk G vB' m' vS') HVB.out))
      have hBV : B ≤ V.heap.size := by have := HVB.out.size; omega
      generalize wr.heap.size = P at *
      clear HW HZ HZB HRG HVB
      go_wp2_with fail
      refine (full_any HX.out.wx.toWrAt).mono ?_
      rintro e w1 ⟨rfl, hw1⟩
      rw [hw1]
      clear hw1 w1
      by_cases hfu : 1232 < u.1.length
      · have hdf : decide (1232 < u.1.length) = true := decide_eq_true hfu
        rw [hdf]
        have HEQ : Hid (D.foldl (gd rW) t0 = t) := Lib.hid (by rw [HTR.out]; exact gd_full _ _ _ (by rw [← HPR.out.len]; exact hfu))
        clear HTR HTK HT hdf
        go_wp2_with fail
        go_end0
        rw [HEQ.out]
        exact ⟨rfl, _, _, _, _, _, HX.out, HPR.out, HOT.out, HZL.out, HF.out⟩
      · have hdf : decide (1232 < u.1.length) = false := decide_eq_false hfu
        rw [hdf]
        have hlt1 : u.1.length ≤ 1232 := by omega
        have HOU : Hid (Wok 1232 u) := Lib.hid ⟨hlt1, HOT.out.lns, HOT.out.two, HOT.out.low, HOT.out.sm⟩
        have HOR := Lib.hid (HOU.out.r HMR.out H16.out)
        have HGE : Hid (gd rW t r = rW t r) := Lib.hid (gd_len (by rw [← HPR.out.len]; omega))
        rw [HGE.out] at HTK
        have HPR2 := Lib.hid (HPR.out.r r HOR.out.2.2)
        have HMY := Lib.hid (mayRec HMR.out)
        have HNT := Lib.hid (nmT_is HMY.out.name u.1.length u.2.1 u.2.2)
        have HNM : Hid (Calls Try.prog 57 #[.pointer (some ⟨G, 0, none⟩), .string r.name] V.drew (WNameRetX (x9 vS') V.drew G B (wblk G vB' m') true (u.1 ++ (nmT r.name u.1.length u.2.1 u.2.2).1, (nmT r.name u.1.length u.2.1 u.2.2).2.1, (nmT r.name u.1.length u.2.1 u.2.2).2.2))) := Lib.hid (by
          have := namex_any r.name (HX.out.wx.below ((Below.refl V.heap.size V).drew)) (by have := may_small HMY.out.name; omega) (by omega) (by have := HOT.out.lns; omega) HOT.out.two HOT.out.low hBV
          rw [HMY.out.name, if_pos rfl, HNT.out.eq _ rfl] at this
          exact this)
        have HXD := Lib.hid (HX.out.below ((Below.refl V.heap.size V).drew))
        have HFD := Lib.hid (HF.out.trans (Foot.ofBelow (w9blk G vB' m' vS') ((Below.refl V.heap.size V).drew)))
        have HRD := Lib.hid (HRP.out.below ((Below.refl V.heap.size V).drew))
        have HPL : Hid (P < V.drew.heap.size) := Lib.hid HRD.out.lt
        clear HT HTR hdf hfu HX HF HRP HGE HPR
        go_upto_region 4 with fail
        refine wp_region_noPanic ?_
        obtain ⟨S, hS⟩ : ∃ S : World → Prop, (fun W => RecAt W P r) = S := ⟨_, rfl⟩
        have C1 : Hid (∀ w', S w' → w'.cell? ⟨P, 0, none⟩ = some (.string r.name)) := Lib.hid (fun w' h => by rw [← hS] at h; exact h.cell 0 _ rfl)
        have HSS : Hid (S V.drew) := Lib.hid (by rw [← hS]; exact HRD.out)
        have HSI : Hid (∀ w', RecAt w' P r → S w') := Lib.hid (fun w' h => by rw [← hS]; exact h)
        clear hS
        refine wp_region_held_drew (S := S) (by kernel_rfl) HSS.out (fun hHeld => ?_)
        generalize V.drew = U at *
        refine wpAnyH_take (i := 0) (v := ?_) rfl (by kernel_rfl) (by kernel_rfl) (by kernel_rfl) (fun _ _ _ h => h) (Or.inl ⟨by rfl, ?_⟩) (by assumption) ?_
        rotate_left
        · (intro w hSw; go_simp; try (with_reducible rfl))
        try simp only [Act.put, List.getElem_toArray, List.getElem_cons_zero, List.setIfInBounds_toArray, List.set_cons_zero, List.set_cons_succ]
        refine wpAnyH_take (i := 1) (v := ?_) rfl (by kernel_rfl) (by kernel_rfl) (by kernel_rfl) (fun _ _ _ h => h) (Or.inl ⟨by rfl, ?_⟩) (by assumption) ?_
        rotate_left
        · (intro w hSw; go_simp; try (with_reducible rfl))
        try simp only [Act.put, List.getElem_toArray, List.getElem_cons_zero, List.getElem_cons_succ, List.setIfInBounds_toArray, List.set_cons_zero, List.set_cons_succ]
        refine wpAnyH_take (i := 2) (v := ?_) rfl (by kernel_rfl) (by kernel_rfl) (by kernel_rfl) (fun _ _ _ h => h) (Or.inl ⟨by rfl, ?_⟩) (by assumption) ?_
        rotate_left
        · (intro w hSw; go_simp; try (with_reducible rfl))
        try simp only [Act.put, List.getElem_toArray, List.getElem_cons_zero, List.getElem_cons_succ, List.setIfInBounds_toArray, List.set_cons_zero, List.set_cons_succ]
        refine wpAnyH_take (i := 3) (v := ?_) rfl (by kernel_rfl) (by kernel_rfl) (by kernel_rfl) (fun _ _ _ h => h) (Or.inl ⟨by rfl, ?_⟩) (by assumption) ?_
        rotate_left
        · (intro w hSw; go_simp; try (with_reducible rfl))
        try simp only [Act.put, List.getElem_toArray, List.getElem_cons_zero, List.getElem_cons_succ, List.setIfInBounds_toArray, List.set_cons_zero, List.set_cons_succ]
        refine wpAnyH_take (i := 4) (v := ?_) rfl (by kernel_rfl) (by kernel_rfl) (by kernel_rfl) (fun _ _ _ h => h) (Or.inl ⟨by rfl, ?_⟩) (by assumption) ?_
        rotate_left
        · (intro w hSw; have hc0 := C1.out w hSw; go_simp; try (with_reducible rfl))
        try simp only [Act.put, List.getElem_toArray, List.getElem_cons_zero, List.getElem_cons_succ, List.setIfInBounds_toArray, List.set_cons_zero, List.set_cons_succ]
        refine wpAnyH_ready (rs := [5]) (by kernel_rfl) (by simp) ?_
        refine AllReadyH.cons rfl (fun K hK => ?_) AllReadyH.nil
        go_simp
        refine HNM.out.mono ?_
        rintro e w2 ⟨rfl, vB2, m2, hW2, hF2⟩
        have HX2 := Lib.hid (HXD.out.wrote hW2 hF2).1
        have HF2 := Lib.hid (HFD.out.trans (HXD.out.wrote hW2 hF2).2)
        have HR2 := Lib.hid (recAt_kept HRD.out (hF2.keep P HPL.out HPN.out))
        have HPN2 : Hid (P ∉ wblk G vB2 m2) := Lib.hid (hF2.out HPL.out HPN.out)
        have hBw2 : B ≤ w2.heap.size := by have := HR2.out.lt; omega
        clear hW2 hF2 HNM HFD HXD HRD
        go_wp2_with fail
        refine hK.out _ _ (HSI.out _ HR2.out) (fun hHeldb => ?_)
        clear hK K
        try simp only [Act.put, List.getElem_toArray, List.getElem_cons_zero, List.getElem_cons_succ, List.setIfInBounds_toArray, List.set_cons_zero, List.set_cons_succ]
        refine wpAnyH_done (by kernel_rfl) ?_ _
        refine NoPanic.normal ?_
        clear hHeld hHeldb HSS C1 HSI
        obtain ⟨U1, hU1⟩ : ∃ U1 : Wst, (u.1 ++ (nmT r.name u.1.length u.2.1 u.2.2).1, (nmT r.name u.1.length u.2.1 u.2.2).2.1, (nmT r.name u.1.length u.2.1 u.2.2).2.2) = U1 := ⟨_, rfl⟩
        rw [hU1] at HX2
        have HU1 := Lib.hid hU1
        have HOK1 : Hid (Wok 17532 U1) := Lib.hid (by rw [← hU1]; exact HOU.out.nm HMY.out.name)
        clear hU1
        have y1 := HR2.out.cell 1 _ rfl
        have y2 := HR2.out.cell 2 _ rfl
        have y3 := HR2.out.cell 3 _ rfl
        obtain ⟨tn, htn⟩ : ∃ n : Nat, r.ty = (n : Int) := ⟨r.ty.toNat, by have := HMY.out.ty; omega⟩
        obtain ⟨cn, hcn⟩ : ∃ n : Nat, r.cl = (n : Int) := ⟨r.cl.toNat, by have := HMY.out.cl; omega⟩
        obtain ⟨tt, htt⟩ : ∃ n : Nat, r.ttl = (n : Int) := ⟨r.ttl.toNat, by have := HMY.out.ttl; omega⟩
        rw [htn] at y1
        rw [hcn] at y2
        rw [htt] at y3
        have HWN : Hid (tn ≤ 65535 ∧ cn ≤ 65535 ∧ tt ≤ 2147483647) := Lib.hid ⟨by have := HMY.out.ty; omega, by have := HMY.out.cl; omega, by have := HMY.out.ttl; omega⟩
        have HNS : Hid (flat2 [tn, cn, tt / 65536, tt, 0] = numsR r ++ [0, 0]) := Lib.hid (by
          unfold numsR
          rw [htn, hcn, htt]
          simp only [Int.toNat_natCast, twoL_mod]
          rfl)
        clear htn hcn htt
        have hs16 : (0 : Int) ≤ (tt : Int) := by omega
        have HVB : Hid (Below w2.heap.size w2 (w2.alloc (.cells #[.int .i64 (tn : Int), .int .i64 (cn : Int), .int .i64 ((tt : Int) / 65536), .int .i64 (tt : Int), .int .i64 0] 3))) := Lib.hid ((Below.refl _ _).alloc (Nat.le_refl _) _)
        have HX3 := Lib.hid (HX2.out.below HVB.out)
        have HR3 := Lib.hid (HR2.out.below HVB.out)
        have HNU := Lib.hid (numbers_any (c := 5) (g := w2.heap.size) [tn, cn, tt / 65536, tt, 0] HX3.out.wx (by rw [nats5]; exact built_new 3) (by simp) (fun e => by have := HX2.out.wx.blk_lt _ e; omega) (by simp) (by have := HWN.out; intro n hn; simp at hn; omega) (by have := HOK1.out.len; omega) (by simp; omega))
        have HF3 := Lib.hid (HF2.out.trans (Foot.ofBelow (w9blk G vB2 m2 vS') HVB.out))
        have HL3 := Lib.hid HR3.out.lt
        clear HVB HF2 HX2
        go_wp2_with fail
        refine HNU.out.mono ?_
        rintro e w3 ⟨rfl, vB3, hW3, hF4⟩
        rw [HNS.out] at hW3
        obtain ⟨U2, hU2⟩ : ∃ U2 : Wst, (U1.1 ++ (numsR r ++ [0, 0]), U1.2.1, U1.2.2) = U2 := ⟨_, rfl⟩
        have hW3b : WxAt (x9 vS') w3 G B vB3 m2 U2.1 U2.2.1 U2.2.2 := by rw [← hU2]; exact hW3
        have HX4 := Lib.hid (HX3.out.wrote hW3b hF4).1
        have HF4 := Lib.hid (HF3.out.trans (HX3.out.wrote hW3b hF4).2)
        have HR4 := Lib.hid (recAt_kept HR3.out (hF4.keep P HL3.out HPN2.out))
        have HPN3 : Hid (P ∉ wblk G vB3 m2) := Lib.hid (hF4.out HL3.out HPN2.out)
        have HU2 : Hid (U2 = hR u r [0, 0]) := Lib.hid (by rw [← hU2, ← HU1.out]; unfold hR; simp [List.append_assoc])
        have HOK2 : Hid (Wok 17542 U2) := Lib.hid (by rw [HU2.out]; exact HOU.out.head HMR.out [0, 0] rfl)
        have hBw3 : B ≤ w3.heap.size := by have := HF4.out.size; have := HR4.out.lt; omega
        clear hW3 hF4 HNU HF3 y1 y2 y3 HNS hW3b hU2 HX3 HR3 HR2 HU1 HOK1
        go_wp2_with fail
        refine (wlenx_any HX4.out.wx).mono ?_
        rintro e w4 ⟨rfl, hw4⟩
        rw [hw4]
        clear hw4 w4
        have HDA := Lib.hid (data_any r HX4.out.wx (HOK2.out.wider (by omega)) HMR.out HFIT.out hBw3)
        have hULn : 2 ≤ U2.1.length ∧ U2.1.length ≤ 17542 := ⟨by rw [HU2.out, hR_len u r [0, 0] rfl]; unfold atR; omega, HOK2.out.len⟩
        go_wp2_with (refine load_recAt HR4 _ rfl rfl rfl ?_)
        refine HDA.out.mono ?_
        rintro e w5 ⟨rfl, vB5, m5, hW5, hF5⟩
        obtain ⟨U3, hU3⟩ : ∃ U3 : Wst, (U2.1 ++ (daT r U2.1.length U2.2.1 U2.2.2).1, (daT r U2.1.length U2.2.1 U2.2.2).2) = U3 := ⟨_, rfl⟩
        rw [hU3] at hW5
        have HX5 := Lib.hid (HX4.out.wrote hW5 hF5).1
        have HF5 := Lib.hid (HF4.out.trans (HX4.out.wrote hW5 hF5).2)
        have HU3 : Hid (U3 = rU u r) := Lib.hid (by rw [← hU3, HU2.out, ← daR_hR u r [0, 0] rfl]; rfl)
        have HAT : Hid (U2.1.length = atR u r ∧ U3.1.length = U2.1.length + (daR u r).1.length) := Lib.hid ⟨by rw [HU2.out, hR_len u r [0, 0] rfl], by rw [← hU3, HU2.out, ← daR_hR u r [0, 0] rfl]; simp⟩
        have hBw5 : B ≤ w5.heap.size := Nat.le_trans hBw3 hF5.size
        clear hW5 hF5 HDA hU3 HX4 HF4 HR4
        have hLN := HAT.out.2
        obtain ⟨dn, hdn0⟩ : ∃ dn, (daR u r).1.length = dn := ⟨_, rfl⟩
        rw [hdn0] at hLN HPR2 HAT
        have HDN : Hid (dn ≤ 65535) := Lib.hid (by rw [← hdn0]; exact HOR.out.2.2)
        have HZ2 : Hid ((zs ++ [(U2.1.length - 2, dn)]).length ≤ U3.1.length) := Lib.hid (by have := HZL.out; have h3 := HAT.out; have h4 : u.1.length + 10 ≤ atR u r := (by unfold atR; omega); simp; omega)
        rw [← HAT.out.1] at HPR2
        rw [← HU3.out] at HPR2 HOR
        have HOK3 : Hid (Wok 90000 U3) := Lib.hid (HOR.out.2.1.wider (by omega))
        obtain ⟨L2, hL2⟩ : ∃ L2, U2.1.length = L2 := ⟨_, rfl⟩
        obtain ⟨L3, hL3⟩ : ∃ L3, U3.1.length = L3 := ⟨_, rfl⟩
        have HLE := Lib.hid (wlenx_any (HX5.out.wx.below ((Below.refl w5.heap.size w5).drew)))
        rw [hL3] at HLE hLN
        rw [hL2] at hULn HPR2 HZ2 hLN
        try rw [hL2]
        have hdm : (L3 : Int) - (L2 : Int) = (dn : Int) := by omega
        have hdm2 : (L2 : Int) - 2 = ((L2 - 2 : Nat) : Int) := by omega
        obtain ⟨q2, hq2⟩ : ∃ q2, L2 - 2 = q2 := ⟨_, rfl⟩
        rw [hq2] at hdm2 HPR2 HZ2
        have HDL : Hid (dn ≤ 65535 ∧ q2 ≤ 20000 ∧ L2 ≤ 17542 ∧ L3 ≤ 90000) := Lib.hid ⟨HDN.out, by omega, hULn.2, by rw [← hL3]; exact HOK3.out.len⟩
        have hdl := HDL.out
        have HXD := Lib.hid (HX5.out.below ((Below.refl w5.heap.size w5).drew))
        have HFD := Lib.hid (HF5.out.trans (Foot.ofBelow (w9blk G vB5 m5 vS') ((Below.refl w5.heap.size w5).drew)))
        have hBD : B ≤ w5.drew.heap.size := hBw5
        clear HU3 HAT HU2 hL3 hq2 hdn0 HDN hLN HX5 HF5
        go_upto_region 8 with fail
        try rw [hL2]
        clear hL2
        refine wp_region_noPanic ?_
        refine wp_region_held_drew (S := fun _ => True) (by kernel_rfl) trivial (fun hHeld => ?_)
        generalize w5.drew = U5 at *
        have hc2 : U5.cell? ⟨G, 2, none⟩ = some vS' := HXD.out.wx.cx 2 (Nat.le_refl _)
        obtain ⟨aS, cS, evS⟩ := own_slice HXD.out.rs
        refine wpAnyH_take (i := 0) (v := ?_) rfl (by kernel_rfl) (by kernel_rfl) (by kernel_rfl) (fun _ _ _ h => h) (Or.inl ⟨by rfl, ?_⟩) (by assumption) ?_
        rotate_left
        · (intro w hSw; go_simp; try (with_reducible rfl))
        try simp only [Act.put, List.getElem_toArray, List.getElem_cons_zero, List.setIfInBounds_toArray, List.set_cons_zero, List.set_cons_succ]
        refine wpAnyH_take (i := 1) (v := ?_) rfl (by kernel_rfl) (by kernel_rfl) (by kernel_rfl) (fun _ _ _ h => h) (Or.inl ⟨by rfl, ?_⟩) (by assumption) ?_
        rotate_left
        · (intro w hSw; go_simp; try (with_reducible rfl))
        try simp only [Act.put, List.getElem_toArray, List.getElem_cons_zero, List.getElem_cons_succ, List.setIfInBounds_toArray, List.set_cons_zero, List.set_cons_succ]
        refine wpAnyH_take (i := 2) (v := ?_) rfl (by kernel_rfl) (by kernel_rfl) (by kernel_rfl) (fun _ _ _ h => h) (Or.inl ⟨by rfl, ?_⟩) (by assumption) ?_
        rotate_left
        · (intro w hSw; go_simp; try (with_reducible rfl))
        try simp only [Act.put, List.getElem_toArray, List.getElem_cons_zero, List.getElem_cons_succ, List.setIfInBounds_toArray, List.set_cons_zero, List.set_cons_succ]
        refine wpAnyH_take (i := 3) (v := ?_) rfl (by kernel_rfl) (by kernel_rfl) (by kernel_rfl) (fun _ _ _ h => h) (Or.inl ⟨by rfl, ?_⟩) (by assumption) ?_
        rotate_left
        · (intro w hSw; go_simp; try (with_reducible rfl))
        try simp only [Act.put, List.getElem_toArray, List.getElem_cons_zero, List.getElem_cons_succ, List.setIfInBounds_toArray, List.set_cons_zero, List.set_cons_succ]
        refine wpAnyH_take (i := 5) (v := ?_) rfl (by kernel_rfl) (by kernel_rfl) (by kernel_rfl) (fun _ _ _ h => h) (Or.inl ⟨by rfl, ?_⟩) (by assumption) ?_
        rotate_left
        · (intro w hSw; go_simp; try (with_reducible rfl))
        try simp only [Act.put, List.getElem_toArray, List.getElem_cons_zero, List.getElem_cons_succ, List.setIfInBounds_toArray, List.set_cons_zero, List.set_cons_succ]
        refine wpAnyH_take (i := 6) (v := ?_) rfl (by kernel_rfl) (by kernel_rfl) (by kernel_rfl) (fun _ _ _ h => h) (Or.inl ⟨by rfl, ?_⟩) (by assumption) ?_
        rotate_left
        · (intro w hSw; go_simp; try (with_reducible rfl))
        try simp only [Act.put, List.getElem_toArray, List.getElem_cons_zero, List.getElem_cons_succ, List.setIfInBounds_toArray, List.set_cons_zero, List.set_cons_succ]
        refine wpAnyH_take (i := 7) (v := ?_) rfl (by kernel_rfl) (by kernel_rfl) (by kernel_rfl) (fun _ _ _ h => h) (Or.inl ⟨by rfl, ?_⟩) (by assumption) ?_
        rotate_left
        · (intro w hSw; go_simp; try (with_reducible rfl))
        try simp only [Act.put, List.getElem_toArray, List.getElem_cons_zero, List.getElem_cons_succ, List.setIfInBounds_toArray, List.set_cons_zero, List.set_cons_succ]
        refine wpAnyH_take (i := 8) (v := ?_) rfl (by kernel_rfl) (by kernel_rfl) (by kernel_rfl) (fun _ _ _ h => h) (Or.inl ⟨by rfl, ?_⟩) (by assumption) ?_
        rotate_left
        · (intro w hSw; go_simp; try (with_reducible rfl))
        try simp only [Act.put, List.getElem_toArray, List.getElem_cons_zero, List.getElem_cons_succ, List.setIfInBounds_toArray, List.set_cons_zero, List.set_cons_succ]
        refine wpAnyH_take (i := 9) (v := ?_) rfl (by kernel_rfl) (by kernel_rfl) (by kernel_rfl) (fun _ _ _ h => h) (Or.inl ⟨by rfl, ?_⟩) (by assumption) ?_
        rotate_left
        · (intro w hSw; go_simp; try (with_reducible rfl))
        try simp only [Act.put, List.getElem_toArray, List.getElem_cons_zero, List.getElem_cons_succ, List.setIfInBounds_toArray, List.set_cons_zero, List.set_cons_succ]
        refine wpAnyH_take (i := 11) (v := ?_) rfl (by kernel_rfl) (by kernel_rfl) (by kernel_rfl) (fun _ _ _ h => h) (Or.inl ⟨by rfl, ?_⟩) (by assumption) ?_
        rotate_left
        · (intro w hSw; go_simp; try (with_reducible rfl))
        try simp only [Act.put, List.getElem_toArray, List.getElem_cons_zero, List.getElem_cons_succ, List.setIfInBounds_toArray, List.set_cons_zero, List.set_cons_succ]
        refine wpAnyH_ready (rs := [4, 10]) (by kernel_rfl) (by simp) ?_
        refine ready_more rfl rfl (fun K hK => ?_) ?_
        · skip
          go_wp2_with fail
          refine hK.out _ _ trivial (fun hHeld => ?_)
          clear hK K
          try simp only [Act.put, List.getElem_toArray, List.getElem_cons_zero, List.getElem_cons_succ, List.setIfInBounds_toArray, List.set_cons_zero, List.set_cons_succ]
          refine wpAnyH_ready (rs := [10]) (by kernel_rfl) (by simp) ?_
          refine AllReadyH.cons rfl (fun K hK => ?_) AllReadyH.nil
          go_simp
          refine HLE.out.mono ?_
          rintro e w6 ⟨rfl, hw6⟩
          rw [hw6]
          clear hw6 w6
          go_wp2_with fail
          refine hK.out _ _ trivial (fun hHeld => ?_)
          clear hK K
          try simp only [Act.put, List.getElem_toArray, List.getElem_cons_zero, List.getElem_cons_succ, List.setIfInBounds_toArray, List.set_cons_zero, List.set_cons_succ]
          refine wpAnyH_take (i := 12) (v := ?_) rfl (by kernel_rfl) (by kernel_rfl) (by kernel_rfl) (fun _ _ _ h => h) (Or.inl ⟨by rfl, ?_⟩) (by assumption) ?_
          rotate_left
          · (intro w hSw; go_simp; try (with_reducible rfl))
          try simp only [Act.put, List.getElem_toArray, List.getElem_cons_zero, List.getElem_cons_succ, List.setIfInBounds_toArray, List.set_cons_zero, List.set_cons_succ]
          refine wpAnyH_take (i := 13) (v := ?_) rfl (by kernel_rfl) (by kernel_rfl) (by kernel_rfl) (fun _ _ _ h => h) (Or.inl ⟨by rfl, ?_⟩) (by assumption) ?_
          rotate_left
          · (intro w hSw; go_simp; try (with_reducible rfl))
          try simp only [Act.put, List.getElem_toArray, List.getElem_cons_zero, List.getElem_cons_succ, List.setIfInBounds_toArray, List.set_cons_zero, List.set_cons_succ]
          refine wpAnyH_ready (rs := [14]) (by kernel_rfl) (by simp) ?_
          refine ready_one rfl rfl (fun K hK => ?_)
          go_wp2_with fail
          refine hK.out _ _ trivial (fun hHeld => ?_)
          clear hK K
          try simp only [Act.put, List.getElem_toArray, List.getElem_cons_zero, List.getElem_cons_succ, List.setIfInBounds_toArray, List.set_cons_zero, List.set_cons_succ]
          have HVB : Hid (Below U5.heap.size U5 (U5.alloc (.cells #[.int .i64 (q2 : Int), .int .i64 (dn : Int)] 105))) := Lib.hid ((Below.refl _ _).alloc (Nat.le_refl _) _)
          have HXE := Lib.hid (HXD.out.below HVB.out)
          have HFE := Lib.hid (HFD.out.trans (Foot.ofBelow (w9blk G vB5 m5 vS') HVB.out))
          have HOW := Lib.hid HXE.out.rs
          have HRZ : Hid ((U5.alloc (.cells #[.int .i64 (q2 : Int), .int .i64 (dn : Int)] 105)).rangeAt U5.heap.size 0 (szL (q2, dn))) := Lib.hid (built_new 105)
          have HNZ : Hid (zs.length ≤ 2000000 ∧ B ≤ (U5.alloc (.cells #[.int .i64 (q2 : Int), .int .i64 (dn : Int)] 105)).heap.size) := Lib.hid ⟨by have := HZL.out; omega, by simp; omega⟩
          try simp only [hdm, hdm2]
          refine wpAnyH_ready (rs := [15]) (by kernel_rfl) (by simp) ?_
          refine ready_one rfl rfl (fun K hK => ?_)
          refine wp_append_sz HOW HRZ HNZ _ _ rfl (by rw [evS]; rfl) rfl (fun v2 w6 HO6 HG6 HF6 => ?_)
          refine hK.out _ _ trivial (fun hHeld => ?_)
          clear hK K
          try simp only [Act.put, List.getElem_toArray, List.getElem_cons_zero, List.getElem_cons_succ, List.setIfInBounds_toArray, List.set_cons_zero, List.set_cons_succ]
          have R := HXE.out.sized HO6.out HG6.out HF6.out
          have HX6 := Lib.hid R.1
          have HFF := Lib.hid (HFE.out.trans R.2)
          have hc3 : w6.cell? ⟨G, 2, none⟩ = some vS' := (World.cell?_of_block (a := ⟨G, 2, none⟩) (HG6.out.block G HXE.out.wx.lt (fun e => HXE.out.ng e.symm))).trans (HXE.out.wx.cx 2 (Nat.le_refl _))
          have hf3 : w6.frozen? ⟨G, 2, none⟩ = false := (World.frozen?_of_block (a := ⟨G, 2, none⟩) (HG6.out.block G HXE.out.wx.lt (fun e => HXE.out.ng e.symm))).trans (HXE.out.wx.fx 2 (Nat.le_refl _))
          obtain ⟨zz, hzz⟩ : ∃ zz, zs ++ [(q2, dn)] = zz := ⟨_, rfl⟩
          have HZZ := Lib.hid hzz
          rw [hzz] at HO6 HX6
          clear hzz R
          obtain ⟨a6, c6, ev6⟩ := own_slice HO6.out
          subst ev6
          refine wpAnyH_take (i := 16) (v := ?_) rfl (by kernel_rfl) (by kernel_rfl) (by kernel_rfl) (fun _ _ _ h => h) (Or.inl ⟨by rfl, ?_⟩) (by assumption) ?_
          rotate_left
          · (intro w hSw; go_simp; try (with_reducible rfl))
          try simp only [Act.put, List.getElem_toArray, List.getElem_cons_zero, List.getElem_cons_succ, List.setIfInBounds_toArray, List.set_cons_zero, List.set_cons_succ]
          refine wpAnyH_take (i := 17) (v := ?_) rfl (by kernel_rfl) (by kernel_rfl) (by kernel_rfl) (fun _ _ _ h => h) (Or.inl ⟨by rfl, ?_⟩) (by assumption) ?_
          rotate_left
          · (intro w hSw; go_simp; try (with_reducible rfl))
          try simp only [Act.put, List.getElem_toArray, List.getElem_cons_zero, List.getElem_cons_succ, List.setIfInBounds_toArray, List.set_cons_zero, List.set_cons_succ]
          refine wpAnyH_ready (rs := [18]) (by kernel_rfl) (by simp) ?_
          refine ready_one rfl rfl (fun K hK => ?_)
          go_wp2_with fail
          refine hK.out _ _ trivial (fun hHeld => ?_)
          clear hK K
          try simp only [Act.put, List.getElem_toArray, List.getElem_cons_zero, List.getElem_cons_succ, List.setIfInBounds_toArray, List.set_cons_zero, List.set_cons_succ]
          refine wpAnyH_done (by kernel_rfl) ?_ _
          refine NoPanic.normal ?_
          clear hc3 hf3 HO6 HG6 HF6 HOW HRZ HNZ HXE HFE
          go_wp2_with fail
          go_roundw
          case rel => exact ⟨k + 1, vB5, m5, _, U3, rW t r, zz, by omega, by go_num, Lib.hid HTK.out.symm, by rw [← HZZ.out]; exact HPR2, HOK3, by rw [← HZZ.out]; exact HZ2, HX6, HFF⟩
          case measure => simp [intOf]; omega
        · refine AllReadyH.cons rfl (fun K hK => ?_) AllReadyH.nil
          go_simp
          refine HLE.out.mono ?_
          rintro e w6 ⟨rfl, hw6⟩
          rw [hw6]
          clear hw6 w6
          go_wp2_with fail
          refine hK.out _ _ trivial (fun hHeld => ?_)
          clear hK K
          try simp only [Act.put, List.getElem_toArray, List.getElem_cons_zero, List.getElem_cons_succ, List.setIfInBounds_toArray, List.set_cons_zero, List.set_cons_succ]
          refine wpAnyH_take (i := 12) (v := ?_) rfl (by kernel_rfl) (by kernel_rfl) (by kernel_rfl) (fun _ _ _ h => h) (Or.inl ⟨by rfl, ?_⟩) (by assumption) ?_
          rotate_left
          · (intro w hSw; go_simp; try (with_reducible rfl))
          try simp only [Act.put, List.getElem_toArray, List.getElem_cons_zero, List.getElem_cons_succ, List.setIfInBounds_toArray, List.set_cons_zero, List.set_cons_succ]
          refine wpAnyH_take (i := 13) (v := ?_) rfl (by kernel_rfl) (by kernel_rfl) (by kernel_rfl) (fun _ _ _ h => h) (Or.inl ⟨by rfl, ?_⟩) (by assumption) ?_
          rotate_left
          · (intro w hSw; go_simp; try (with_reducible rfl))
          try simp only [Act.put, List.getElem_toArray, List.getElem_cons_zero, List.getElem_cons_succ, List.setIfInBounds_toArray, List.set_cons_zero, List.set_cons_succ]
          refine wpAnyH_ready (rs := [4, 14]) (by kernel_rfl) (by simp) ?_
          refine ready_more rfl rfl (fun K hK => ?_) ?_
          · skip
            go_wp2_with fail
            refine hK.out _ _ trivial (fun hHeld => ?_)
            clear hK K
            try simp only [Act.put, List.getElem_toArray, List.getElem_cons_zero, List.getElem_cons_succ, List.setIfInBounds_toArray, List.set_cons_zero, List.set_cons_succ]
            refine wpAnyH_ready (rs := [14]) (by kernel_rfl) (by simp) ?_
            refine ready_one rfl rfl (fun K hK => ?_)
            go_wp2_with fail
            refine hK.out _ _ trivial (fun hHeld => ?_)
            clear hK K
            try simp only [Act.put, List.getElem_toArray, List.getElem_cons_zero, List.getElem_cons_succ, List.setIfInBounds_toArray, List.set_cons_zero, List.set_cons_succ]
            have HVB : Hid (Below U5.heap.size U5 (U5.alloc (.cells #[.int .i64 (q2 : Int), .int .i64 (dn : Int)] 105))) := Lib.hid ((Below.refl _ _).alloc (Nat.le_refl _) _)
            have HXE := Lib.hid (HXD.out.below HVB.out)
            have HFE := Lib.hid (HFD.out.trans (Foot.ofBelow (w9blk G vB5 m5 vS') HVB.out))
            have HOW := Lib.hid HXE.out.rs
            have HRZ : Hid ((U5.alloc (.cells #[.int .i64 (q2 : Int), .int .i64 (dn : Int)] 105)).rangeAt U5.heap.size 0 (szL (q2, dn))) := Lib.hid (built_new 105)
            have HNZ : Hid (zs.length ≤ 2000000 ∧ B ≤ (U5.alloc (.cells #[.int .i64 (q2 : Int), .int .i64 (dn : Int)] 105)).heap.size) := Lib.hid ⟨by have := HZL.out; omega, by simp; omega⟩
            try simp only [hdm, hdm2]
            refine wpAnyH_ready (rs := [15]) (by kernel_rfl) (by simp) ?_
            refine ready_one rfl rfl (fun K hK => ?_)
            refine wp_append_sz HOW HRZ HNZ _ _ rfl (by rw [evS]; rfl) rfl (fun v2 w6 HO6 HG6 HF6 => ?_)
            refine hK.out _ _ trivial (fun hHeld => ?_)
            clear hK K
            try simp only [Act.put, List.getElem_toArray, List.getElem_cons_zero, List.getElem_cons_succ, List.setIfInBounds_toArray, List.set_cons_zero, List.set_cons_succ]
            have R := HXE.out.sized HO6.out HG6.out HF6.out
            have HX6 := Lib.hid R.1
            have HFF := Lib.hid (HFE.out.trans R.2)
            have hc3 : w6.cell? ⟨G, 2, none⟩ = some vS' := (World.cell?_of_block (a := ⟨G, 2, none⟩) (HG6.out.block G HXE.out.wx.lt (fun e => HXE.out.ng e.symm))).trans (HXE.out.wx.cx 2 (Nat.le_refl _))
            have hf3 : w6.frozen? ⟨G, 2, none⟩ = false := (World.frozen?_of_block (a := ⟨G, 2, none⟩) (HG6.out.block G HXE.out.wx.lt (fun e => HXE.out.ng e.symm))).trans (HXE.out.wx.fx 2 (Nat.le_refl _))
            obtain ⟨zz, hzz⟩ : ∃ zz, zs ++ [(q2, dn)] = zz := ⟨_, rfl⟩
            have HZZ := Lib.hid hzz
            rw [hzz] at HO6 HX6
            clear hzz R
            obtain ⟨a6, c6, ev6⟩ := own_slice HO6.out
            subst ev6
            refine wpAnyH_take (i := 16) (v := ?_) rfl (by kernel_rfl) (by kernel_rfl) (by kernel_rfl) (fun _ _ _ h => h) (Or.inl ⟨by rfl, ?_⟩) (by assumption) ?_
            rotate_left
            · (intro w hSw; go_simp; try (with_reducible rfl))
            try simp only [Act.put, List.getElem_toArray, List.getElem_cons_zero, List.getElem_cons_succ, List.setIfInBounds_toArray, List.set_cons_zero, List.set_cons_succ]
            refine wpAnyH_take (i := 17) (v := ?_) rfl (by kernel_rfl) (by kernel_rfl) (by kernel_rfl) (fun _ _ _ h => h) (Or.inl ⟨by rfl, ?_⟩) (by assumption) ?_
            rotate_left
            · (intro w hSw; go_simp; try (with_reducible rfl))
            try simp only [Act.put, List.getElem_toArray, List.getElem_cons_zero, List.getElem_cons_succ, List.setIfInBounds_toArray, List.set_cons_zero, List.set_cons_succ]
            refine wpAnyH_ready (rs := [18]) (by kernel_rfl) (by simp) ?_
            refine ready_one rfl rfl (fun K hK => ?_)
            go_wp2_with fail
            refine hK.out _ _ trivial (fun hHeld => ?_)
            clear hK K
            try simp only [Act.put, List.getElem_toArray, List.getElem_cons_zero, List.getElem_cons_succ, List.setIfInBounds_toArray, List.set_cons_zero, List.set_cons_succ]
            refine wpAnyH_done (by kernel_rfl) ?_ _
            refine NoPanic.normal ?_
            clear hc3 hf3 HO6 HG6 HF6 HOW HRZ HNZ HXE HFE
            go_wp2_with fail
            go_roundw
            case rel => exact ⟨k + 1, vB5, m5, _, U3, rW t r, zz, by omega, by go_num, Lib.hid HTK.out.symm, by rw [← HZZ.out]; exact HPR2, HOK3, by rw [← HZZ.out]; exact HZ2, HX6, HFF⟩
            case measure => simp [intOf]; omega
          · refine ready_one rfl rfl (fun K hK => ?_)
            go_wp2_with fail
            refine hK.out _ _ trivial (fun hHeld => ?_)
            clear hK K
            try simp only [Act.put, List.getElem_toArray, List.getElem_cons_zero, List.getElem_cons_succ, List.setIfInBounds_toArray, List.set_cons_zero, List.set_cons_succ]
            have hc2b : (U5.alloc (.cells #[.int .i64 (q2 : Int), .int .i64 (dn : Int)] 105)).cell? ⟨G, 2, none⟩ = some vS' := (HXD.out.below ((Below.refl _ _).alloc (Nat.le_refl _) _)).wx.cx 2 (Nat.le_refl _)
            refine wpAnyH_ready (rs := [4]) (by kernel_rfl) (by simp) ?_
            refine ready_one rfl rfl (fun K hK => ?_)
            go_wp2_with fail
            refine hK.out _ _ trivial (fun hHeld => ?_)
            clear hK K
            try simp only [Act.put, List.getElem_toArray, List.getElem_cons_zero, List.getElem_cons_succ, List.setIfInBounds_toArray, List.set_cons_zero, List.set_cons_succ]
            have HVB : Hid (Below U5.heap.size U5 (U5.alloc (.cells #[.int .i64 (q2 : Int), .int .i64 (dn : Int)] 105))) := Lib.hid ((Below.refl _ _).alloc (Nat.le_refl _) _)
            have HXE := Lib.hid (HXD.out.below HVB.out)
            have HFE := Lib.hid (HFD.out.trans (Foot.ofBelow (w9blk G vB5 m5 vS') HVB.out))
            have HOW := Lib.hid HXE.out.rs
            have HRZ : Hid ((U5.alloc (.cells #[.int .i64 (q2 : Int), .int .i64 (dn : Int)] 105)).rangeAt U5.heap.size 0 (szL (q2, dn))) := Lib.hid (built_new 105)
            have HNZ : Hid (zs.length ≤ 2000000 ∧ B ≤ (U5.alloc (.cells #[.int .i64 (q2 : Int), .int .i64 (dn : Int)] 105)).heap.size) := Lib.hid ⟨by have := HZL.out; omega, by simp; omega⟩
            try simp only [hdm, hdm2]
            refine wpAnyH_ready (rs := [15]) (by kernel_rfl) (by simp) ?_
            refine ready_one rfl rfl (fun K hK => ?_)
            refine wp_append_sz HOW HRZ HNZ _ _ rfl (by rw [evS]; rfl) rfl (fun v2 w6 HO6 HG6 HF6 => ?_)
            refine hK.out _ _ trivial (fun hHeld => ?_)
            clear hK K
            try simp only [Act.put, List.getElem_toArray, List.getElem_cons_zero, List.getElem_cons_succ, List.setIfInBounds_toArray, List.set_cons_zero, List.set_cons_succ]
            have R := HXE.out.sized HO6.out HG6.out HF6.out
            have HX6 := Lib.hid R.1
            have HFF := Lib.hid (HFE.out.trans R.2)
            have hc3 : w6.cell? ⟨G, 2, none⟩ = some vS' := (World.cell?_of_block (a := ⟨G, 2, none⟩) (HG6.out.block G HXE.out.wx.lt (fun e => HXE.out.ng e.symm))).trans (HXE.out.wx.cx 2 (Nat.le_refl _))
            have hf3 : w6.frozen? ⟨G, 2, none⟩ = false := (World.frozen?_of_block (a := ⟨G, 2, none⟩) (HG6.out.block G HXE.out.wx.lt (fun e => HXE.out.ng e.symm))).trans (HXE.out.wx.fx 2 (Nat.le_refl _))
            obtain ⟨zz, hzz⟩ : ∃ zz, zs ++ [(q2, dn)] = zz := ⟨_, rfl⟩
            have HZZ := Lib.hid hzz
            rw [hzz] at HO6 HX6
            clear hzz R
            obtain ⟨a6, c6, ev6⟩ := own_slice HO6.out
            subst ev6
            refine wpAnyH_take (i := 16) (v := ?_) rfl (by kernel_rfl) (by kernel_rfl) (by kernel_rfl) (fun _ _ _ h => h) (Or.inl ⟨by rfl, ?_⟩) (by assumption) ?_
            rotate_left
            · (intro w hSw; go_simp; try (with_reducible rfl))
            try simp only [Act.put, List.getElem_toArray, List.getElem_cons_zero, List.getElem_cons_succ, List.setIfInBounds_toArray, List.set_cons_zero, List.set_cons_succ]
            refine wpAnyH_take (i := 17) (v := ?_) rfl (by kernel_rfl) (by kernel_rfl) (by kernel_rfl) (fun _ _ _ h => h) (Or.inl ⟨by rfl, ?_⟩) (by assumption) ?_
            rotate_left
            · (intro w hSw; go_simp; try (with_reducible rfl))
            try simp only [Act.put, List.getElem_toArray, List.getElem_cons_zero, List.getElem_cons_succ, List.setIfInBounds_toArray, List.set_cons_zero, List.set_cons_succ]
            refine wpAnyH_ready (rs := [18]) (by kernel_rfl) (by simp) ?_
            refine ready_one rfl rfl (fun K hK => ?_)
            go_wp2_with fail
            refine hK.out _ _ trivial (fun hHeld => ?_)
            clear hK K
            try simp only [Act.put, List.getElem_toArray, List.getElem_cons_zero, List.getElem_cons_succ, List.setIfInBounds_toArray, List.set_cons_zero, List.set_cons_succ]
            refine wpAnyH_done (by kernel_rfl) ?_ _
            refine NoPanic.normal ?_
            clear hc3 hf3 HO6 HG6 HF6 HOW HRZ HNZ HXE HFE
            go_wp2_with fail
            go_roundw
            case rel => exact ⟨k + 1, vB5, m5, _, U3, rW t r, zz, by omega, by go_num, Lib.hid HTK.out.symm, by rw [← HZZ.out]; exact HPR2, HOK3, by rw [← HZZ.out]; exact HZ2, HX6, HFF⟩
            case measure => simp [intOf]; omega
    · obtain rfl : k = N := by omega
      have hd : decide ((k : Int) < (k : Int)) = false := by simp
      have HEQ : Hid (D.foldl (gd rW) t0 = t) := Lib.hid (by rw [HT.out, List.take_of_length_le (by rw [HN.out]; exact Nat.le_refl _)])
      go_wp2_with fail
      go_end0
      rw [HEQ.out]
      exact ⟨rfl, _, _, _, _, _, HX.out, HPR.out, HOT.out, HZL.out, HF.out⟩
end Go.Proofs.Yticdpidngmeebaa
/- Contract of the landed writer's whole: all bytes, the sizes put in. -/
namespace Go.Proofs.Yticdpidngmeebaa
open Go.RowKit Go.Maps
set_option linter.unusedVariables false
set_option maxRecDepth 20000

/-- A byte of a row of one's own turned. -/
theorem own_setB {w : World} {B g c n : Nat} {l : List UInt8} (h : w.ownsRow B 5 1 (.slice (some ⟨g, 0, none⟩) n c) l.length (bys l)) (i : Nat) (x : UInt8) (hi : i < l.length) :
    (w.setCell ⟨g, i, none⟩ (.int .u8 (x.toNat : Int))).ownsRow B 5 1 (.slice (some ⟨g, 0, none⟩) n c) (l.set i x).length (bys (l.set i x)) ∧ w.frozen? ⟨g, i, none⟩ = false ∧ ∃ v, w.cell? ⟨g, i, none⟩ = some v := by
  obtain ⟨h1, h2⟩ := h
  rcases h2 with ⟨h2, _⟩ | ⟨g', cap, cur, hv, hg, hh, h3, h4, h5, h6⟩
  · cases h2
  · cases hv
    rw [Nat.mul_one] at h5 h6
    have hb : (bys (l.set i x)) = (bys l).set i (.int .u8 (x.toNat : Int)) := by unfold bys; rw [List.map_set]
    refine ⟨⟨by rw [bys_length, Nat.mul_one], .inr ⟨g, c, cur.setIfInBounds i (.int .u8 (x.toNat : Int)), by rw [List.length_set], hg, heap_setCell_same w g i cur _ _ hh, by rw [List.length_set]; exact h3, h4, by rw [Array.size_setIfInBounds, Nat.mul_one]; exact h5, ?_⟩⟩, ?_, ?_⟩
    · rw [List.length_set, Nat.mul_one, hb, ← h6, Array.toList_setIfInBounds, List.take_set]
    · simp [World.frozen?, hh]
    · have : i < cur.size := by omega
      exact ⟨cur[i], by simp [World.cell?, hh, this]⟩
theorem patch_at (l : List UInt8) (zs : List (Nat × Nat)) (k : Nat) (hk : k < zs.length) : patchAll l (zs.take (k + 1)) = patch (patchAll l (zs.take k)) zs[k].1 zs[k].2 := by
  unfold patchAll
  rw [List.take_add_one, List.getElem?_eq_getElem hk, List.foldl_append]
  rfl
theorem own_szs {w : World} {B : Nat} {v : Value} {zs : List (Nat × Nat)} (h : w.ownsRow B 105 2 v zs.length (flatZ zs)) (k : Nat) (hk : k < zs.length) : ∃ g c, v = .slice (some ⟨g, 0, none⟩) zs.length c ∧ B ≤ g ∧ g < w.heap.size ∧ w.cell? ⟨g, k * 2, none⟩ = some (.int .i64 (zs[k].1 : Int)) ∧ w.cell? ⟨g, k * 2 + 1, none⟩ = some (.int .i64 (zs[k].2 : Int)) := by
  rcases h.2 with ⟨_, h2⟩ | ⟨g, cap, cur, hv, hg, hh, h3, h4, h5, h6⟩
  · omega
  · have hr : w.rangeAt g 0 (flatZ zs) := fun j u hu => by
      have := h.cells (g := g) (by rw [hv]; rfl) j u hu
      rw [add_none] at this
      rwa [Nat.zero_add]
    have := range_at hr (S := 2) (fun d hd => rfl) k hk
    refine ⟨g, cap, hv, hg, (h.lt g (by rw [hv]; rfl)).2, ?_, ?_⟩
    · have := this 0 _ rfl
      simpa using this
    · have := this 1 _ rfl
      simpa using this
set_option maxRecDepth 100000 in
set_option maxHeartbeats 4000000 in
theorem whole_any {w : World} {G B : Nat} {vB vS : Value} {m : Option Nat} {u : Wst} {zs : List (Nat × Nat)} (h : W9 w G B vB m vS u zs) (hat : ∀ z ∈ zs, z.1 + 2 ≤ u.1.length) (hlo : ∀ z ∈ zs, z.2 ≤ 65535) (hl : u.1.length ≤ 100000) (hzl : zs.length ≤ 100000) :
    Calls Try.prog 32 #[.pointer (some ⟨G, 0, none⟩)] w fun e w' => ∃ v', e = .returned v' ∧ w'.ownsRow w.heap.size 5 1 v' (patchAll u.1 zs).length (bys (patchAll u.1 zs)) ∧ Below w.heap.size w w' := by
  have HBY := Lib.hid (wbytes_any h.wx.toWrAt (by omega))
  have HH := Lib.hid h
  have HAT := Lib.hid hat
  have HLO := Lib.hid hlo
  obtain ⟨aS, cS, evS⟩ := own_slice h.rs
  subst evS
  obtain ⟨N, hN⟩ : ∃ N, zs.length = N := ⟨_, rfl⟩
  have HN := Lib.hid hN
  obtain ⟨L, hL⟩ : ∃ L, u.1.length = L := ⟨_, rfl⟩
  have HL := Lib.hid hL
  rw [hN] at hzl HH
  rw [hL] at hl
  clear h hat hlo hN hL
  go_enter Try.func32, Try.ntmps32
  go_wp2_with fail
  refine HBY.out.mono ?_
  rintro e w1 ⟨v', rfl, ho, hb⟩
  have HX := Lib.hid (HH.out.below hb)
  have HB1 := Lib.hid hb
  have HO1 := Lib.hid ho
  obtain ⟨a1, c1, ev1⟩ := own_slice ho
  subst ev1
  have hc2 : w1.cell? ⟨G, 2, none⟩ = some (.slice aS N cS) := HX.out.wx.cx 2 (Nat.le_refl _)
  rw [HL.out] at HO1
  obtain ⟨vb, hvb⟩ : ∃ vb : Value, vb = .slice a1 L c1 := ⟨_, rfl⟩
  have HVB := Lib.hid hvb
  clear hvb hb ho HBY
  go_wp2_with fail
  clear hc2
  try rw [HL.out]
  go_loopw [15] (fun i wr => ∃ k : Nat, k ≤ N ∧ i = .int .i64 (k : Int) ∧ Hid (wr.ownsRow w.heap.size 5 1 (.slice a1 L c1) (patchAll u.1 (zs.take k)).length (bys (patchAll u.1 (zs.take k)))) ∧ Hid (Below w.heap.size w wr)) (fun i _ => N - (intOf i).toNat)
  case atStart => exact ⟨0, Nat.zero_le _, rfl, Lib.hid (by have := HO1.out; simp only [List.take_zero]; show w1.ownsRow _ _ _ _ u.1.length (bys u.1); rw [HL.out]; exact this), HB1⟩
  case round =>
    clear HX HB1 HO1
    obtain ⟨k, hk, rfl, HO, HB⟩ := hrel
    have HX := Lib.hid (HH.out.below HB.out)
    by_cases hkN : k < N
    · have hd : decide ((k : Int) < (N : Int)) = true := decide_eq_true (by omega)
      have hdn : decide (k < N) = true := decide_eq_true hkN
      have hkD : k < zs.length := by rw [HN.out]; exact hkN
      obtain ⟨gS, cc, ev, hgB, hgl, z0, z1⟩ := own_szs HX.out.rs k hkD
      injection ev with ev1 ev2 ev3
      subst ev1
      have hz1 := HAT.out _ (List.getElem_mem hkD)
      have hz2 := HLO.out _ (List.getElem_mem hkD)
      have HPA := Lib.hid (patch_at u.1 zs k hkD)
      have HPL : Hid ((patchAll u.1 (zs.take k)).length = L) := Lib.hid (by rw [patchAll_len, HL.out])
      generalize patchAll u.1 (zs.take k) = l at *
      generalize zs[k] = z at *
      obtain ⟨p, n⟩ := z
      simp only at z0 z1 hz1 hz2 HPA
      rw [HL.out] at hz1
      have hb1 : (0 : Int) ≤ (k : Int) := by omega
      have hb2 : (k : Int) < (N : Int) := by omega
      rcases HO.out.2 with ⟨h1, h2⟩ | ⟨g, cap, cur, h1, hgg, _⟩
      · have := HPL.out; omega
      injection h1 with h1 h3 h4
      subst h1
      have hgl2 : g < wr.heap.size := (HO.out.lt g rfl).2
      have HVC : Hid (Below wr.heap.size wr (wr.alloc (.cells #[.int .i64 (p : Int), .int .i64 (n : Int)] 105))) := Lib.hid ((Below.refl _ _).alloc (Nat.le_refl _) _)
      have HVR : Hid ((wr.alloc (.cells #[.int .i64 (p : Int), .int .i64 (n : Int)] 105)).rangeAt wr.heap.size 0 (szL (p, n))) := Lib.hid (built_new 105)
      have HGN : Hid (g ≠ wr.heap.size ∧ w.heap.size ≤ g) := Lib.hid ⟨by omega, hgg⟩
      clear ev2 ev3 hgB hgl h3 h4
      go_upto_region 5 with fail
      replace HO := Lib.hid (own_below8 HO.out HVC.out)
      replace HX := Lib.hid (HX.out.below HVC.out)
      replace HB := Lib.hid (chain HB.out HVC.out)
      obtain ⟨V, hV⟩ : ∃ V, wr.alloc (.cells #[.int .i64 (p : Int), .int .i64 (n : Int)] 105) = V := ⟨_, rfl⟩
      rw [hV] at HX HB HO HVR
      try rw [hV]
      generalize wr.heap.size = P at *
      clear hV HVC z0 z1 hgl2
      have HOD := Lib.hid (own_below8 HO.out ((Below.refl V.heap.size V).drew))
      have HXD := Lib.hid (HX.out.below ((Below.refl V.heap.size V).drew))
      have HBD := Lib.hid (chain HB.out ((Below.refl V.heap.size V).drew))
      have HVD : Hid (V.drew.rangeAt P 0 (szL (p, n))) := HVR
      clear HO HX HB HVR
      refine wp_region_noPanic ?_
      obtain ⟨S, hS⟩ : ∃ S : World → Prop, (fun W => W.rangeAt P 0 (szL (p, n))) = S := ⟨_, rfl⟩
      have C1 : Hid (∀ w', S w' → w'.cell? ⟨P, 0, none⟩ = some (.int .i64 (p : Int))) := Lib.hid (fun w' h => by rw [← hS] at h; exact h 0 _ rfl)
      have C2 : Hid (∀ w', S w' → w'.cell? ⟨P, 1, none⟩ = some (.int .i64 (n : Int))) := Lib.hid (fun w' h => by rw [← hS] at h; exact h 1 _ rfl)
      have HSS : Hid (S V.drew) := Lib.hid (by rw [← hS]; exact HVD.out)
      have HSI : Hid (∀ w', w'.rangeAt P 0 (szL (p, n)) → S w') := Lib.hid (fun w' h => by rw [← hS]; exact h)
      clear hS
      refine wp_region_held_drew (S := S) (by kernel_rfl) HSS.out (fun hHeld => ?_)
      generalize V.drew = U at *
      refine wpAnyH_take (i := 0) (v := ?_) rfl (by kernel_rfl) (by kernel_rfl) (by kernel_rfl) (fun _ _ _ h => h) (Or.inl ⟨by rfl, ?_⟩) (by assumption) ?_
      rotate_left
      · (intro w hSw; go_simp; try (with_reducible rfl))
      try simp only [Act.put, List.getElem_toArray, List.getElem_cons_zero, List.setIfInBounds_toArray, List.set_cons_zero, List.set_cons_succ]
      refine wpAnyH_take (i := 1) (v := ?_) rfl (by kernel_rfl) (by kernel_rfl) (by kernel_rfl) (fun _ _ _ h => h) (Or.inl ⟨by rfl, ?_⟩) (by assumption) ?_
      rotate_left
      · (intro w hSw; go_simp; try (with_reducible rfl))
      try simp only [Act.put, List.getElem_toArray, List.getElem_cons_zero, List.getElem_cons_succ, List.setIfInBounds_toArray, List.set_cons_zero, List.set_cons_succ]
      refine wpAnyH_take (i := 2) (v := ?_) rfl (by kernel_rfl) (by kernel_rfl) (by kernel_rfl) (fun _ _ _ h => h) (Or.inl ⟨by rfl, ?_⟩) (by assumption) ?_
      rotate_left
      · (intro w hSw; have hc0 := C1.out w hSw; go_simp; try (with_reducible rfl))
      try simp only [Act.put, List.getElem_toArray, List.getElem_cons_zero, List.getElem_cons_succ, List.setIfInBounds_toArray, List.set_cons_zero, List.set_cons_succ]
      refine wpAnyH_take (i := 3) (v := ?_) rfl (by kernel_rfl) (by kernel_rfl) (by kernel_rfl) (fun _ _ _ h => h) (Or.inl ⟨by rfl, ?_⟩) (by assumption) ?_
      rotate_left
      · (intro w hSw; go_simp; try (with_reducible rfl))
      try simp only [Act.put, List.getElem_toArray, List.getElem_cons_zero, List.getElem_cons_succ, List.setIfInBounds_toArray, List.set_cons_zero, List.set_cons_succ]
      refine wpAnyH_take (i := 4) (v := ?_) rfl (by kernel_rfl) (by kernel_rfl) (by kernel_rfl) (fun _ _ _ h => h) (Or.inl ⟨by rfl, ?_⟩) (by assumption) ?_
      rotate_left
      · (intro w hSw; go_simp; try (with_reducible rfl))
      try simp only [Act.put, List.getElem_toArray, List.getElem_cons_zero, List.getElem_cons_succ, List.setIfInBounds_toArray, List.set_cons_zero, List.set_cons_succ]
      refine wpAnyH_take (i := 5) (v := ?_) rfl (by kernel_rfl) (by kernel_rfl) (by kernel_rfl) (fun _ _ _ h => h) (Or.inl ⟨by rfl, ?_⟩) (by assumption) ?_
      rotate_left
      · (intro w hSw; have hc0 := C1.out w hSw; go_simp; try (with_reducible rfl))
      try simp only [Act.put, List.getElem_toArray, List.getElem_cons_zero, List.getElem_cons_succ, List.setIfInBounds_toArray, List.set_cons_zero, List.set_cons_succ]
      refine wpAnyH_take (i := 6) (v := ?_) rfl (by kernel_rfl) (by kernel_rfl) (by kernel_rfl) (fun _ _ _ h => h) (Or.inl ⟨by rfl, ?_⟩) (by assumption) ?_
      rotate_left
      · (intro w hSw; go_simp; try (with_reducible rfl))
      try simp only [Act.put, List.getElem_toArray, List.getElem_cons_zero, List.getElem_cons_succ, List.setIfInBounds_toArray, List.set_cons_zero, List.set_cons_succ]
      refine wpAnyH_take (i := 7) (v := ?_) rfl (by kernel_rfl) (by kernel_rfl) (by kernel_rfl) (fun _ _ _ h => h) (Or.inl ⟨by rfl, ?_⟩) (by assumption) ?_
      rotate_left
      · (intro w hSw; go_simp; try (with_reducible rfl))
      try simp only [Act.put, List.getElem_toArray, List.getElem_cons_zero, List.getElem_cons_succ, List.setIfInBounds_toArray, List.set_cons_zero, List.set_cons_succ]
      refine wpAnyH_take (i := 8) (v := ?_) rfl (by kernel_rfl) (by kernel_rfl) (by kernel_rfl) (fun _ _ _ h => h) (Or.inl ⟨by rfl, ?_⟩) (by assumption) ?_
      rotate_left
      · (intro w hSw; have hc0 := C2.out w hSw; go_simp; try (with_reducible rfl))
      try simp only [Act.put, List.getElem_toArray, List.getElem_cons_zero, List.getElem_cons_succ, List.setIfInBounds_toArray, List.set_cons_zero, List.set_cons_succ]
      refine wpAnyH_take (i := 9) (v := ?_) rfl (by kernel_rfl) (by kernel_rfl) (by kernel_rfl) (fun _ _ _ h => h) (Or.inl ⟨by rfl, ?_⟩) (by assumption) ?_
      rotate_left
      · (intro w hSw; go_simp; try (with_reducible rfl))
      try simp only [Act.put, List.getElem_toArray, List.getElem_cons_zero, List.getElem_cons_succ, List.setIfInBounds_toArray, List.set_cons_zero, List.set_cons_succ]
      refine wpAnyH_take (i := 10) (v := ?_) rfl (by kernel_rfl) (by kernel_rfl) (by kernel_rfl) (fun _ _ _ h => h) (Or.inl ⟨by rfl, ?_⟩) (by assumption) ?_
      rotate_left
      · (intro w hSw; go_simp; try (with_reducible rfl))
      try simp only [Act.put, List.getElem_toArray, List.getElem_cons_zero, List.getElem_cons_succ, List.setIfInBounds_toArray, List.set_cons_zero, List.set_cons_succ]
      refine wpAnyH_take (i := 11) (v := ?_) rfl (by kernel_rfl) (by kernel_rfl) (by kernel_rfl) (fun _ _ _ h => h) (Or.inl ⟨by rfl, ?_⟩) (by assumption) ?_
      rotate_left
      · (intro w hSw; go_simp; try (with_reducible rfl))
      try simp only [Act.put, List.getElem_toArray, List.getElem_cons_zero, List.getElem_cons_succ, List.setIfInBounds_toArray, List.set_cons_zero, List.set_cons_succ]
      refine wpAnyH_take (i := 12) (v := ?_) rfl (by kernel_rfl) (by kernel_rfl) (by kernel_rfl) (fun _ _ _ h => h) (Or.inl ⟨by rfl, ?_⟩) (by assumption) ?_
      rotate_left
      · (intro w hSw; have hc0 := C2.out w hSw; go_simp; try (with_reducible rfl))
      try simp only [Act.put, List.getElem_toArray, List.getElem_cons_zero, List.getElem_cons_succ, List.setIfInBounds_toArray, List.set_cons_zero, List.set_cons_succ]
      refine wpAnyH_take (i := 13) (v := ?_) rfl (by kernel_rfl) (by kernel_rfl) (by kernel_rfl) (fun _ _ _ h => h) (Or.inl ⟨by rfl, ?_⟩) (by assumption) ?_
      rotate_left
      · (intro w hSw; go_simp; try (with_reducible rfl))
      try simp only [Act.put, List.getElem_toArray, List.getElem_cons_zero, List.getElem_cons_succ, List.setIfInBounds_toArray, List.set_cons_zero, List.set_cons_succ]
      obtain ⟨x, hx⟩ : ∃ x : UInt8, UInt8.ofNat (n / 256) = x := ⟨_, rfl⟩
      obtain ⟨y, hy⟩ : ∃ y : UInt8, UInt8.ofNat (n % 256) = y := ⟨_, rfl⟩
      have hw1 : IntKind.i64.wrap ((p : Int) + 1) = ((p + 1 : Nat) : Int) := by rw [IntKind.wrap_i64]; omega
      have hw2 : IntKind.u8.wrap ((n : Int) / 256) = (x.toNat : Int) := by rw [← hx, UInt8.toNat_ofNat', IntKind.wrap_u8]; omega
      have hw3 : IntKind.u8.wrap (n : Int) = (y.toNat : Int) := by rw [← hy, UInt8.toNat_ofNat', IntKind.wrap_u8]; omega
      simp only [hw1, hw2, hw3]
      have HPT : Hid (patch l p n = (l.set p x).set (p + 1) y) := Lib.hid (by unfold patch; rw [hx, hy])
      clear hw1 hw2 hw3 hx hy
      have hlx := x.toNat_lt
      have hly := y.toNat_lt
      generalize hq : p + 1 = q at *
      have hi1 : (0 : Int) ≤ (p : Int) := by omega
      have hi2 : (p : Int) < (L : Int) := by omega
      have hi3 : (0 : Int) ≤ (q : Int) := by omega
      have hi4 : (q : Int) < (L : Int) := by omega
      have hj2 : decide ((L : Int) ≤ (p : Int)) = false := decide_eq_false (by omega)
      have hj4 : decide ((L : Int) ≤ (q : Int)) = false := decide_eq_false (by omega)
      have A1 := own_setB HOD.out p x (by rw [HPL.out]; omega)
      obtain ⟨A1o, A1f, v1, A1c⟩ := A1
      have A2 := own_setB A1o q y (by rw [List.length_set, HPL.out]; omega)
      obtain ⟨A2o, A2f, v2, A2c⟩ := A2
      have HA2 := Lib.hid A2o
      have hS1 := Lib.hid (HSI.out (U.setCell ⟨g, p, none⟩ (.int .u8 (x.toNat : Int))) (fun j u hu => (World.cell?_setCell_other _ _ _ _ (by intro h; injection h with h _; exact HGN.out.1 h)).trans (HVD.out j u hu)))
      have hS2 := Lib.hid (HSI.out ((U.setCell ⟨g, p, none⟩ (.int .u8 (x.toNat : Int))).setCell ⟨g, q, none⟩ (.int .u8 (y.toNat : Int))) (fun j u hu => (World.cell?_setCell_other _ _ _ _ (by intro h; injection h with h _; exact HGN.out.1 h)).trans ((World.cell?_setCell_other _ _ _ _ (by intro h; injection h with h _; exact HGN.out.1 h)).trans (HVD.out j u hu))))
      have HB2 : Hid (Below w.heap.size w ((U.setCell ⟨g, p, none⟩ (.int .u8 (x.toNat : Int))).setCell ⟨g, q, none⟩ (.int .u8 (y.toNat : Int)))) := Lib.hid ((HBD.out.setCell (show w.heap.size ≤ g from HGN.out.2) _).setCell (show w.heap.size ≤ g from HGN.out.2) _)
      clear A1o A2o hq
      refine wpAnyH_take (i := 14) (v := ?_) rfl (by kernel_rfl) (by kernel_rfl) (by kernel_rfl) (fun _ _ _ h => h) (Or.inl ⟨by rfl, ?_⟩) (by assumption) ?_
      rotate_left
      · (intro w hSw; go_simp; try (with_reducible rfl))
      try simp only [Act.put, List.getElem_toArray, List.getElem_cons_zero, List.getElem_cons_succ, List.setIfInBounds_toArray, List.set_cons_zero, List.set_cons_succ]
      refine wpAnyH_ready (rs := [15]) (by kernel_rfl) (by simp) ?_
      refine ready_one rfl rfl (fun K hK => ?_)
      go_wp2_with fail
      refine hK.out _ _ hS1.out (fun hHeldb => ?_)
      clear hK K
      try simp only [Act.put, List.getElem_toArray, List.getElem_cons_zero, List.getElem_cons_succ, List.setIfInBounds_toArray, List.set_cons_zero, List.set_cons_succ]
      refine wpAnyH_take (i := 16) (v := ?_) rfl (by kernel_rfl) (by kernel_rfl) (by kernel_rfl) (fun _ _ _ h => h) (Or.inl ⟨by rfl, ?_⟩) (by assumption) ?_
      rotate_left
      · (intro w hSw; go_simp; try (with_reducible rfl))
      try simp only [Act.put, List.getElem_toArray, List.getElem_cons_zero, List.getElem_cons_succ, List.setIfInBounds_toArray, List.set_cons_zero, List.set_cons_succ]
      refine wpAnyH_ready (rs := [17]) (by kernel_rfl) (by simp) ?_
      refine ready_one rfl rfl (fun K hK => ?_)
      go_wp2_with fail
      refine hK.out _ _ hS2.out (fun hHeldc => ?_)
      clear hK K
      try simp only [Act.put, List.getElem_toArray, List.getElem_cons_zero, List.getElem_cons_succ, List.setIfInBounds_toArray, List.set_cons_zero, List.set_cons_succ]
      refine wpAnyH_done (by kernel_rfl) ?_ _
      refine NoPanic.normal ?_
      have HRW : Hid (((U.setCell ⟨g, p, none⟩ (.int .u8 (x.toNat : Int))).setCell ⟨g, q, none⟩ (.int .u8 (y.toNat : Int))).ownsRow w.heap.size 5 1 (.slice (some ⟨g, 0, none⟩) L c1) (patchAll u.1 (zs.take (k + 1))).length (bys (patchAll u.1 (zs.take (k + 1))))) := Lib.hid (by rw [HPA.out, HPT.out]; exact HA2.out)
      clear hHeld hHeldb hHeldc hS1 hS2 HSS HSI C1 C2 HVD HA2 A1f A1c A2f A2c
      go_wp2_with fail
      go_roundw
      case rel => exact ⟨k + 1, by omega, by go_num, HRW, HB2⟩
      case measure => simp [intOf]; omega
    · obtain rfl : k = N := by omega
      have hd : decide ((k : Int) < (k : Int)) = false := by simp
      have HEQ : Hid (zs.take k = zs) := Lib.hid (List.take_of_length_le (by rw [HN.out]; exact Nat.le_refl _))
      go_wp2_with fail
      go_ret
      refine ⟨_, rfl, ?_, HB.out⟩
      have := HO.out
      rw [HEQ.out] at this
      exact this
end Go.Proofs.Yticdpidngmeebaa
/- Contract of the landed wire's Write. -/
namespace Go.Proofs.Yticdpidngmeebaa
open Go.RowKit Go.Maps
set_option linter.unusedVariables false
set_option maxRecDepth 20000

/-- What Write tells. -/
def WriteRet (w : World) (m : Msg) (e : Ending) (w' : World) : Prop :=
  Below w.heap.size w w' ∧ ((mayM m = false ∧ e = .returned (.tuple #[.slice none 0 0, .int .i64 1])) ∨ (mayM m = true ∧ 1232 < (wB m).length ∧ e = .returned (.tuple #[.slice none 0 0, .int .i64 3])) ∨
    (mayM m = true ∧ (wB m).length ≤ 1232 ∧ ∃ v', e = .returned (.tuple #[v', .int .i64 0]) ∧ w'.ownsRow w.heap.size 5 1 v' (wB m).length (bys (wB m))))
theorem PR.refl (u : Wst) : PR u [] u := ⟨rfl, rfl, rfl, by simp, by simp⟩
theorem mayM_parts {m : Msg} (h : mayM m = true) : (∀ q ∈ m.qs, mayQ9 q = true) ∧ (0 ≤ m.id ∧ m.id ≤ 65535) ∧ (0 ≤ m.fl ∧ m.fl ≤ 65535) ∧ (∀ r ∈ m.an, mayR r = true) ∧ (∀ r ∈ m.au, mayR r = true) ∧ ∀ r ∈ m.mo, mayR r = true := by
  unfold mayM at h
  simp only [Bool.and_eq_true, List.all_eq_true, wordN, decide_eq_true_eq] at h
  obtain ⟨⟨⟨⟨⟨h1, h2⟩, h3⟩, h4⟩, h5⟩, h6⟩ := h
  exact ⟨h1, h2, h3, h4, h5, h6⟩
theorem Wok.gqs {u : Wst} : ∀ (D : List Qu), (∀ q ∈ D, mayQ9 q = true) → Wok 90000 u → Wok 90000 (D.foldl (gd qW) u)
  | [], _, h => h
  | q :: D, hD, h => Wok.gqs D (fun x hx => hD x (List.mem_cons_of_mem _ hx)) (h.gq (hD q (List.mem_cons_self ..)))
def Len4 (m : Msg) : Prop := m.qs.length ≤ 65535 ∧ m.an.length ≤ 65535 ∧ m.au.length ≤ 65535 ∧ m.mo.length ≤ 65535
theorem nats6 (a b c d e f : Nat) : nats9 [a, b, c, d, e, f] = [.int .i64 (a : Int), .int .i64 (b : Int), .int .i64 (c : Int), .int .i64 (d : Int), .int .i64 (e : Int), .int .i64 (f : Int)] := rfl
set_option maxRecDepth 100000 in
set_option maxHeartbeats 8000000 in
theorem write9_any (m : Msg) (aq a1 a2 a3 : Option Addr) (cq c1 c2 c3 : Nat) (w : World) (hM : MsgIn w m aq a1 a2 a3 cq c1 c2 c3) (hr : RoomM m) (h4 : Len4 m) :
    Calls Try.prog 11 #[msgV m aq a1 a2 a3 cq c1 c2 c3] w (WriteRet w m) := by
  obtain ⟨W, hW⟩ : ∃ W, w.alloc (.cells #[.int .i64 m.id, .int .i64 m.fl, .slice aq m.qs.length cq, .slice a1 m.an.length c1, .slice a2 m.au.length c2, .slice a3 m.mo.length c3] 25) = W := ⟨_, rfl⟩
  have HB0 : Hid (Below w.heap.size w W) := Lib.hid (by rw [← hW]; exact (Below.refl _ _).alloc (Nat.le_refl _) _)
  have HBX : Hid (MBox W w.heap.size (.int .i64 m.id) (.int .i64 m.fl) (.slice aq m.qs.length cq) (.slice a1 m.an.length c1) (.slice a2 m.au.length c2) (.slice a3 m.mo.length c3)) := Lib.hid (by rw [← hW]; exact MBox.new w _ _ _ _ _ _ _)
  have HMI := Lib.hid (hM.below HB0.out)
  have HMAY := Lib.hid (may9_any m aq a1 a2 a3 cq c1 c2 c3 W HMI.out hr)
  unfold msgV at HMAY
  unfold msgV
  obtain ⟨k1, k2, k3, k4⟩ := h4
  obtain ⟨n0, hn0⟩ : ∃ n, m.qs.length = n := ⟨_, rfl⟩
  obtain ⟨n1, hn1⟩ : ∃ n, m.an.length = n := ⟨_, rfl⟩
  obtain ⟨n2, hn2⟩ : ∃ n, m.au.length = n := ⟨_, rfl⟩
  obtain ⟨n3, hn3⟩ : ∃ n, m.mo.length = n := ⟨_, rfl⟩
  have HNS : Hid (m.qs.length = n0 ∧ m.an.length = n1 ∧ m.au.length = n2 ∧ m.mo.length = n3) := Lib.hid ⟨hn0, hn1, hn2, hn3⟩
  rw [hn0, hn1, hn2, hn3] at HBX HMAY hW
  rw [hn0, hn1, hn2, hn3]
  rw [hn0] at k1
  rw [hn1] at k2
  rw [hn2] at k3
  rw [hn3] at k4
  clear hM hr hn0 hn1 hn2 hn3
  cases hmm : mayM m with
  | false =>
    rw [hmm] at HMAY
    have x0 := HBX.out.c0
    have x1 := HBX.out.c1
    have x2 := HBX.out.c2
    have x3 := HBX.out.c3
    have x4 := HBX.out.c4
    have x5 := HBX.out.c5
    go_enter Try.func11, Try.ntmps11
    go_upto_region 1 with fail
    try rw [hW]
    clear hW
    obtain ⟨M, hMz⟩ : ∃ M, w.heap.size = M := ⟨_, rfl⟩
    rw [hMz] at HBX x0 x1 x2 x3 x4 x5
    try rw [hMz]
    go_wp2_with fail
    refine HMAY.out.mono ?_
    rintro e w1 ⟨rfl, hb1⟩
    have HB1 := Lib.hid (chain HB0.out hb1)
    clear hb1 HMAY x0 x1 x2 x3 x4 x5
    go_wp2_with fail
    go_ret2
    exact ⟨HB1.out, .inl ⟨hmm, rfl⟩⟩
  | true =>
    rw [hmm] at HMAY
    have HMM := Lib.hid hmm
    have hpa := mayM_parts hmm
    obtain ⟨idn, hid⟩ : ∃ n : Nat, m.id = (n : Int) := ⟨m.id.toNat, by have := hpa.2.1; omega⟩
    obtain ⟨fln, hfl⟩ : ∃ n : Nat, m.fl = (n : Int) := ⟨m.fl.toNat, by have := hpa.2.2.1; omega⟩
    have HIF : Hid (m.id = (idn : Int) ∧ m.fl = (fln : Int) ∧ idn ≤ 65535 ∧ fln ≤ 65535) := Lib.hid ⟨hid, hfl, by have := hpa.2.1; omega, by have := hpa.2.2.1; omega⟩
    have HPA := Lib.hid hpa
    rw [hid, hfl] at HBX HMAY hW
    rw [hid, hfl]
    clear hpa hid hfl hmm
    have x0 := HBX.out.c0
    have x1 := HBX.out.c1
    have x2 := HBX.out.c2
    have x3 := HBX.out.c3
    have x4 := HBX.out.c4
    have x5 := HBX.out.c5
    go_enter Try.func11, Try.ntmps11
    go_upto_region 1 with fail
    try rw [hW]
    clear hW
    obtain ⟨M, hMz⟩ : ∃ M, w.heap.size = M := ⟨_, rfl⟩
    rw [hMz] at HBX x0 x1 x2 x3 x4 x5
    try rw [hMz]
    go_wp2_with fail
    refine HMAY.out.mono ?_
    rintro e w1 ⟨rfl, hb1⟩
    have HBXa := Lib.hid (HBX.out.below hb1)
    have HMIa := Lib.hid (HMI.out.below hb1)
    have HB1 := Lib.hid (chain HB0.out hb1)
    clear hb1 HMAY x0 x1 x2 x3 x4 x5 HBX HMI HB0
    obtain ⟨V, hV⟩ : ∃ V, w1.alloc (.cells #[.slice none 0 0, .map none, .slice none 0 0] 63) = V := ⟨_, rfl⟩
    have HW0 : Hid (W9 V w1.heap.size w1.heap.size (.slice none 0 0) none (.slice none 0 0) ([], [], []) []) := Lib.hid (by rw [← hV]; exact w9_new w1 w1.heap.size (Nat.le_refl _))
    have HV1 : Hid (Below w1.heap.size w1 V) := Lib.hid (by rw [← hV]; exact (Below.refl _ _).alloc (Nat.le_refl _) _)
    go_upto_region 4 with fail
    try rw [hV]
    clear hV
    obtain ⟨B, hB⟩ : ∃ B, w1.heap.size = B := ⟨_, rfl⟩
    rw [hB] at HW0 HV1
    try rw [hB]
    have HBB := Lib.hid hB
    clear hB
    have HMX := fun V' (hb : Below B w1 V') => HBXa.out.below (by rw [HBB.out]; exact hb)
    have x0 := (HMX _ HV1.out).c0
    have x1 := (HMX _ HV1.out).c1
    have x2 := (HMX _ HV1.out).c2
    have x3 := (HMX _ HV1.out).c3
    have x4 := (HMX _ HV1.out).c4
    have x5 := (HMX _ HV1.out).c5
    have hBV : B ≤ V.heap.size := by have := HV1.out.size; have := HBB.out; omega
    have HAL : Hid (Below V.heap.size V (V.alloc (.cells #[.int .i64 (idn : Int), .int .i64 (fln : Int), .int .i64 (n0 : Int), .int .i64 (n1 : Int), .int .i64 (n2 : Int), .int .i64 (n3 : Int)] 3))) := Lib.hid ((Below.refl _ _).alloc (Nat.le_refl _) _)
    have HX1 := Lib.hid (HW0.out.below HAL.out)
    have HNU := Lib.hid (numbers_any (c := 6) (g := V.heap.size) [idn, fln, n0, n1, n2, n3] HX1.out.wx (by rw [nats6]; exact built_new 3) (by simp) (fun e => by have := HW0.out.wx.blk_lt _ e; omega) (by simp) (by have := HIF.out; intro n hn; simp at hn; omega) (by simp) (by simp; omega))
    have HF1 := Lib.hid (Foot.ofBelow (w9blk B (.slice none 0 0) none (.slice none 0 0)) HAL.out)
    have HG0 := Lib.hid HW0.out.blk_ge
    clear HAL HW0
    go_wp2_with fail
    refine HNU.out.mono ?_
    rintro e w2 ⟨rfl, vB2, hW2, hF2⟩
    obtain ⟨T0, hT0⟩ : ∃ T0 : Wst, (hdB m, [], []) = T0 := ⟨_, rfl⟩
    have HT0 := Lib.hid hT0
    have hW2b : WxAt (x9 (.slice none 0 0)) w2 B B vB2 none T0.1 T0.2.1 T0.2.2 := by
      rw [← hT0]
      have e1 : ([] ++ flat2 [idn, fln, n0, n1, n2, n3] : List UInt8) = hdB m := by
        unfold hdB
        rw [HIF.out.1, HIF.out.2.1, HNS.out.1, HNS.out.2.1, HNS.out.2.2.1, HNS.out.2.2.2]
        rfl
      have := hW2
      rw [e1] at this
      exact this
    have HX2 := Lib.hid (HX1.out.wrote hW2b hF2).1
    have HF2 := Lib.hid (HF1.out.trans (HX1.out.wrote hW2b hF2).2)
    have HBe : Hid (∀ V' F', Foot (w9blk B (.slice none 0 0) none (.slice none 0 0)) F' V V' → Below B w1 V') := Lib.hid (fun V' F' hf => HV1.out.trans (hf.below HG0.out hBV))
    have HOK0 : Hid (Wok 90000 T0) := Lib.hid (by rw [← hT0]; exact ⟨by show 12 ≤ 90000; omega, Nat.zero_le _, rfl, by simp, by simp⟩)
    clear hW2 hF2 HNU HF1 HX1 hW2b hT0 x0 x1 x2 x3 x4 x5
    have x2 := (HMX _ (HBe.out _ _ HF2.out)).c2
    have HAS := Lib.hid (asked_any aq cq m.qs HX2.out.wx HOK0.out HMIa.out.qs HBB.out (HBe.out _ _ HF2.out) HPA.out.1 (by rw [HNS.out.1]; omega))
    rw [HNS.out.1] at HAS
    go_wp2_with fail
    refine HAS.out.mono ?_
    rintro e w3 ⟨rfl, vB3, m3, hW3, hF3⟩
    obtain ⟨T1, hT1⟩ : ∃ T1 : Wst, m.qs.foldl (gd qW) T0 = T1 := ⟨_, rfl⟩
    rw [hT1] at hW3
    have HT1 := Lib.hid hT1
    have HX3 := Lib.hid (HX2.out.wrote hW3 hF3).1
    have HF3 := Lib.hid (HF2.out.trans (HX2.out.wrote hW3 hF3).2)
    have HOK1 : Hid (Wok 90000 T1) := Lib.hid (by rw [← hT1]; exact Wok.gqs _ HPA.out.1 HOK0.out)
    clear hW3 hF3 HAS HX2 HF2 hT1 x2
    have x3 := (HMX _ (HBe.out _ _ HF3.out)).c3
    have HR1 := Lib.hid (records_any a1 c1 m.an HX3.out (PR.refl T1) HOK1.out (Nat.zero_le _) HMIa.out.an HBB.out (HBe.out _ _ HF3.out) HPA.out.2.2.2.1 (by rw [HNS.out.2.1]; omega))
    rw [HNS.out.2.1] at HR1
    go_wp2_with fail
    refine HR1.out.mono ?_
    rintro e w4 ⟨rfl, vB4, m4, vS4, u4, zs4, hX4, hP4, hO4, hz4, hF4⟩
    have HX4 := Lib.hid hX4
    have HP4 := Lib.hid hP4
    have HO4 := Lib.hid hO4
    have HZ4 := Lib.hid hz4
    have HF4 := Lib.hid (HF3.out.trans hF4)
    clear hX4 hP4 hO4 hz4 hF4 HR1 HX3 HF3 x3
    have x4 := (HMX _ (HBe.out _ _ HF4.out)).c4
    have HR2 := Lib.hid (records_any a2 c2 m.au HX4.out HP4.out HO4.out HZ4.out HMIa.out.au HBB.out (HBe.out _ _ HF4.out) HPA.out.2.2.2.2.1 (by rw [HNS.out.2.2.1]; omega))
    rw [HNS.out.2.2.1] at HR2
    go_wp2_with fail
    refine HR2.out.mono ?_
    rintro e w5 ⟨rfl, vB5, m5, vS5, u5, zs5, hX5, hP5, hO5, hz5, hF5⟩
    have HX5 := Lib.hid hX5
    have HP5 := Lib.hid hP5
    have HO5 := Lib.hid hO5
    have HZ5 := Lib.hid hz5
    have HF5 := Lib.hid (HF4.out.trans hF5)
    clear hX5 hP5 hO5 hz5 hF5 HR2 HX4 HF4 x4 HP4 HO4 HZ4
    have x5 := (HMX _ (HBe.out _ _ HF5.out)).c5
    have HR3 := Lib.hid (records_any a3 c3 m.mo HX5.out HP5.out HO5.out HZ5.out HMIa.out.mo HBB.out (HBe.out _ _ HF5.out) HPA.out.2.2.2.2.2 (by rw [HNS.out.2.2.2]; omega))
    rw [HNS.out.2.2.2] at HR3
    go_wp2_with fail
    refine HR3.out.mono ?_
    rintro e w6 ⟨rfl, vB6, m6, vS6, u6, zs6, hX6, hP6, hO6, hz6, hF6⟩
    have HGM : Hid (m.mo.foldl (gd rW) (m.au.foldl (gd rW) (m.an.foldl (gd rW) T1)) = gM m) := Lib.hid (by rw [← HT1.out, ← HT0.out]; rfl)
    rw [HGM.out] at hP6
    have HX6 := Lib.hid hX6
    have HP6 := Lib.hid hP6
    have HO6 := Lib.hid hO6
    have HZ6 := Lib.hid hz6
    have HB6 : Hid (Below w.heap.size w w6) := Lib.hid (chain HB1.out (by rw [HBB.out]; exact HBe.out _ _ (HF5.out.trans hF6)))
    clear hX6 hP6 hO6 hz6 hF6 HR3 HX5 HF5 x5 HP5 HO5 HZ5
    go_wp2_with fail
    refine (full_any HX6.out.wx.toWrAt).mono ?_
    rintro e w7 ⟨rfl, hw7⟩
    rw [hw7]
    clear hw7 w7
    by_cases hfu : 1232 < u6.1.length
    · have hdf : decide (1232 < u6.1.length) = true := decide_eq_true hfu
      rw [hdf]
      have HFU : Hid (1232 < (wB m).length) := Lib.hid ((gM_full m).1 (by rw [← HP6.out.len]; exact hfu))
      clear hdf hfu
      go_wp2_with fail
      go_ret2
      exact ⟨HB6.out, .inr (.inl ⟨HMM.out, HFU.out, rfl⟩)⟩
    · have hdf : decide (1232 < u6.1.length) = false := decide_eq_false hfu
      rw [hdf]
      have HFU : Hid ((wB m).length ≤ 1232) := Lib.hid (by
        rcases Nat.lt_or_ge 1232 (wB m).length with h | h
        · exact absurd ((gM_full m).2 h) (by rw [← HP6.out.len]; exact hfu)
        · exact h)
      have HEQ : Hid (patchAll u6.1 zs6 = wB m) := Lib.hid (by rw [HP6.out.eq, gM_fits m HFU.out]; rfl)
      have HWH := Lib.hid (whole_any HX6.out HP6.out.at0 HP6.out.low (by have := HO6.out.len; omega) (by have := HO6.out.len; have := HZ6.out; omega))
      rw [HEQ.out] at HWH
      clear hdf hfu
      go_wp2_with fail
      refine HWH.out.mono ?_
      rintro e w8 ⟨v8, rfl, ho8, hb8⟩
      have HO8 := Lib.hid ho8
      have HB8 := Lib.hid (chain HB6.out hb8)
      have HL8 : Hid (w.heap.size ≤ w6.heap.size) := Lib.hid HB6.out.size
      clear ho8 hb8 HWH
      go_wp2_with fail
      go_ret2
      exact ⟨HB8.out, .inr (.inr ⟨HMM.out, HFU.out, _, rfl, own_lower HO8.out HL8.out⟩)⟩
end Go.Proofs.Yticdpidngmeebaa
/- Contract of the landed Bytes; lives of layer 8. -/
namespace Go.Proofs.Yticdpidngmeebaa
open Go.RowKit Go.Maps
set_option linter.unusedVariables false
set_option maxRecDepth 20000

/-- What Bytes hands back. -/
def bytes8 (s : ByteArray) : List UInt8 := if mayN s = true then bytesL (labelsB s) else []
def errI (s : ByteArray) : Int := if mayN s = true then 0 else 1
end Go.Proofs.Yticdpidngmeebaa
/- Lives of layer 8: the document's example. -/
namespace Go.Proofs.Yticdpidngmeebaa
open Go.RowKit Go.Maps
set_option linter.unusedVariables false
set_option maxRecDepth 20000

def exA : ByteArray := ⟨#[97, 46, 98]⟩
def exC : ByteArray := ⟨#[99, 46, 98]⟩
def exR : List UInt8 × List ByteArray × List Nat := ([1, 97, 1, 98, 0], [⟨#[97, 46, 98]⟩, ⟨#[98]⟩], [0, 2])
/-- Bytes of one's own, as the conversion to a text reads them. -/
theorem own_at {w : World} {B : Nat} {v : Value} {l : List UInt8} (h : w.ownsRow B 5 1 v l.length (bys l)) : BytesAt w v l := own_bytes_back h
end Go.Proofs.Yticdpidngmeebaa
/- Lives of layer 9: the document's example. -/
namespace Go.Proofs.Yticdpidngmeebaa
open Go.RowKit Go.Maps
set_option linter.unusedVariables false
set_option maxRecDepth 20000

def exM : Msg := askM 1 ⟨#[97]⟩ 1
abbrev exB : List UInt8 := [0, 1, 1, 0, 0, 1, 0, 0, 0, 0, 0, 0, 1, 97, 0, 0, 1, 0, 1]
theorem exM_may : mayM exM = true := by kernel_rfl
theorem exM_bytes : wB exM = exB := by kernel_rfl
theorem WriteRet.ok {w w' : World} {m : Msg} {e : Ending} (h : WriteRet w m e w') (h1 : mayM m = true) (h2 : (wB m).length ≤ 1232) : Below w.heap.size w w' ∧ ∃ v', e = .returned (.tuple #[v', .int .i64 0]) ∧ w'.ownsRow w.heap.size 5 1 v' (wB m).length (bys (wB m)) := by
  obtain ⟨hb, h | h | h⟩ := h
  · rw [h1] at h; exact absurd h.1 (by decide)
  · exact absurd h.2.1 (by omega)
  · exact ⟨hb, h.2.2⟩
theorem exM_write {w : World} {aq : Option Addr} {cq : Nat} (hM : MsgIn w exM aq none none none cq 0 0 0) :
    Calls Try.prog 11 #[msgV exM aq none none none cq 0 0 0] w fun e w' => ∃ v', e = .returned (.tuple #[v', .int .i64 0]) ∧ w'.ownsRow w.heap.size 5 1 v' 19 (bys exB) ∧ Below w.heap.size w w' := by
  refine (write9_any exM aq none none none cq 0 0 0 w hM ⟨?_, ?_, ?_, ?_, by decide, by decide, by decide, by decide⟩ ⟨by decide, by decide, by decide, by decide⟩).mono ?_
  · intro q hq
    rw [List.mem_singleton.1 hq]
    decide
  · intro r hr; cases hr
  · intro r hr; cases hr
  · intro r hr; cases hr
  · intro e w' h
    obtain ⟨hb, v', h1, h2⟩ := h.ok exM_may (by rw [exM_bytes]; decide)
    rw [exM_bytes] at h2
    exact ⟨v', h1, h2, hb⟩
set_option maxRecDepth 100000 in
set_option maxHeartbeats 1000000 in
theorem lives9_any (w : World) :
    Calls Try.prog 14 #[] w fun e w' => e = .returned (.bool true) ∧ Below w.heap.size w w' := by
  have HAS := Lib.hid (ask_any 1 ⟨#[97]⟩ 1 w (by decide) (by decide))
  go_enter Try.func14, Try.ntmps14
  go_wp2_with fail
  refine HAS.out.mono ?_
  rintro e w1 ⟨g, rfl, hm, hb1⟩
  have HB1 := Lib.hid hb1
  have HWR := Lib.hid (exM_write hm)
  unfold exM at HWR
  generalize msgV (askM 1 ⟨#[97]⟩ 1) (some ⟨g, 0, none⟩) none none none 1 0 0 0 = mv at *
  clear hm hb1 HAS
  go_wp2_with fail
  refine HWR.out.mono ?_
  rintro e w3 ⟨v, rfl, ho, hb3⟩
  have HB3 := Lib.hid (chain HB1.out hb3)
  have HSA : ∀ (g : Nat) (W : World), Hid (Below w3.heap.size w3 W → W.heap.size = w3.heap.size + 1 → (∀ j u, (bys exB)[j]? = some u → W.cell? ⟨g, j, none⟩ = some u) → Calls Try.prog 16 #[v, .slice (some ⟨g, 0, none⟩) 19 19] W fun e w' => e = .returned (.bool true) ∧ w' = W) := fun g W => Lib.hid (fun hb _ hcells => by
    have h1 : BytesAt W v exB := own_at (own_below8 ho hb)
    have h2 : BytesAt W (.slice (some ⟨g, 0, none⟩) 19 19) exB := by
      unfold BytesAt
      exact run_convert_bytes_back (P := Try.prog) W 27 9 5 ⟨g, 0, none⟩ 19 exB Try.underlying27 Try.underlying5 Try.underlying9 (fun j hj => by
        rw [add_none]
        exact hcells j _ (by unfold bys; rw [List.getElem?_map, List.getElem?_eq_getElem hj]; rfl))
    have := refSameBytes_any _ _ _ _ W h1 h2
    rw [decide_eq_true rfl] at this
    exact this)
  clear ho hb3 HWR HB1
  go_wp2_with fail
  refine ((HSA _ _).out ((Below.refl _ _).alloc (Nat.le_refl _) _) (by simp) (fun j u hu => cells_new8 w3 (bys exB) 5 j u hu)).mono ?_
  rintro e w4 ⟨rfl, rfl⟩
  go_wp2_with fail
  go_ret
  exact ⟨rfl, chain HB3.out ((Below.refl _ _).alloc (Nat.le_refl _) _)⟩
end Go.Proofs.Yticdpidngmeebaa
/- Messages and rows of records that came in, opened: what they hold, where it lies, and how great it may be. -/
namespace Go.Proofs.Yticdpidngmeebaa
open Go.ChangeShapes Go.WideShapes Go.ChangeAt Go.RowKit
set_option linter.unusedVariables false
set_option maxRecDepth 20000

theorem bulk_one {H : Type} (d : DataW H) : 1 ≤ Rows.uptoBulk d := by
  cases d with
  | lit l => cases l <;> simp [Rows.uptoBulk]
  | _ => simp [Rows.uptoBulk]
theorem bulk_mem {H : Type} {d : DataW H} : ∀ {l : List (DataW H)}, d ∈ l → Rows.uptoBulk d ≤ Rows.uptoBulkAll l
  | [], h => by cases h
  | x :: r, h => by
    simp only [Rows.uptoBulkAll]
    rcases List.mem_cons.1 h with rfl | h
    · omega
    · have := bulk_mem h; omega
theorem bulk_len {H : Type} : ∀ (l : List (DataW H)), l.length ≤ Rows.uptoBulkAll l
  | [] => Nat.zero_le _
  | x :: r => by
    have h1 := bulk_one x
    have h2 := bulk_len r
    simp only [Rows.uptoBulkAll, List.length_cons]
    omega
theorem bulk_str {H : Type} (s : ByteArray) : s.size ≤ Rows.uptoBulk (DataW.lit (H := H) (.string s.data.toList)) := by
  have e : s.data.toList.length = s.size := by rw [Array.length_toList]; rfl
  simp only [Rows.uptoBulk, e]
  omega
theorem bulk_agg {H : Type} {d : DataW H} {l : List (DataW H)} (h : d ∈ l) : Rows.uptoBulk d ≤ Rows.uptoBulk (DataW.agg l) := by
  have := bulk_mem h
  simp only [Rows.uptoBulk]
  omega
section
variable {H : Type} {enc : TypeId × Value → H} {W : World} {spare : Nat → Bool}
theorem trod_struct7 {t : TypeId} {f0 f1 f2 f3 f4 f5 f6 : Field} {fuel : Nat} {cs : List Value} {x : DataW H × List MemPlace} (ht : Try.prog.underlying t = some (.struct #[f0, f1, f2, f3, f4, f5, f6])) (h : DataW.trod enc Try.prog W 0 spare true fuel t cs = some x) :
    ∃ y0 y1 y2 y3 y4 y5 y6 n, x.1 = .agg [y0.1, y1.1, y2.1, y3.1, y4.1, y5.1, y6.1] ∧ DataW.trod enc Try.prog W 0 spare true n f0.type ((cs.drop f0.offset).take (Try.prog.cellsOf f0.type)) = some y0 ∧ DataW.trod enc Try.prog W 0 spare true n f1.type ((cs.drop f1.offset).take (Try.prog.cellsOf f1.type)) = some y1 ∧ DataW.trod enc Try.prog W 0 spare true n f2.type ((cs.drop f2.offset).take (Try.prog.cellsOf f2.type)) = some y2 ∧
      DataW.trod enc Try.prog W 0 spare true n f3.type ((cs.drop f3.offset).take (Try.prog.cellsOf f3.type)) = some y3 ∧ DataW.trod enc Try.prog W 0 spare true n f4.type ((cs.drop f4.offset).take (Try.prog.cellsOf f4.type)) = some y4 ∧ DataW.trod enc Try.prog W 0 spare true n f5.type ((cs.drop f5.offset).take (Try.prog.cellsOf f5.type)) = some y5 ∧ DataW.trod enc Try.prog W 0 spare true n f6.type ((cs.drop f6.offset).take (Try.prog.cellsOf f6.type)) = some y6 := by
  obtain ⟨xs, n, _, rfl, hl, hlen, hf⟩ := DataW.trod_struct ht h
  match xs, hlen with
  | [y0, y1, y2, y3, y4, y5, y6], _ => exact ⟨y0, y1, y2, y3, y4, y5, y6, n, by simp, by simpa using hf 0 f0 rfl, by simpa using hf 1 f1 rfl, by simpa using hf 2 f2 rfl, by simpa using hf 3 f3 rfl, by simpa using hf 4 f4 rfl, by simpa using hf 5 f5 rfl, by simpa using hf 6 f6 rfl⟩
theorem trod_struct6 {t : TypeId} {f0 f1 f2 f3 f4 f5 : Field} {fuel : Nat} {cs : List Value} {x : DataW H × List MemPlace} (ht : Try.prog.underlying t = some (.struct #[f0, f1, f2, f3, f4, f5])) (h : DataW.trod enc Try.prog W 0 spare true fuel t cs = some x) :
    ∃ y0 y1 y2 y3 y4 y5 n, x.1 = .agg [y0.1, y1.1, y2.1, y3.1, y4.1, y5.1] ∧ DataW.trod enc Try.prog W 0 spare true n f0.type ((cs.drop f0.offset).take (Try.prog.cellsOf f0.type)) = some y0 ∧ DataW.trod enc Try.prog W 0 spare true n f1.type ((cs.drop f1.offset).take (Try.prog.cellsOf f1.type)) = some y1 ∧ DataW.trod enc Try.prog W 0 spare true n f2.type ((cs.drop f2.offset).take (Try.prog.cellsOf f2.type)) = some y2 ∧
      DataW.trod enc Try.prog W 0 spare true n f3.type ((cs.drop f3.offset).take (Try.prog.cellsOf f3.type)) = some y3 ∧ DataW.trod enc Try.prog W 0 spare true n f4.type ((cs.drop f4.offset).take (Try.prog.cellsOf f4.type)) = some y4 ∧ DataW.trod enc Try.prog W 0 spare true n f5.type ((cs.drop f5.offset).take (Try.prog.cellsOf f5.type)) = some y5 := by
  obtain ⟨xs, n, _, rfl, hl, hlen, hf⟩ := DataW.trod_struct ht h
  match xs, hlen with
  | [y0, y1, y2, y3, y4, y5], _ => exact ⟨y0, y1, y2, y3, y4, y5, n, by simp, by simpa using hf 0 f0 rfl, by simpa using hf 1 f1 rfl, by simpa using hf 2 f2 rfl, by simpa using hf 3 f3 rfl, by simpa using hf 4 f4 rfl, by simpa using hf 5 f5 rfl⟩
end
theorem cells_str : Try.prog.cellsOf 9 = 1 := by kernel_rfl
theorem cells_int : Try.prog.cellsOf 3 = 1 := by kernel_rfl
theorem cells_addr : Try.prog.cellsOf 40 = 17 := by kernel_rfl
theorem addr_of_trod9 {H : Type} {enc : TypeId × Value → H} {W : World} {spare : Nat → Bool} {fuel : Nat} {l : List Value} {x : DataW H × List MemPlace} (hl : l.length = 17)
    (hf : DataW.trod enc Try.prog W 0 spare true fuel 40 l = some x) : ∃ (f : Int) (bs : List Nat), l = addrL f bs ∧ (Lit.int .i64 f).wf = true ∧ bs.length = 16 ∧ ∀ x ∈ bs, x < 256 := by
  have hs := Try.underlying40
  obtain ⟨y0, y1, n, _, _, h0, h1⟩ := trod_struct2 hs hf
  obtain ⟨f, h2, _, h3⟩ := DataW.trod_int Try.underlying3 h0
  obtain ⟨zs, h4, h5, h6⟩ := ints_of_trod Try.underlying38 Try.underlying5 (by kernel_rfl) (by kernel_rfl) h1
  have hc1 : Try.prog.cellsOf 3 = 1 := by kernel_rfl
  have hc16 : Try.prog.cellsOf 38 = 16 := by kernel_rfl
  refine ⟨f, zs.map Int.toNat, ?_, h3, by simpa using h5, ?_⟩
  · unfold addrL
    have e1 : l = (l.drop 0).take 1 ++ (l.drop 1).take 16 := by
      have : (l.drop 1).take 16 = l.drop 1 := List.take_of_length_le (by simp; omega)
      rw [this, List.drop_zero, List.take_append_drop]
    rw [e1]
    have e2 : (l.drop 0).take 1 = [Value.int .i64 f] := by rw [← h2, hc1]
    have e3 : (l.drop 1).take 16 = zs.map (Value.int .u8) := by rw [← h4, hc16]
    rw [e2, e3, List.map_map]
    show Value.int .i64 f :: zs.map (Value.int .u8) = Value.int .i64 f :: _
    congr 1
    apply List.map_congr_left
    intro z hz
    have := bounds_u8 (h6 z hz)
    show Value.int .u8 z = Value.int .u8 ((z.toNat : Nat) : Int)
    congr 1
    omega
  · intro x hx
    obtain ⟨z, hz, rfl⟩ := List.mem_map.1 hx
    have := bounds_u8 (h6 z hz)
    omega
/-- How great a record's texts are. -/
def RecLe (r : Rec) (k : Nat) : Prop := r.name.size ≤ k ∧ r.tg.size ≤ k ∧ r.da.size ≤ k
theorem rec_of_trod {H : Type} {enc : TypeId × Value → H} {W : World} {spare : Nat → Bool} {fuel : Nat} {l : List Value} {x : DataW H × List MemPlace} (hl : l.length = 23)
    (hf : DataW.trod enc Try.prog W 0 spare true fuel 42 l = some x) : ∃ r : Rec, l = recL r ∧ (Fit r ∧ RecLe r (Rows.uptoBulk x.1)) := by
  have hs := Try.underlying42
  obtain ⟨y0, y1, y2, y3, y4, y5, y6, n, hx, h0, h1, h2, h3, h4, h5, h6⟩ := trod_struct7 hs hf
  simp only [cells_str, cells_int, cells_addr] at h0 h1 h2 h3 h4 h5 h6
  obtain ⟨nm, e0, z0, s0⟩ := DataW.trod_string Try.underlying9 h0
  obtain ⟨ty, e1, z1, s1⟩ := DataW.trod_int Try.underlying3 h1
  obtain ⟨cl, e2, z2, s2⟩ := DataW.trod_int Try.underlying3 h2
  obtain ⟨ttl, e3, z3, s3⟩ := DataW.trod_int Try.underlying3 h3
  obtain ⟨f, bs, e4, s4, l4, b4⟩ := addr_of_trod9 (by simp; omega) h4
  obtain ⟨tg, e5, z5, s5⟩ := DataW.trod_string Try.underlying9 h5
  obtain ⟨da, e6, z6, s6⟩ := DataW.trod_string Try.underlying9 h6
  refine ⟨⟨nm, ty, cl, ttl, f, bs, tg, da⟩, ?_, ⟨l4, b4, s1, s2, s3, s4, s0, s5, s6⟩, ?_⟩
  · have e : l = (l.drop 0).take 1 ++ ((l.drop 1).take 1 ++ ((l.drop 2).take 1 ++ ((l.drop 3).take 1 ++ ((l.drop 4).take 17 ++ ((l.drop 21).take 1 ++ (l.drop 22).take 1))))) := by
      apply List.ext_getElem?
      intro i
      simp only [List.getElem?_append, List.getElem?_take, List.getElem?_drop, List.length_take, List.length_drop, hl]
      by_cases h : i < 23
      · repeat' split
        all_goals first | (congr 1; omega) | omega
      · rw [List.getElem?_eq_none (by omega)]
        repeat' split
        all_goals first | rfl | omega
    rw [e, e0, e1, e2, e3, e4, e5, e6]
    rfl
  · rw [hx, z0, z5, z6]
    exact ⟨Nat.le_trans (bulk_str nm) (bulk_agg (by simp)), Nat.le_trans (bulk_str tg) (bulk_agg (by simp)), Nat.le_trans (bulk_str da) (bulk_agg (by simp))⟩
theorem qu_of_trod {H : Type} {enc : TypeId × Value → H} {W : World} {spare : Nat → Bool} {fuel : Nat} {l : List Value} {x : DataW H × List MemPlace} (hl : l.length = 3)
    (hf : DataW.trod enc Try.prog W 0 spare true fuel 51 l = some x) : ∃ q : Qu, l = quL q ∧ (FitQ q ∧ q.name.size ≤ Rows.uptoBulk x.1) := by
  have hs := Try.underlying51
  obtain ⟨y0, y1, y2, n, hx, _, h0, h1, h2⟩ := Deep.trod_struct3 hs hf
  simp only [cells_str, cells_int] at h0 h1 h2
  obtain ⟨nm, e0, z0, s0⟩ := DataW.trod_string Try.underlying9 h0
  obtain ⟨ty, e1, z1, s1⟩ := DataW.trod_int Try.underlying3 h1
  obtain ⟨cl, e2, z2, s2⟩ := DataW.trod_int Try.underlying3 h2
  refine ⟨⟨nm, ty, cl⟩, ?_, ⟨s1, s2, s0⟩, ?_⟩
  · match l, hl with
    | [a, b, c], _ =>
      simp at e0 e1 e2
      rw [e0, e1, e2]
      rfl
  · rw [hx, z0]
    exact Nat.le_trans (bulk_str nm) (bulk_agg (by simp))
/-- A row of structs, opened. -/
theorem open_rowsB {α : Type} {H : Type} {enc : TypeId × Value → H} {W : World} {spare : Nat → Bool} {t e : TypeId} {fuel : Nat} {vs : List Value} {x : DataW H × List MemPlace} (Lf : α → List Value) (S : Nat) (q : α → DataW H → Prop)
    (ht : Try.prog.underlying t = some (.slice e)) (hS : Try.prog.cellsOf e = S) (hpos : 0 < S)
    (hel : ∀ (n : Nat) (cs : List Value) (y : DataW H × List MemPlace), cs.length = S → DataW.trod enc Try.prog W 0 spare true n e cs = some y → ∃ d, cs = Lf d ∧ q d y.1)
    (h : DataW.trod enc Try.prog W 0 spare true fuel t vs = some x) :
    ∃ a len cap, vs = [.slice a len cap] ∧ len ≤ cap ∧ cap ≤ maxLen ∧ len ≤ Rows.uptoBulk x.1 ∧ (len = 0 ∨ ∃ (g o : Nat) (D : List α), a = some ⟨g, o, none⟩ ∧ D.length = len ∧ (∀ d ∈ D, (∃ y, q d y ∧ Rows.uptoBulk y ≤ Rows.uptoBulk x.1) ∧ (Lf d).length = S) ∧ W.rangeAt g o (D.flatMap Lf) ∧ g < W.heap.size) := by
  rcases Deep.open_slice ht h with ⟨h0, _⟩ | ⟨a', len, cap, m, n, DD, Pl, h0, hb, hl, hm, hmm, hx, hc⟩
  · exact ⟨none, 0, 0, h0, Nat.le_refl _, Nat.zero_le _, Nat.zero_le _, .inl rfl⟩
  · subst hx
    have hbk : ∀ i, i < len → Rows.uptoBulk (DD i) ≤ Rows.uptoBulk (DataW.slice ((List.range len).map DD) ((List.range (m - len)).map fun j => DD (len + j))) := fun i hi => by
      have := bulk_mem (d := DD i) (l := (List.range len).map DD) (List.mem_map.2 ⟨i, List.mem_range.2 hi, rfl⟩)
      simp only [Rows.uptoBulk]
      omega
    have hbl : len ≤ Rows.uptoBulk (DataW.slice ((List.range len).map DD) ((List.range (m - len)).map fun j => DD (len + j))) := by
      have := bulk_len ((List.range len).map DD)
      simp only [Rows.uptoBulk]
      simp at this
      omega
    refine ⟨_, len, cap, h0, hl, hm, hbl, ?_⟩
    by_cases hz : len = 0
    · exact .inl hz
    · right
      have hle : len ≤ m := by rw [hmm]; split <;> omega
      rw [hS] at hc
      have key : ∀ i, i < len → ∃ d, (∀ j u, (Lf d)[j]? = some u → W.cell? ((a'.add (i * S)).add j) = some u) ∧ (∃ y, q d y ∧ Rows.uptoBulk y ≤ Rows.uptoBulk (DataW.slice ((List.range len).map DD) ((List.range (m - len)).map fun j => DD (len + j)))) ∧ (Lf d).length = S := fun i hi => by
        obtain ⟨cs, c1, c2⟩ := hc i (by omega)
        unfold World.cells? at c1
        rw [if_pos (Nat.zero_le _)] at c1
        obtain ⟨l1, l2⟩ := mapM_some _ _ _ c1
        obtain ⟨d, rfl, hq⟩ := hel n cs _ l1 c2
        refine ⟨d, fun j u hu => ?_, ⟨_, hq, hbk i hi⟩, l1⟩
        have hj : j < (Lf d).length := by
          apply Classical.byContradiction
          intro h2
          rw [List.getElem?_eq_none (by omega)] at hu
          cases hu
        rw [l2 j hj]
        rw [List.getElem?_eq_getElem hj] at hu
        exact hu
      obtain ⟨D, d1, d2⟩ := choose_list _ len key
      obtain ⟨d0, e1, _, e3⟩ := key 0 (by omega)
      have hc0 := e1 0 _ (List.getElem?_eq_getElem (by omega))
      have hspot : a'.spot = none := by
        rw [Nat.zero_mul] at hc0
        have : (a'.add 0).add 0 = a' := by simp [Addr.add]
        rw [this] at hc0
        unfold World.cell? at hc0
        split at hc0
        · split at hc0
          · cases hc0
          · rename_i h; simpa using h
        · cases hc0
      obtain ⟨g, o, sp⟩ := a'
      simp only at hspot
      subst hspot
      have hadd : ∀ i j, ((⟨g, o, none⟩ : Addr).add i).add j = ⟨g, o + i + j, none⟩ := fun i j => by
        unfold Addr.add
        split <;> split <;> simp_all [Nat.add_assoc]
      have hlen : ∀ d ∈ D, (Lf d).length = S := fun d hd => by
        obtain ⟨i, hi, rfl⟩ := List.getElem_of_mem hd
        exact (d2 i hi).2.2
      refine ⟨g, o, D, rfl, d1, fun d hd => ?_, fun k u hu => ?_, ?_⟩
      · obtain ⟨i, hi, rfl⟩ := List.getElem_of_mem hd
        exact ⟨(d2 i hi).2.1, (d2 i hi).2.2⟩
      · have hk : k < D.length * S := by
          rw [← flatMap_len Lf S D hlen]
          apply Classical.byContradiction
          intro h2
          rw [List.getElem?_eq_none (by omega)] at hu
          cases hu
        have hq : k / S < D.length := Nat.div_lt_of_lt_mul (by rw [Nat.mul_comm]; exact hk)
        have hkk : k / S * S + k % S = k := by rw [Nat.mul_comm]; exact Nat.div_add_mod k S
        have h3 := flatMap_at Lf S D hlen (k / S) hq (k % S) (Nat.mod_lt _ hpos)
        rw [hkk, hu] at h3
        have h4 := (d2 (k / S) hq).1 (k % S) u h3.symm
        rw [hadd] at h4
        rw [← hkk, ← Nat.add_assoc]
        exact h4
      · rw [Nat.zero_mul, hadd] at hc0
        unfold World.cell? at hc0
        apply Classical.byContradiction
        intro h2
        rw [Array.getElem?_eq_none (by simpa using h2)] at hc0
        cases hc0
/-- A row of records that came in. -/
structure RecsIn (W : World) (a : Option Addr) (len cap : Nat) (D : List Rec) (k : Nat) : Prop where
  at0 : RecsAt W a cap D
  len : D.length = len
  room : ∀ r ∈ D, RecLe r k
  few : D.length ≤ k
structure QusIn (W : World) (a : Option Addr) (len cap : Nat) (D : List Qu) (k : Nat) : Prop where
  at0 : QusAt W a cap D
  len : D.length = len
  room : ∀ q ∈ D, q.name.size ≤ k
  few : D.length ≤ k
theorem open_recs {H : Type} {enc : TypeId × Value → H} {W : World} {spare : Nat → Bool} {fuel : Nat} {vs : List Value} {x : DataW H × List MemPlace}
    (hf : DataW.trod enc Try.prog W 0 spare true fuel 23 vs = some x) : ∃ a len cap D, vs = [.slice a len cap] ∧ RecsIn W a len cap D (Rows.uptoBulk x.1) := by
  obtain ⟨a, len, cap, e, h1, h2, h4, h3⟩ := open_rowsB recL 23 (fun r y => Fit r ∧ RecLe r (Rows.uptoBulk y)) Try.underlying23 (by kernel_rfl) (by decide) (fun n cs y hl ht => rec_of_trod hl ht) hf
  rcases h3 with h3 | ⟨g, o, D, e2, hl, hq, hr, hg⟩
  · exact ⟨a, len, cap, [], e, ⟨⟨Nat.zero_le _, h2, (fun d hd => absurd hd (by simp)), .inl rfl⟩, h3.symm, (fun d hd => absurd hd (by simp)), Nat.zero_le _⟩⟩
  · refine ⟨a, len, cap, D, e, ⟨⟨by omega, h2, fun d hd => ?_, .inr ⟨g, o, e2, hg, hr⟩⟩, hl, fun d hd => ?_, by omega⟩⟩
    · obtain ⟨⟨y, hy, _⟩, _⟩ := hq d hd
      exact hy.1
    · obtain ⟨⟨y, hy, hk⟩, _⟩ := hq d hd
      exact ⟨Nat.le_trans hy.2.1 hk, Nat.le_trans hy.2.2.1 hk, Nat.le_trans hy.2.2.2 hk⟩
theorem open_qus {H : Type} {enc : TypeId × Value → H} {W : World} {spare : Nat → Bool} {fuel : Nat} {vs : List Value} {x : DataW H × List MemPlace}
    (hf : DataW.trod enc Try.prog W 0 spare true fuel 22 vs = some x) : ∃ a len cap D, vs = [.slice a len cap] ∧ QusIn W a len cap D (Rows.uptoBulk x.1) := by
  obtain ⟨a, len, cap, e, h1, h2, h4, h3⟩ := open_rowsB quL 3 (fun r y => FitQ r ∧ r.name.size ≤ Rows.uptoBulk y) Try.underlying22 (by kernel_rfl) (by decide) (fun n cs y hl ht => qu_of_trod hl ht) hf
  rcases h3 with h3 | ⟨g, o, D, e2, hl, hq, hr, hg⟩
  · exact ⟨a, len, cap, [], e, ⟨⟨Nat.zero_le _, h2, (fun d hd => absurd hd (by simp)), .inl rfl⟩, h3.symm, (fun d hd => absurd hd (by simp)), Nat.zero_le _⟩⟩
  · refine ⟨a, len, cap, D, e, ⟨⟨by omega, h2, fun d hd => ?_, .inr ⟨g, o, e2, hg, hr⟩⟩, hl, fun d hd => ?_, by omega⟩⟩
    · obtain ⟨⟨y, hy, _⟩, _⟩ := hq d hd
      exact hy.1
    · obtain ⟨⟨y, hy, hk⟩, _⟩ := hq d hd
      exact Nat.le_trans hy.2 hk
/-- A message that came in. -/
structure MsgGot (W : World) (m : Msg) (aq a1 a2 a3 : Option Addr) (cq c1 c2 c3 : Nat) (k : Nat) : Prop where
  qs : QusIn W aq m.qs.length cq m.qs k
  an : RecsIn W a1 m.an.length c1 m.an k
  au : RecsIn W a2 m.au.length c2 m.au k
  mo : RecsIn W a3 m.mo.length c3 m.mo k
  id : (Lit.int .i64 m.id).wf = true
  fl : (Lit.int .i64 m.fl).wf = true
theorem RecsIn.wider {W : World} {a : Option Addr} {len cap : Nat} {D : List Rec} {k k' : Nat} (h : RecsIn W a len cap D k) (hk : k ≤ k') : RecsIn W a D.length cap D k' :=
  ⟨h.at0, rfl, fun r hr => ⟨Nat.le_trans (h.room r hr).1 hk, Nat.le_trans (h.room r hr).2.1 hk, Nat.le_trans (h.room r hr).2.2 hk⟩, Nat.le_trans h.few hk⟩
theorem QusIn.wider {W : World} {a : Option Addr} {len cap : Nat} {D : List Qu} {k k' : Nat} (h : QusIn W a len cap D k) (hk : k ≤ k') : QusIn W a D.length cap D k' :=
  ⟨h.at0, rfl, fun r hr => Nat.le_trans (h.room r hr) hk, Nat.le_trans h.few hk⟩
theorem open_msg {H : Type} {enc : TypeId × Value → H} {W : World} {base : Nat} {spare : Nat → Bool} {v : Value} {d : DataW H} {ps : List MemPlace}
    (hok : Value.okWide Try.prog W .any base 25 v) (h : DataW.Trod enc Try.prog W 0 spare true 25 v d ps) :
    ∃ (m : Msg) (aq a1 a2 a3 : Option Addr) (cq c1 c2 c3 : Nat), v = msgV m aq a1 a2 a3 cq c1 c2 c3 ∧ MsgGot W m aq a1 a2 a3 cq c1 c2 c3 (Rows.uptoBulk d) := by
  have hs := Try.underlying25
  obtain ⟨cs, rfl, hsz, _⟩ : ∃ cs, v = .agg cs ∧ cs.size = Try.prog.cellsOf 25 ∧ Row.okWide Try.prog W .any base 25 cs := by
    simpa [Value.okWide, hs] using hok
  rw [show Try.prog.cellsOf 25 = 6 by kernel_rfl] at hsz
  obtain ⟨fuel, hf⟩ := h
  obtain ⟨y0, y1, y2, y3, y4, y5, n, hx, h0, h1, h2, h3, h4, h5⟩ := trod_struct6 hs hf
  have e0 : (Value.cells (.agg cs)).toList = cs.toList := rfl
  rw [e0] at h0 h1 h2 h3 h4 h5
  have cq : Try.prog.cellsOf 22 = 1 := by kernel_rfl
  have cr : Try.prog.cellsOf 23 = 1 := by kernel_rfl
  simp only [cells_int, cq, cr] at h0 h1 h2 h3 h4 h5
  obtain ⟨i, e1, _, s1⟩ := DataW.trod_int Try.underlying3 h0
  obtain ⟨f, e2, _, s2⟩ := DataW.trod_int Try.underlying3 h1
  obtain ⟨aq, nq, kq, Dq, e3, s3⟩ := open_qus h2
  obtain ⟨a1, n1, k1, D1, e4, s4⟩ := open_recs h3
  obtain ⟨a2, n2, k2, D2, e5, s5⟩ := open_recs h4
  obtain ⟨a3, n3, k3, D3, e6, s6⟩ := open_recs h5
  have hx : d = .agg [y0.1, y1.1, y2.1, y3.1, y4.1, y5.1] := hx
  have l2 : Rows.uptoBulk y2.1 ≤ Rows.uptoBulk d := by rw [hx]; exact bulk_agg (by simp)
  have l3 : Rows.uptoBulk y3.1 ≤ Rows.uptoBulk d := by rw [hx]; exact bulk_agg (by simp)
  have l4 : Rows.uptoBulk y4.1 ≤ Rows.uptoBulk d := by rw [hx]; exact bulk_agg (by simp)
  have l5 : Rows.uptoBulk y5.1 ≤ Rows.uptoBulk d := by rw [hx]; exact bulk_agg (by simp)
  refine ⟨⟨i, f, Dq, D1, D2, D3⟩, aq, a1, a2, a3, kq, k1, k2, k3, ?_, ⟨s3.wider l2, s4.wider l3, s5.wider l4, s6.wider l5, s1, s2⟩⟩
  unfold msgV
  congr 1
  apply Array.ext'
  have h6 : cs.toList.length = 6 := by simpa using hsz
  generalize cs.toList = l at *
  match l, h6 with
  | [u0, u1, u2, u3, u4, u5], _ =>
    simp at e1 e2 e3 e4 e5 e6
    rw [e1, e2, e3, e4, e5, e6, s3.len, s4.len, s5.len, s6.len]
theorem MsgGot.wider {W : World} {m : Msg} {aq a1 a2 a3 : Option Addr} {cq c1 c2 c3 k k' : Nat} (h : MsgGot W m aq a1 a2 a3 cq c1 c2 c3 k) (hk : k ≤ k') : MsgGot W m aq a1 a2 a3 cq c1 c2 c3 k' := ⟨h.qs.wider hk, h.an.wider hk, h.au.wider hk, h.mo.wider hk, h.id, h.fl⟩
theorem MsgGot.ins {W : World} {m : Msg} {aq a1 a2 a3 : Option Addr} {cq c1 c2 c3 k : Nat} (h : MsgGot W m aq a1 a2 a3 cq c1 c2 c3 k) : MsgIn W m aq a1 a2 a3 cq c1 c2 c3 := ⟨h.qs.at0, h.an.at0, h.au.at0, h.mo.at0⟩
end Go.Proofs.Yticdpidngmeebaa
/- The reference's writer as it stands in a walk of layer 9: its rows, its footprint, and what else is held; contracts of two, put and Name over that. -/
namespace Go.Proofs.Yticdpidngmeebaa
open Go.RowKit
set_option linter.unusedVariables false
set_option maxRecDepth 20000

theorem w_size : (Try.prog.info? 70).map (·.size) = some 3 := by kernel_rfl
abbrev zW : List Value := [.slice none 0 0, .slice none 0 0, .slice none 0 0]
theorem loadVar_W9 {w : World} {G : Nat} {vs : List Value} (h : CellsAt w G vs) (hl : vs.length = 3) : (loadVar 70 ⟨G, 0, none⟩).run Try.prog w = .ok (.agg vs.toArray) w :=
  run_loadVar_mid w G 0 70 vs _ h.range Try.underlying70 rfl (by rw [w_size, hl])
theorem results_W9 {fn : Func} {a : Tmp} {tmps : Array Value} {W : World} {R : Nat} {vs : List Value} (h : fn.results = #[.cell a 70]) (ha : tmps.getD a undef = .pointer (some ⟨R, 0, none⟩)) (hA : CellsAt W R vs) (hl : vs.length = 3) : (results fn tmps).run Try.prog W = .ok (.agg vs.toArray) W := by
  rw [Array.getD_eq_getD_getElem?] at ha
  simp [results, h, ha, asAddr, loadVar_W9 hA hl]
theorem store_W9 {ops : Array Oper} {rest : List Oper} {op : Oper} {a : Act} {w : World} {Q : Exit → Act → World → Prop} {G : Nat} {us vs : List Value} (hA : Hid (CellsAt w G us)) (hu : us.length = 3) (x y : Operand) (hgd : op.guard = none) (ho : op.op = .store 70 x y)
    (hx : a.eval x = .pointer (some ⟨G, 0, none⟩)) (hy : a.eval y = .agg vs.toArray) (hl : vs.length = 3) (h1 : vs.all (fun u => u.oneCell') = true) (h : ∀ W, Hid (W = w.setCells G 0 vs) → Hid (CellsAt W G vs) → wpList Try.prog ops Q rest (a.put op.dst undef) W) : wpList Try.prog ops Q (op :: rest) a w :=
  wpList_store_mid hgd 70 x y ho G 0 vs.toArray hx hy (by rw [List.size_toArray, hl, ← hu]; exact hA.out.there) (by rw [w_size, List.size_toArray, hl]) (all_oneCell_toArray (List.all_eq_true.1 h1)) (h _ (Lib.hid rfl) (Lib.hid (hA.out.stored vs (hl.trans hu.symm))))
theorem wp_store_W9 {op : Oper} {a : Act} {w : World} {K : Act → World → Prop} {Q : Exit → Act → World → Prop} {G : Nat} {us vs : List Value} (hA : Hid (CellsAt w G us)) (hu : us.length = 3) (x y : Operand) (ho : op.op = .store 70 x y)
    (hx : a.eval x = .pointer (some ⟨G, 0, none⟩)) (hy : a.eval y = .agg vs.toArray) (hl : vs.length = 3) (h1 : vs.all (fun u => u.oneCell') = true) (h : ∀ W, Hid (W = w.setCells G 0 vs) → Hid (CellsAt W G vs) → K (a.put op.dst undef) W) : op.wp Try.prog a w K Q :=
  wp_store_mid 70 x y ho G 0 vs.toArray hx hy (by rw [List.size_toArray, hl, ← hu]; exact hA.out.there) (by rw [w_size, List.size_toArray, hl]) (all_oneCell_toArray (List.all_eq_true.1 h1)) (h _ (Lib.hid rfl) (Lib.hid (hA.out.stored vs (hl.trans hu.symm))))
/-- Ranges that lie there. -/
def HeldS (L : List (Nat × Nat × List Value)) (w : World) : Prop := ∀ x ∈ L, w.rangeAt x.1 x.2.1 x.2.2
theorem yields_W9 {ops : Array Oper} {op : Oper} {a : Act} {L : List (Nat × Nat × List Value)} {G : Nat} {vs : List Value} (hm : Hid ((G, 0, vs) ∈ L ∧ vs.length = 3)) (hw : Region.wanted op (yielded ops a.tmps) = true) (x : Operand) (ho : op.op = .load 70 x)
    (hx : a.eval x = .pointer (some ⟨G, 0, none⟩)) : YieldsIf Try.prog ops (HeldS L) op (.agg vs.toArray) a :=
  yieldsIf_load_mid hw 70 x ho G 0 hx _ _ (fun w h => h _ hm.out.1) Try.underlying70 rfl (by rw [w_size, hm.out.2])
/-- .. and none of them lies in the footprint. -/
structure Kept (L : List (Nat × Nat × List Value)) (F : List Nat) (w : World) : Prop where
  at0 : HeldS L w
  lt : ∀ x ∈ L, x.1 < w.heap.size
  off : ∀ x ∈ L, x.1 ∉ F
  th : ∀ x ∈ L, w.there x.1 x.2.1 x.2.2.length
section
variable {L : List (Nat × Nat × List Value)} {F F' : List Nat} {w w' : World}
theorem Kept.nil (F : List Nat) (w : World) : Kept [] F w := ⟨fun x hx => (by cases hx), fun x hx => (by cases hx), fun x hx => (by cases hx), fun x hx => (by cases hx)⟩
theorem Kept.cons (h : Kept L F w) {G o : Nat} {vs : List Value} (hr : w.rangeAt G o vs) (ht : w.there G o vs.length) (hG : G < w.heap.size) (hF : G ∉ F) : Kept ((G, o, vs) :: L) F w :=
  ⟨fun x hx => by
    rcases List.mem_cons.1 hx with rfl | hx
    · exact hr
    · exact h.at0 x hx, fun x hx => by
    rcases List.mem_cons.1 hx with rfl | hx
    · exact hG
    · exact h.lt x hx, fun x hx => by
    rcases List.mem_cons.1 hx with rfl | hx
    · exact hF
    · exact h.off x hx, fun x hx => by
    rcases List.mem_cons.1 hx with rfl | hx
    · exact ht
    · exact h.th x hx⟩
theorem Kept.foot (h : Kept L F w) (hf : Foot F F' w w') : Kept L F' w' :=
  ⟨fun x hx => range_foot hf (h.at0 x hx) (h.lt x hx) (h.off x hx), fun x hx => Nat.lt_of_lt_of_le (h.lt x hx) hf.size, fun x hx => hf.out (h.lt x hx) (h.off x hx), fun x hx j hj => by
    have hk := hf.keep x.1 (h.lt x hx) (h.off x hx)
    have := h.th x hx j hj
    rwa [World.cell?_of_block (w := w) (a := ⟨x.1, x.2.1 + j, none⟩) hk, World.frozen?_of_block (w := w) (a := ⟨x.1, x.2.1 + j, none⟩) hk]⟩
theorem Kept.below (h : Kept L F w) (hb : Below w.heap.size w w') : Kept L F w' := h.foot (Foot.ofBelow F hb)
/-- A store into a block that is none of them. -/
theorem Kept.store (h : Kept L F w) {G o : Nat} (hG : ∀ x ∈ L, x.1 ≠ G) (us : List Value) : Kept L F (w.setCells G o us) :=
  ⟨fun x hx => World.rangeAt_setCells_apart (h.at0 x hx) G o us (.inl (hG x hx)), fun x hx => by rw [size_setCells]; exact h.lt x hx, h.off, fun x hx => World.there_setCells (h.th x hx) G o us⟩
theorem Kept.sub (h : Kept L F w) {L' : List (Nat × Nat × List Value)} (hs : ∀ x ∈ L', x ∈ L) : Kept L' F w := ⟨fun x hx => h.at0 x (hs x hx), fun x hx => h.lt x (hs x hx), fun x hx => h.off x (hs x hx), fun x hx => h.th x (hs x hx)⟩
end
/-- The rows of a writer. -/
structure W3 (w : World) (B : Nat) (vB vN vA : Value) (t : Wst) : Prop where
  rb : w.ownsRow B 5 1 vB t.1.length (bys t.1)
  rn : w.ownsRow B 9 1 vN t.2.1.length (t.2.1.map Value.string)
  ra : w.ownsRow B 3 1 vA t.2.2.length (intsL t.2.2)
theorem W3.blk {w : World} {B : Nat} {vB vN vA : Value} {t : Wst} (h : W3 w B vB vN vA t) : ∀ k ∈ blk3 vB vN vA, B ≤ k ∧ k < w.heap.size := fun k hk => by
  rcases mem_blk3.1 hk with e | e | e
  · exact h.rb.lt k e
  · exact h.rn.lt k e
  · exact h.ra.lt k e
theorem W3.keep {w w' : World} {B : Nat} {vB vN vA : Value} {t : Wst} (h : W3 w B vB vN vA t) (hk : ∀ k ∈ blk3 vB vN vA, w'.heap[k]? = w.heap[k]?) : W3 w' B vB vN vA t :=
  ⟨own_kept h.rb (fun g hg => hk g (mem_blk3.2 (.inl hg))), own_kept h.rn (fun g hg => hk g (mem_blk3.2 (.inr (.inl hg)))), own_kept h.ra (fun g hg => hk g (mem_blk3.2 (.inr (.inr hg))))⟩
/-- How a walk stands: begun at w0, with the rows' blocks F0. -/
structure St9 (w0 : World) (B : Nat) (F0 : List Nat) (L : List (Nat × Nat × List Value)) (vB vN vA : Value) (t : Wst) (w : World) : Prop where
  rows : W3 w B vB vN vA t
  foot : Foot F0 (blk3 vB vN vA) w0 w
  kept : Kept L (blk3 vB vN vA) w
  size : B ≤ w.heap.size
section
variable {w0 w w' : World} {B G : Nat} {F0 : List Nat} {L : List (Nat × Nat × List Value)} {vB vN vA : Value} {t : Wst} {us : List Value}
theorem St9.begin (h : W3 w B vB vN vA t) (hB : B ≤ w.heap.size) : St9 w B (blk3 vB vN vA) [] vB vN vA t w := ⟨h, Foot.ofBelow _ (Below.refl _ _), Kept.nil _ _, hB⟩
theorem St9.below (h : St9 w0 B F0 L vB vN vA t w) (hb : Below w.heap.size w w') : St9 w0 B F0 L vB vN vA t w' :=
  ⟨h.rows.keep (fun k hk => hb.block k (h.rows.blk k hk).2), h.foot.trans (Foot.ofBelow _ hb), h.kept.below hb, Nat.le_trans h.size hb.size⟩
theorem St9.drew (h : St9 w0 B F0 L vB vN vA t w) : St9 w0 B F0 L vB vN vA t w.drew := h.below (Below.refl _ _).drew
/-- A new block is held, too. -/
theorem St9.hold (h : St9 w0 B F0 L vB vN vA t w) {o : Nat} {vs : List Value} (hr : w.rangeAt G o vs) (ht : w.there G o vs.length) (hG : G < w.heap.size) (hF : G ∉ blk3 vB vN vA) : St9 w0 B F0 ((G, o, vs) :: L) vB vN vA t w := ⟨h.rows, h.foot, h.kept.cons hr ht hG hF, h.size⟩
theorem St9.alloc (h : St9 w0 B F0 L vB vN vA t w) (vs : List Value) (ty : TypeId) : St9 w0 B F0 ((w.heap.size, 0, vs) :: L) vB vN vA t (w.alloc (.cells vs.toArray ty)) :=
  (h.below ((Below.refl _ _).alloc (Nat.le_refl _) _)).hold (built_new _) (CellsAt.new w ty vs).there (by simp) (fun hk => by have := (h.rows.blk _ hk).2; omega)
theorem St9.sub (h : St9 w0 B F0 L vB vN vA t w) {L' : List (Nat × Nat × List Value)} (hs : ∀ x ∈ L', x ∈ L) : St9 w0 B F0 L' vB vN vA t w := ⟨h.rows, h.foot, h.kept.sub hs, h.size⟩
/-- A store into a block that is none of the rows', nor older than the walk. -/
theorem St9.store (h : St9 w0 B F0 L vB vN vA t w) {o : Nat} (hn : ∀ x ∈ L, x.1 ≠ G) (hF : G ∉ blk3 vB vN vA) (h0 : w0.heap.size ≤ G) (us : List Value) : St9 w0 B F0 L vB vN vA t (w.setCells G o us) := by
  have hb : Below w0.heap.size w (w.setCells G o us) := below_cells h0 _ _ _ (Below.refl _ _)
  refine ⟨h.rows.keep (fun k hk => setCells_block _ _ _ _ _ (fun e => hF (e ▸ hk))), ?_, h.kept.store hn us, by rw [size_setCells]; exact h.size⟩
  refine ⟨hb.os.trans h.foot.os, hb.tape.trans h.foot.tape, hb.output.trans h.foot.output, Nat.le_trans h.foot.size hb.size, fun k hk hn => (setCells_block _ _ _ _ _ (by omega)).trans (h.foot.keep k hk hn), h.foot.new⟩
theorem St9.cells (h : St9 w0 B F0 L vB vN vA t w) {vs : List Value} (hm : (G, 0, vs) ∈ L) : CellsAt w G vs := ⟨h.kept.lt _ hm, h.kept.at0 _ hm, h.kept.th _ hm⟩
/-- A held block, stored whole. -/
theorem St9.set (h : St9 w0 B F0 ((G, 0, us) :: L) vB vN vA t w) (hn : ∀ x ∈ L, x.1 ≠ G) (h0 : w0.heap.size ≤ G) (vs : List Value) (hl : vs.length = us.length) : St9 w0 B F0 ((G, 0, vs) :: L) vB vN vA t (w.setCells G 0 vs) := by
  have hF := h.kept.off _ (List.mem_cons_self ..)
  have hc := (h.cells (List.mem_cons_self ..)).stored vs hl
  exact ((h.sub (fun x hx => List.mem_cons_of_mem _ hx)).store hn hF h0 vs).hold hc.range hc.there hc.lt hF
theorem W3.one (h : W3 w B vB vN vA t) : [vB, vN, vA].all (fun u => u.oneCell') = true := by
  simp only [List.all_cons, List.all_nil, own_oneCell h.rb, own_oneCell h.rn, own_oneCell h.ra, Bool.and_self]
theorem St9.ret (h : St9 w0 B F0 L vB vN vA t w) : PutRet w0 B F0 t.1 t.2.1 t.2.2 (.returned (.agg #[vB, vN, vA])) w := ⟨vB, vN, vA, rfl, h.rows.rb, h.rows.rn, h.rows.ra, h.foot⟩
theorem twoL_len (n : Nat) : (twoL n).length = 2 := rfl
theorem St9.twoc (h : St9 w0 B F0 L vB vN vA t w) {n : Nat} (hn : n ≤ 65535) : Calls Try.prog 34 #[.int .i64 (n : Int)] w fun e w' => e = .returned (.slice (some ⟨w.heap.size, 0, none⟩) 2 2) ∧ BytesIn2 w' (some ⟨w.heap.size, 0, none⟩) 2 (twoL n) ∧ St9 w0 B F0 L vB vN vA t w' := by
  refine (two9_any n w hn).mono ?_
  rintro e w' ⟨h1, h2, h3⟩
  obtain ⟨a, c, h4, h5⟩ := in_own h2
  injection h4 with e1 e2 e3
  subst e1
  subst e3
  exact ⟨h1, h5, h.below h3⟩
theorem St9.more (h : St9 w0 B F0 L vB vN vA t w) {vB' vN' vA' : Value} {t' : Wst} (h1 : W3 w' B vB' vN' vA' t') (h2 : Foot (blk3 vB vN vA) (blk3 vB' vN' vA') w w') : St9 w0 B F0 L vB' vN' vA' t' w' := ⟨h1, h.foot.trans h2, h.kept.foot h2, Nat.le_trans h.size h2.size⟩
theorem St9.putc (h : St9 w0 B F0 L vB vN vA t w) {ad : Option Addr} {c n : Nat} {m : List UInt8} (hm : BytesIn2 w ad c m) (hl : t.1.length + m.length ≤ 1000000000) (hn : m.length = n) :
    Calls Try.prog 33 #[.agg #[vB, vN, vA], .slice ad n c] w fun e w' => ∃ vB' vN' vA', e = .returned (.agg #[vB', vN', vA']) ∧ St9 w0 B F0 L vB' vN' vA' (t.1 ++ m, t.2) w' := by
  subst hn
  refine (put9_any vB vN vA t.1 t.2.1 t.2.2 ad c m w B h.rows.rb h.rows.rn h.rows.ra hm h.size hl).mono ?_
  rintro e w' ⟨b, n, a, h1, h2, h3, h4, h5⟩
  exact ⟨b, n, a, h1, h.more ⟨h2, h3, h4⟩ h5⟩
theorem St9.namec (h : St9 w0 B F0 L vB vN vA t w) {s : ByteArray} (hm : mayN s = true) {K : Nat} (hK : Wok K t) (hk : K ≤ 1000000) :
    Calls Try.prog 35 #[.agg #[vB, vN, vA], .string s] w fun e w' => ∃ vB' vN' vA', e = .returned (.tuple #[.agg #[vB', vN', vA'], .bool true]) ∧ St9 w0 B F0 L vB' vN' vA' (t.1 ++ (nmT s t.1.length t.2.1 t.2.2).1, (nmT s t.1.length t.2.1 t.2.2).2) w' := by
  have hs := may_small hm
  have k1 := hK.len
  have k2 := hK.lns
  have H := refName8_any vB vN vA t.1 t.2.1 t.2.2 s w B h.rows.rb h.rows.rn h.rows.ra h.size hK.two (by omega) (by omega) (fun p hp => by have := hK.sm p hp; omega) hK.low (by omega)
  rw [hm, if_pos rfl, (nmT_is hm t.1.length t.2.1 t.2.2).eq t.1 rfl] at H
  refine H.mono ?_
  rintro e w' ⟨b, n, a, h1, h2, h3, h4, h5⟩
  exact ⟨b, n, a, h1, h.more ⟨h2, h3, h4⟩ h5⟩
end
end Go.Proofs.Yticdpidngmeebaa
/- Bytes made of a text, held. -/
namespace Go.Proofs.Yticdpidngmeebaa
open Go.RowKit
set_option linter.unusedVariables false
set_option maxRecDepth 20000

theorem bytes_of_held {w : World} {G c : Nat} {l : List UInt8} (hr : w.rangeAt G 0 (bys l)) (h1 : l.length ≤ c) (h2 : c ≤ maxLen) : BytesIn2 w (some ⟨G, 0, none⟩) c l :=
  ⟨⟨h1, h2, .inr ⟨_, rfl, fun i hi => by
    have := hr i (.int .u8 ((l[i].toNat : Nat) : Int)) (by unfold bys; rw [List.getElem?_map, List.getElem?_eq_getElem hi]; rfl)
    have hadd : (⟨G, 0, none⟩ : Addr).add i = ⟨G, 0 + i, none⟩ := by unfold Addr.add; split <;> simp_all
    rw [hadd]
    exact this⟩⟩, fun h => by cases h⟩
theorem conv_range (w : World) (s : ByteArray) : (Lib.bytesWorld w 5 s).rangeAt w.heap.size 0 (bys s.data.toList) := fun j u hu => by
  rw [Nat.zero_add]
  exact conv_cells w s j u hu
theorem conv_there (w : World) (s : ByteArray) : (Lib.bytesWorld w 5 s).there w.heap.size 0 (bys s.data.toList).length := fun j hj => by
  have hc := conv_range w s j _ (List.getElem?_eq_getElem hj)
  have h0 := hc
  refine ⟨by rw [hc]; rfl, ?_⟩
  unfold World.cell? at hc
  have hb := Lib.bytesWorld_at_new w 5 s
  simp only [hb] at hc
  have hlt : 0 + j < (Lib.bytesCells w 5 s).size := by
    apply Classical.byContradiction
    intro h
    rw [Nat.zero_add] at h hc

    exact h (Array.getElem?_eq_some_iff.1 hc).1
  unfold World.frozen?
  simp only [hb]
  simp
  omega
theorem St9.conv {w0 w : World} {B : Nat} {F0 : List Nat} {L : List (Nat × Nat × List Value)} {vB vN vA : Value} {t : Wst} (h : St9 w0 B F0 L vB vN vA t w) (s : ByteArray) : St9 w0 B F0 ((w.heap.size, 0, bys s.data.toList) :: L) vB vN vA t (Lib.bytesWorld w 5 s) :=
  (h.below (conv_below w s)).hold (conv_range w s) (conv_there w s) (by rw [Lib.bytesWorld_size]; omega) (fun hk => by have := (h.rows.blk _ hk).2; omega)
/-- A text turned into bytes: where they lie, and what is held then. -/
theorem St9.conv_ex {w0 w : World} {B : Nat} {F0 : List Nat} {g : Nat × Nat × List Value} {L : List (Nat × Nat × List Value)} {vB vN vA : Value} {t : Wst} (h : St9 w0 B F0 (g :: L) vB vN vA t w) (s : ByteArray) (hs : s.size ≤ maxLen) :
    ∃ (P : Nat) (V : World) (c : Nat), (convert 9 27 (.string s)).run Try.prog w = .ok (.slice (some ⟨P, 0, none⟩) s.size c) V ∧ s.size ≤ c ∧ c ≤ maxLen ∧ P ≠ g.1 ∧ St9 w0 B F0 (g :: (P, 0, bys s.data.toList) :: L) vB vN vA t V ∧ Below w.heap.size w V :=
  ⟨_, _, _, Lib.run_convert_string_bytes (P := Try.prog) w 9 27 5 s Try.underlying9 Try.underlying27 Try.underlying5, grownCap_ge _ _ _ _, grownCap_le_maxLen _ _ _ _ hs, Nat.ne_of_gt (h.kept.lt _ (List.mem_cons_self ..)), (h.conv s).sub (fun x hx => by
    simp only [List.mem_cons] at hx ⊢
    rcases hx with h | h | h <;> simp [h]), conv_below w s⟩
/-- A new writer's box: where it lies, and what is held then. -/
theorem St9.alloc_ex {w0 w : World} {B : Nat} {F0 : List Nat} {L : List (Nat × Nat × List Value)} {vB vN vA : Value} {t : Wst} (h : St9 w0 B F0 L vB vN vA t w) :
    ∃ (P : Nat) (V : World), w.heap.size = P ∧ w.alloc (.cells #[.slice none 0 0, .slice none 0 0, .slice none 0 0] 70) = V ∧ (∀ x ∈ L, x.1 ≠ P) ∧ w0.heap.size ≤ P ∧ St9 w0 B F0 ((P, 0, zW) :: L) vB vN vA t V ∧ Below w.heap.size w V :=
  ⟨_, _, rfl, rfl, fun x hx => Nat.ne_of_lt (h.kept.lt x hx), h.foot.size, h.alloc zW _, (Below.refl _ _).alloc (Nat.le_refl _) _⟩
theorem own_some {w : World} {B n : Nat} {t : TypeId} {z : Nat} {v : Value} {xs : List Value} (h : w.ownsRow B t z v n xs) (hn : 0 < n) : ∃ g c, v = .slice (some ⟨g, 0, none⟩) n c := by
  rcases h.2 with ⟨_, e⟩ | ⟨g, cap, cur, e, _⟩
  · omega
  · exact ⟨g, cap, e⟩
/-- A byte of the rows turned. -/
theorem St9.setB {w0 w : World} {B g n c i : Nat} {F0 : List Nat} {L : List (Nat × Nat × List Value)} {vN vA : Value} {t : Wst} (h : St9 w0 B F0 L (.slice (some ⟨g, 0, none⟩) n c) vN vA t w) (x : UInt8) (hi : i < t.1.length) :
    St9 w0 B F0 L (.slice (some ⟨g, 0, none⟩) n c) vN vA (t.1.set i x, t.2) (w.setCell ⟨g, i, none⟩ (.int .u8 (x.toNat : Int))) ∧ w.frozen? ⟨g, i, none⟩ = false ∧ ∃ v, w.cell? ⟨g, i, none⟩ = some v := by
  obtain ⟨h1, h2, h3⟩ := own_setB h.rows.rb i x hi
  have hg : ∀ k, k ≠ g → (w.setCell ⟨g, i, none⟩ (.int .u8 (x.toNat : Int))).heap[k]? = w.heap[k]? := fun k hk => heap_setCell_other _ _ _ _ hk
  have hgm : g ∈ blk3 (.slice (some ⟨g, 0, none⟩) n c) vN vA := mem_blk3.2 (.inl rfl)
  have hsz : (w.setCell ⟨g, i, none⟩ (.int .u8 (x.toNat : Int))).heap.size = w.heap.size := by simp
  refine ⟨⟨⟨h1, own_kept h.rows.rn (fun k hk => hg k (fun e => own_types h.rows.rb h.rows.rn (by decide) g rfl (e ▸ hk))), own_kept h.rows.ra (fun k hk => hg k (fun e => own_types h.rows.rb h.rows.ra (by decide) g rfl (e ▸ hk)))⟩, ?_, ?_, by rw [hsz]; exact h.size⟩, h2, h3⟩
  · have hb : Below 0 w (w.setCell ⟨g, i, none⟩ (.int .u8 (x.toNat : Int))) := (Below.refl 0 w).setCell (p := ⟨g, i, none⟩) (Nat.zero_le _) _
    refine ⟨hb.os.trans h.foot.os, hb.tape.trans h.foot.tape, hb.output.trans h.foot.output, by rw [hsz]; exact h.foot.size, fun k hk hn => (hg k (fun e => ?_)).trans (h.foot.keep k hk hn), h.foot.new⟩
    subst e
    rcases h.foot.new k hgm with e | e
    · exact hn e
    · omega
  · have hne : ∀ x ∈ L, x.1 ≠ g := fun x hx e => h.kept.off x hx (e ▸ hgm)
    exact ⟨fun y hy j u hu => (World.cell?_of_block (a := ⟨y.1, y.2.1 + j, none⟩) (hg _ (hne y hy))).trans (h.kept.at0 y hy j u hu), fun y hy => by rw [hsz]; exact h.kept.lt y hy, h.kept.off, fun y hy j hj => by
      have := h.kept.th y hy j hj
      rwa [World.cell?_of_block (w := w) (a := ⟨y.1, y.2.1 + j, none⟩) (hg _ (hne y hy)), World.frozen?_of_block (w := w) (a := ⟨y.1, y.2.1 + j, none⟩) (hg _ (hne y hy))]⟩
theorem two_cells {w : World} {P c : Nat} {n : Nat} (h : BytesIn2 w (some ⟨P, 0, none⟩) c (twoL n)) : w.cell? ⟨P, 0, none⟩ = some (.int .u8 ((UInt8.ofNat (n / 256)).toNat : Int)) ∧ w.cell? ⟨P, 1, none⟩ = some (.int .u8 ((UInt8.ofNat (n % 256)).toNat : Int)) := by
  obtain ⟨⟨_, _, h3⟩, _⟩ := h
  rcases h3 with h3 | ⟨x, e, h3⟩
  · cases h3
  · cases e
    have e0 := h3 0 (by rw [twoL_len]; decide)
    have e1 := h3 1 (by rw [twoL_len]; decide)
    exact ⟨e0, e1⟩
end Go.Proofs.Yticdpidngmeebaa

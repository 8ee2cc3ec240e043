/- Texts that belong together, one behind the other: RefFind, RefGet, FindMath, Cuts, Parts, Loose, DecParts, RefPrints, HexParts, Pieces, RefSixPrint, RefAddrUnmap, Cases, RefSpace. -/
import Derived.Test.YtgbajagacmfcmaaGreatDoorB4
import Derived.Deep.Cut
import Derived.Lib.ConvBytes
import Derived.Laws.IdiomStrings
/- Contract of the reference's Find of layer 6. -/
namespace Go.Proofs.YtgbajagacmfcmaaGreatDoor
open Go.RowKit
set_option linter.unusedVariables false
set_option maxRecDepth 20000

/-- The better one of two entries, where the second one has the address. -/
def betterE (g : Int) (us : List Nat) (o : Option Ent) (e : Ent) : Option Ent := if hasB e.f e.b e.n g us = true then (match o with | none => some e | some b => if b.n < e.n then some e else some b) else o
/-- An address's entry. -/
def findE (es : List Ent) (g : Int) (us : List Nat) : Option Ent := es.foldl (betterE g us) none
def entRet (o : Option Ent) : Value := match o with
  | some e => .tuple #[entV e.f e.b (e.n : Int) e.v, .bool true]
  | none => .tuple #[entV 0 (List.replicate 16 0) 0 0, .bool false]
theorem foldl_take {α β : Type} (f : β → α → β) (z : β) (l : List α) (k : Nat) (hk : k < l.length) : (l.take (k + 1)).foldl f z = f ((l.take k).foldl f z) l[k] := by
  rw [List.take_succ_eq_append_getElem hk, List.foldl_append]
  rfl
/-- Which index is the best one so far. -/
def BestI (es : List Ent) (o : Option Ent) (i : Int) (k : Nat) : Prop := (i = -1 ∧ o = none) ∨ ∃ (j : Nat) (h : j < es.length), i = (j : Int) ∧ j < k ∧ o = some es[j]
set_option maxRecDepth 100000 in
set_option maxHeartbeats 2000000 in
theorem refFind_any (v : Value) (es : List Ent) (f : Int) (us : List Nat) (w : World) (base : Nat) (hE : RowE w base v es) (h16 : us.length = 16) (hlt : ∀ x ∈ us, x < 256) :
    Calls Tryz.prog 19 #[v, addrV f us] w fun e w' => e = .returned (entRet (findE es f us)) ∧ Below w.heap.size w w' := by
  obtain ⟨R, eR⟩ : ∃ R, findE es f us = R := ⟨_, rfl⟩
  rw [eR]
  have HR := Lib.hid eR
  have H16 := Lib.hid h16
  have HLT := Lib.hid hlt
  have HLZ : Hid ((List.replicate 16 0).length = 16) := Lib.hid rfl
  have hlen := hE.2.2
  obtain ⟨cs, ecs, H1, HB⟩ := addr_boxed f us w h16
  have HZ := ent_zeroed (w.alloc (.cells cs 24))
  rw [heap_alloc] at HZ
  have HZH := Lib.hid HZ
  have H1a := Lib.hid (H1.out.alloc (.cells zE 58))
  have HBa := Lib.hid (HB.out.alloc HB.out.size (.cells zE 58))
  rw [ecs]
  clear ecs h16 eR HZ H1 HB hlt
  rcases hE.form with ⟨rfl, rfl⟩ | ⟨g, cap, rfl, hg1, hg2, hcap, hcap2, hrg⟩
  · have HN : Hid (R = none) := Lib.hid HR.out.symm
    clear hE
    go_enter Tryz.func19, Tryz.ntmps19
    go_upto_region 1 with fail
    generalize ((w.alloc (.cells cs 24)).alloc (.cells zE 58)) = W at *
    go_wp2_with fail
    go_loop [6, 7] (fun b i => i = .int .i64 0 ∧ b = .int .i64 (-1)) (fun _ _ => 0)
    case atStart => exact ⟨rfl, rfl⟩
    case round =>
      obtain ⟨rfl, rfl⟩ := hrel
      go_wp2_with (first | refine build_ent0 rfl rfl ?_ | refine store_ent HZH _ _ HLZ rfl rfl rfl rfl (fun W HW HP => ?_))
      refine bodyPost_ret (results_ent2 Tryz.results19 rfl HP.out) rfl ⟨by rw [HN.out]; rfl, by rw [HW.out]; exact below_cells (by omega) _ _ _ HBa.out⟩
  · go_enter Tryz.func19, Tryz.ntmps19
    go_upto_region 1 with fail
    generalize ((w.alloc (.cells cs 24)).alloc (.cells zE 58)) = W at *
    obtain ⟨L, hL⟩ : ∃ L, [(w.heap.size, 0, addrL f us), (g, 0, flatE es)] = L := ⟨_, rfl⟩
    have hrg2 : W.rangeAt g 0 (flatE es) := fun j u hu => by rw [HBa.out.cell (p := ⟨g, 0 + j, none⟩) hg2]; exact hrg j u hu
    have HK := Lib.hid (show HeldR L w W by rw [← hL]; exact ((HeldR.nil HBa.out).cons hrg2 (Nat.lt_of_lt_of_le hg2 HBa.out.size)).addr H1a.out)
    have Mt3 := Lib.hid (show InA L w.heap.size f us from ⟨by rw [← hL]; simp, H16.out⟩)
    have HME : Hid (∀ w', HeldR L w w' → w'.rangeAt g 0 (flatE es)) := Lib.hid (fun w' h => h.get (by rw [← hL]; simp))
    have HAG := Lib.hid hE.2.1
    have HRE : Hid ((es.take es.length).foldl (betterE f us) none = R) := Lib.hid (by rw [List.take_length]; exact HR.out)
    have HI0 : Hid (BestI es ((es.take 0).foldl (betterE f us) none) (-1) 0) := Lib.hid (.inl ⟨rfl, rfl⟩)
    clear hL H1a hrg hrg2 hE HR
    go_wp2_with fail
    go_loopw [6, 7] (fun b i wr => ∃ (k : Nat) (z : Int), k ≤ es.length ∧ i = .int .i64 (k : Int) ∧ b = .int .i64 z ∧ Hid (HeldR L w wr) ∧ Hid (EntAt wr (w.heap.size + 1) 0 (List.replicate 16 0) 0 0) ∧ Hid (BestI es ((es.take k).foldl (betterE f us) none) z k)) (fun _ i _ => es.length - (intOf i).toNat)
    case atStart => exact ⟨0, -1, Nat.zero_le _, rfl, rfl, HK, HZH, HI0⟩
    case round =>
      obtain ⟨k, z, hk, rfl, rfl, HS, HZ2, HI⟩ := hrel
      clear HK HI0 HZH
      by_cases hkl : k < es.length
      · have hd : decide ((k : Int) < (es.length : Int)) = true := by simp; omega
        have hdn : decide (k < es.length) = true := by simp; omega
        have hki : (k : Int) < (es.length : Int) := by omega
        obtain ⟨en, hen⟩ : ∃ en, es[k] = en := ⟨_, rfl⟩
        have hgd : en.Good := by rw [← hen]; exact HAG.out _ (List.getElem_mem hkl)
        have Mk := Lib.hid (show InPo L w g (k * 19) en.f en.b (en.n : Int) from ⟨fun w' h => range_pref (by rw [← hen]; exact range_ent (HME.out w' h) HAG.out k hkl), hgd.1.len⟩)
        have Ck := Lib.hid (show CellR L w g (k * 19 + 17) (.int .i64 (en.n : Int)) from fun w' h => by have := cell_bits (range_ent (HME.out w' h) HAG.out k hkl) (by rw [hen]; exact hgd.1.len); rw [hen] at this; exact this)
        have HST : Hid ((es.take (k + 1)).foldl (betterE f us) none = betterE f us ((es.take k).foldl (betterE f us) none) en) := Lib.hid (by rw [foldl_take _ _ _ _ hkl, hen])
        have HNN := bitsN_le en.f
        have hnle := hgd.1.le
        have HHC := fun W => Lib.hid (refHas_any en.f en.b en.n f us W hgd.1.len H16.out hgd.1.lt HLT.out (by omega))
        have HBE : Hid (∀ o, betterE f us o en = if hasB en.f en.b en.n f us = true then (match o with | none => some en | some b => if b.n < en.n then some en else some b) else o) := Lib.hid (fun _ => rfl)
        generalize hasB en.f en.b en.n f us = hb at *
        have C6 : ∀ w', HeldR L w w' → Hid (Calls Tryz.prog 33 #[prefV en.f en.b (en.n : Int), addrV f us] w' fun e w'' => e = .returned (.bool hb) ∧ Below w'.heap.size w' w'') := fun w' h => HHC w'
        have HEK : Hid (es[k] = en) := Lib.hid hen
        clear hen HHC hgd
        generalize (es.take k).foldl (betterE f us) none = o at *
        obtain ⟨o2, ho2⟩ : ∃ o2, (es.take (k + 1)).foldl (betterE f us) none = o2 := ⟨_, rfl⟩
        rw [ho2] at HST
        have HO2 := Lib.hid ho2
        clear ho2
        go_upto_region 5 with fail
        replace HZ2 := Lib.hid (HZ2.out.below (Below.refl _ _).drew)
        refine wp_region_noPanic ?_
        refine wp_region_held_drew (S := HeldR L w) (by kernel_rfl) HS.out.drew (fun hHeld => ?_)
        refine wpAnyH_take (i := 0) (v := ?_) rfl (by kernel_rfl) (by kernel_rfl) (by kernel_rfl) (fun _ _ _ h => h) (Or.inl ⟨by rfl, ?_⟩) (by assumption) ?_
        rotate_left
        · (intro w hSw; go_simp; try (with_reducible rfl))
        try simp only [Act.put, List.getElem_toArray, List.getElem_cons_zero, List.setIfInBounds_toArray, List.set_cons_zero, List.set_cons_succ]
        refine wpAnyH_take (i := 1) (v := ?_) rfl (by kernel_rfl) (by kernel_rfl) (by kernel_rfl) (fun _ _ _ h => h) (Or.inl ⟨by rfl, ?_⟩) (by assumption) ?_
        rotate_left
        · (intro w hSw; go_simp; try (with_reducible rfl))
        try simp only [Act.put, List.getElem_toArray, List.getElem_cons_zero, List.getElem_cons_succ, List.setIfInBounds_toArray, List.set_cons_zero, List.set_cons_succ]
        refine wpAnyH_take (i := 2) (v := ?_) rfl (by kernel_rfl) (by kernel_rfl) (by kernel_rfl) (fun _ _ _ h => h) (Or.inl ⟨by rfl, ?_⟩) (by assumption) ?_
        rotate_left
        · (intro w hSw; go_simp; try (with_reducible rfl))
        try simp only [Act.put, List.getElem_toArray, List.getElem_cons_zero, List.getElem_cons_succ, List.setIfInBounds_toArray, List.set_cons_zero, List.set_cons_succ]
        refine wpAnyH_take (i := 3) (v := ?_) rfl (by kernel_rfl) (by kernel_rfl) (by kernel_rfl) (fun _ _ _ h => h) (Or.inl ⟨by rfl, ?_⟩) (by assumption) ?_
        rotate_left
        · (intro w hSw; go_simp; try (with_reducible rfl))
        try simp only [Act.put, List.getElem_toArray, List.getElem_cons_zero, List.getElem_cons_succ, List.setIfInBounds_toArray, List.set_cons_zero, List.set_cons_succ]
        refine wpAnyH_take (i := 4) rfl (by kernel_rfl) (by kernel_rfl) (by kernel_rfl) (fun _ _ _ h => h) (yields_pref_o Mk (by rfl) _ rfl rfl) (by assumption) ?_
        try simp only [Act.put, List.getElem_toArray, List.getElem_cons_zero, List.getElem_cons_succ, List.setIfInBounds_toArray, List.set_cons_zero, List.set_cons_succ]
        refine wpAnyH_take (i := 5) rfl (by kernel_rfl) (by kernel_rfl) (by kernel_rfl) (fun _ _ _ h => h) (yields_addr Mt3 (by rfl) _ rfl rfl) (by assumption) ?_
        try simp only [Act.put, List.getElem_toArray, List.getElem_cons_zero, List.getElem_cons_succ, List.setIfInBounds_toArray, List.set_cons_zero, List.set_cons_succ]
        refine wpAnyH_ready (rs := [6]) (by kernel_rfl) (by simp) ?_
        refine AllReadyH.cons rfl (fun K hK => ?_) AllReadyH.nil
        go_simp
        refine (C6 _ (by assumption)).out.mono ?_
        rintro e wr6 ⟨rfl, hb6⟩
        replace HZ2 := Lib.hid (HZ2.out.below hb6)
        have hS6 := HeldR.next (by assumption) hb6
        clear hb6
        go_wp2_with fail
        refine hK.out _ _ hS6 (fun hHeld => ?_)
        clear hK K
        try simp only [Act.put, List.getElem_toArray, List.getElem_cons_zero, List.getElem_cons_succ, List.setIfInBounds_toArray, List.set_cons_zero, List.set_cons_succ]
        refine wpAnyH_take (i := 7) (v := ?_) rfl (by kernel_rfl) (by kernel_rfl) (by kernel_rfl) (fun _ _ _ h => h) (Or.inl ⟨by rfl, ?_⟩) (by assumption) ?_
        rotate_left
        · (intro w hSw; go_simp; try (with_reducible rfl))
        try simp only [Act.put, List.getElem_toArray, List.getElem_cons_zero, List.getElem_cons_succ, List.setIfInBounds_toArray, List.set_cons_zero, List.set_cons_succ]
        refine wpAnyH_done (by kernel_rfl) ?_ _
        refine NoPanic.normal ?_
        clear C6
        go_upto_region 6 with fail
        replace HZ2 := Lib.hid (HZ2.out.below (Below.refl _ _).drew)
        cases hb with
        | false =>
          have HO : Hid (o2 = o) := Lib.hid (by rw [HST.out, HBE.out]; rfl)
          refine wp_region_noPanic ?_
          refine wp_region_held_drew (S := HeldR L w) (by kernel_rfl) hHeld.drew (fun hHeld2 => ?_)
          refine wpAnyH_take (i := 0) (v := ?_) rfl (by kernel_rfl) (by kernel_rfl) (by kernel_rfl) (fun _ _ _ h => h) (Or.inl ⟨by rfl, ?_⟩) (by assumption) ?_
          rotate_left
          · (intro w hSw; go_simp; try (with_reducible rfl))
          try simp only [Act.put, List.getElem_toArray, List.getElem_cons_zero, List.setIfInBounds_toArray, List.set_cons_zero, List.set_cons_succ]
          refine wpAnyH_take (i := 1) (v := ?_) rfl (by kernel_rfl) (by kernel_rfl) (by kernel_rfl) (fun _ _ _ h => h) (Or.inl ⟨by rfl, ?_⟩) (by assumption) ?_
          rotate_left
          · (intro w hSw; go_simp; try (with_reducible rfl))
          try simp only [Act.put, List.getElem_toArray, List.getElem_cons_zero, List.getElem_cons_succ, List.setIfInBounds_toArray, List.set_cons_zero, List.set_cons_succ]
          refine wpAnyH_take (i := 2) (v := undef) rfl (by kernel_rfl) (by kernel_rfl) (by kernel_rfl) (fun _ _ _ h => h) (Or.inr ⟨by rfl, rfl⟩) (by assumption) ?_
          try simp only [Act.put, List.getElem_toArray, List.getElem_cons_zero, List.getElem_cons_succ, List.setIfInBounds_toArray, List.set_cons_zero, List.set_cons_succ]
          refine wpAnyH_take (i := 3) (v := undef) rfl (by kernel_rfl) (by kernel_rfl) (by kernel_rfl) (fun _ _ _ h => h) (Or.inr ⟨by rfl, rfl⟩) (by assumption) ?_
          try simp only [Act.put, List.getElem_toArray, List.getElem_cons_zero, List.getElem_cons_succ, List.setIfInBounds_toArray, List.set_cons_zero, List.set_cons_succ]
          refine wpAnyH_take (i := 4) (v := undef) rfl (by kernel_rfl) (by kernel_rfl) (by kernel_rfl) (fun _ _ _ h => h) (Or.inr ⟨by rfl, rfl⟩) (by assumption) ?_
          try simp only [Act.put, List.getElem_toArray, List.getElem_cons_zero, List.getElem_cons_succ, List.setIfInBounds_toArray, List.set_cons_zero, List.set_cons_succ]
          refine wpAnyH_take (i := 5) (v := undef) rfl (by kernel_rfl) (by kernel_rfl) (by kernel_rfl) (fun _ _ _ h => h) (Or.inr ⟨by rfl, rfl⟩) (by assumption) ?_
          try simp only [Act.put, List.getElem_toArray, List.getElem_cons_zero, List.getElem_cons_succ, List.setIfInBounds_toArray, List.set_cons_zero, List.set_cons_succ]
          refine wpAnyH_take (i := 6) (v := undef) rfl (by kernel_rfl) (by kernel_rfl) (by kernel_rfl) (fun _ _ _ h => h) (Or.inr ⟨by rfl, rfl⟩) (by assumption) ?_
          try simp only [Act.put, List.getElem_toArray, List.getElem_cons_zero, List.getElem_cons_succ, List.setIfInBounds_toArray, List.set_cons_zero, List.set_cons_succ]
          refine wpAnyH_take (i := 7) (v := undef) rfl (by kernel_rfl) (by kernel_rfl) (by kernel_rfl) (fun _ _ _ h => h) (Or.inr ⟨by rfl, rfl⟩) (by assumption) ?_
          try simp only [Act.put, List.getElem_toArray, List.getElem_cons_zero, List.getElem_cons_succ, List.setIfInBounds_toArray, List.set_cons_zero, List.set_cons_succ]
          refine wpAnyH_take (i := 8) (v := undef) rfl (by kernel_rfl) (by kernel_rfl) (by kernel_rfl) (fun _ _ _ h => h) (Or.inr ⟨by rfl, rfl⟩) (by assumption) ?_
          try simp only [Act.put, List.getElem_toArray, List.getElem_cons_zero, List.getElem_cons_succ, List.setIfInBounds_toArray, List.set_cons_zero, List.set_cons_succ]
          refine wpAnyH_take (i := 9) (v := undef) rfl (by kernel_rfl) (by kernel_rfl) (by kernel_rfl) (fun _ _ _ h => h) (Or.inr ⟨by rfl, rfl⟩) (by assumption) ?_
          try simp only [Act.put, List.getElem_toArray, List.getElem_cons_zero, List.getElem_cons_succ, List.setIfInBounds_toArray, List.set_cons_zero, List.set_cons_succ]
          refine wpAnyH_take (i := 10) (v := undef) rfl (by kernel_rfl) (by kernel_rfl) (by kernel_rfl) (fun _ _ _ h => h) (Or.inr ⟨by rfl, rfl⟩) (by assumption) ?_
          try simp only [Act.put, List.getElem_toArray, List.getElem_cons_zero, List.getElem_cons_succ, List.setIfInBounds_toArray, List.set_cons_zero, List.set_cons_succ]
          refine wpAnyH_take (i := 11) (v := undef) rfl (by kernel_rfl) (by kernel_rfl) (by kernel_rfl) (fun _ _ _ h => h) (Or.inr ⟨by rfl, rfl⟩) (by assumption) ?_
          try simp only [Act.put, List.getElem_toArray, List.getElem_cons_zero, List.getElem_cons_succ, List.setIfInBounds_toArray, List.set_cons_zero, List.set_cons_succ]
          refine wpAnyH_take (i := 12) (v := undef) rfl (by kernel_rfl) (by kernel_rfl) (by kernel_rfl) (fun _ _ _ h => h) (Or.inr ⟨by rfl, rfl⟩) (by assumption) ?_
          try simp only [Act.put, List.getElem_toArray, List.getElem_cons_zero, List.getElem_cons_succ, List.setIfInBounds_toArray, List.set_cons_zero, List.set_cons_succ]
          refine wpAnyH_take (i := 13) (v := undef) rfl (by kernel_rfl) (by kernel_rfl) (by kernel_rfl) (fun _ _ _ h => h) (Or.inr ⟨by rfl, rfl⟩) (by assumption) ?_
          try simp only [Act.put, List.getElem_toArray, List.getElem_cons_zero, List.getElem_cons_succ, List.setIfInBounds_toArray, List.set_cons_zero, List.set_cons_succ]
          refine wpAnyH_take (i := 14) (v := undef) rfl (by kernel_rfl) (by kernel_rfl) (by kernel_rfl) (fun _ _ _ h => h) (Or.inr ⟨by rfl, rfl⟩) (by assumption) ?_
          try simp only [Act.put, List.getElem_toArray, List.getElem_cons_zero, List.getElem_cons_succ, List.setIfInBounds_toArray, List.set_cons_zero, List.set_cons_succ]
          refine wpAnyH_take (i := 15) (v := undef) rfl (by kernel_rfl) (by kernel_rfl) (by kernel_rfl) (fun _ _ _ h => h) (Or.inr ⟨by rfl, rfl⟩) (by assumption) ?_
          try simp only [Act.put, List.getElem_toArray, List.getElem_cons_zero, List.getElem_cons_succ, List.setIfInBounds_toArray, List.set_cons_zero, List.set_cons_succ]
          refine wpAnyH_take (i := 16) (v := undef) rfl (by kernel_rfl) (by kernel_rfl) (by kernel_rfl) (fun _ _ _ h => h) (Or.inr ⟨by rfl, rfl⟩) (by assumption) ?_
          try simp only [Act.put, List.getElem_toArray, List.getElem_cons_zero, List.getElem_cons_succ, List.setIfInBounds_toArray, List.set_cons_zero, List.set_cons_succ]
          refine wpAnyH_take (i := 17) (v := undef) rfl (by kernel_rfl) (by kernel_rfl) (by kernel_rfl) (fun _ _ _ h => h) (Or.inr ⟨by rfl, rfl⟩) (by assumption) ?_
          try simp only [Act.put, List.getElem_toArray, List.getElem_cons_zero, List.getElem_cons_succ, List.setIfInBounds_toArray, List.set_cons_zero, List.set_cons_succ]
          refine wpAnyH_take (i := 18) (v := undef) rfl (by kernel_rfl) (by kernel_rfl) (by kernel_rfl) (fun _ _ _ h => h) (Or.inr ⟨by rfl, rfl⟩) (by assumption) ?_
          try simp only [Act.put, List.getElem_toArray, List.getElem_cons_zero, List.getElem_cons_succ, List.setIfInBounds_toArray, List.set_cons_zero, List.set_cons_succ]
          refine wpAnyH_take (i := 19) (v := ?_) rfl (by kernel_rfl) (by kernel_rfl) (by kernel_rfl) (fun _ _ _ h => h) (Or.inl ⟨by rfl, ?_⟩) (by assumption) ?_
          rotate_left
          · (intro w hSw; go_simp; try (with_reducible rfl))
          try simp only [Act.put, List.getElem_toArray, List.getElem_cons_zero, List.getElem_cons_succ, List.setIfInBounds_toArray, List.set_cons_zero, List.set_cons_succ]
          refine wpAnyH_done (by kernel_rfl) ?_ _
          refine NoPanic.normal ?_
          go_wp2_with fail
          go_roundw
          case rel => exact ⟨k + 1, z, by omega, by go_num, rfl, Lib.hid hHeld2, HZ2, Lib.hid (by
            rw [HO2.out, HO.out]
            rcases HI.out with h | ⟨j, hj, h1, h2, h3⟩
            · exact .inl h
            · exact .inr ⟨j, hj, h1, by omega, h3⟩)⟩
          case measure => simp [intOf]; omega
        | true =>
          rcases HI.out with ⟨hz, ho⟩ | ⟨j, hj, hz, hjk, ho⟩
          · subst hz
            have HO : Hid (o2 = some en) := Lib.hid (by rw [HST.out, HBE.out, ho]; rfl)
            clear ho HI
            refine wp_region_noPanic ?_
            refine wp_region_held_drew (S := HeldR L w) (by kernel_rfl) hHeld.drew (fun hHeld2 => ?_)
            refine wpAnyH_take (i := 0) (v := ?_) rfl (by kernel_rfl) (by kernel_rfl) (by kernel_rfl) (fun _ _ _ h => h) (Or.inl ⟨by rfl, ?_⟩) (by assumption) ?_
            rotate_left
            · (intro w hSw; go_simp; try (with_reducible rfl))
            try simp only [Act.put, List.getElem_toArray, List.getElem_cons_zero, List.setIfInBounds_toArray, List.set_cons_zero, List.set_cons_succ]
            refine wpAnyH_take (i := 1) (v := ?_) rfl (by kernel_rfl) (by kernel_rfl) (by kernel_rfl) (fun _ _ _ h => h) (Or.inl ⟨by rfl, ?_⟩) (by assumption) ?_
            rotate_left
            · (intro w hSw; go_simp; try (with_reducible rfl))
            try simp only [Act.put, List.getElem_toArray, List.getElem_cons_zero, List.getElem_cons_succ, List.setIfInBounds_toArray, List.set_cons_zero, List.set_cons_succ]
            refine wpAnyH_take (i := 2) (v := ?_) rfl (by kernel_rfl) (by kernel_rfl) (by kernel_rfl) (fun _ _ _ h => h) (Or.inl ⟨by rfl, ?_⟩) (by assumption) ?_
            rotate_left
            · (intro w hSw; go_simp; try (with_reducible rfl))
            try simp only [Act.put, List.getElem_toArray, List.getElem_cons_zero, List.getElem_cons_succ, List.setIfInBounds_toArray, List.set_cons_zero, List.set_cons_succ]
            refine wpAnyH_take (i := 3) (v := ?_) rfl (by kernel_rfl) (by kernel_rfl) (by kernel_rfl) (fun _ _ _ h => h) (Or.inl ⟨by rfl, ?_⟩) (by assumption) ?_
            rotate_left
            · (intro w hSw; go_simp; try (with_reducible rfl))
            try simp only [Act.put, List.getElem_toArray, List.getElem_cons_zero, List.getElem_cons_succ, List.setIfInBounds_toArray, List.set_cons_zero, List.set_cons_succ]
            refine wpAnyH_take (i := 4) (v := ?_) rfl (by kernel_rfl) (by kernel_rfl) (by kernel_rfl) (fun _ _ _ h => h) (Or.inl ⟨by rfl, ?_⟩) (by assumption) ?_
            rotate_left
            · (intro w hSw; go_simp; try (with_reducible rfl))
            try simp only [Act.put, List.getElem_toArray, List.getElem_cons_zero, List.getElem_cons_succ, List.setIfInBounds_toArray, List.set_cons_zero, List.set_cons_succ]
            refine wpAnyH_take (i := 5) (v := undef) rfl (by kernel_rfl) (by kernel_rfl) (by kernel_rfl) (fun _ _ _ h => h) (Or.inr ⟨by rfl, rfl⟩) (by assumption) ?_
            try simp only [Act.put, List.getElem_toArray, List.getElem_cons_zero, List.getElem_cons_succ, List.setIfInBounds_toArray, List.set_cons_zero, List.set_cons_succ]
            refine wpAnyH_take (i := 6) (v := undef) rfl (by kernel_rfl) (by kernel_rfl) (by kernel_rfl) (fun _ _ _ h => h) (Or.inr ⟨by rfl, rfl⟩) (by assumption) ?_
            try simp only [Act.put, List.getElem_toArray, List.getElem_cons_zero, List.getElem_cons_succ, List.setIfInBounds_toArray, List.set_cons_zero, List.set_cons_succ]
            refine wpAnyH_take (i := 7) (v := undef) rfl (by kernel_rfl) (by kernel_rfl) (by kernel_rfl) (fun _ _ _ h => h) (Or.inr ⟨by rfl, rfl⟩) (by assumption) ?_
            try simp only [Act.put, List.getElem_toArray, List.getElem_cons_zero, List.getElem_cons_succ, List.setIfInBounds_toArray, List.set_cons_zero, List.set_cons_succ]
            refine wpAnyH_take (i := 8) (v := undef) rfl (by kernel_rfl) (by kernel_rfl) (by kernel_rfl) (fun _ _ _ h => h) (Or.inr ⟨by rfl, rfl⟩) (by assumption) ?_
            try simp only [Act.put, List.getElem_toArray, List.getElem_cons_zero, List.getElem_cons_succ, List.setIfInBounds_toArray, List.set_cons_zero, List.set_cons_succ]
            refine wpAnyH_take (i := 9) (v := undef) rfl (by kernel_rfl) (by kernel_rfl) (by kernel_rfl) (fun _ _ _ h => h) (Or.inr ⟨by rfl, rfl⟩) (by assumption) ?_
            try simp only [Act.put, List.getElem_toArray, List.getElem_cons_zero, List.getElem_cons_succ, List.setIfInBounds_toArray, List.set_cons_zero, List.set_cons_succ]
            refine wpAnyH_take (i := 10) (v := undef) rfl (by kernel_rfl) (by kernel_rfl) (by kernel_rfl) (fun _ _ _ h => h) (Or.inr ⟨by rfl, rfl⟩) (by assumption) ?_
            try simp only [Act.put, List.getElem_toArray, List.getElem_cons_zero, List.getElem_cons_succ, List.setIfInBounds_toArray, List.set_cons_zero, List.set_cons_succ]
            refine wpAnyH_take (i := 11) (v := undef) rfl (by kernel_rfl) (by kernel_rfl) (by kernel_rfl) (fun _ _ _ h => h) (Or.inr ⟨by rfl, rfl⟩) (by assumption) ?_
            try simp only [Act.put, List.getElem_toArray, List.getElem_cons_zero, List.getElem_cons_succ, List.setIfInBounds_toArray, List.set_cons_zero, List.set_cons_succ]
            refine wpAnyH_take (i := 12) (v := undef) rfl (by kernel_rfl) (by kernel_rfl) (by kernel_rfl) (fun _ _ _ h => h) (Or.inr ⟨by rfl, rfl⟩) (by assumption) ?_
            try simp only [Act.put, List.getElem_toArray, List.getElem_cons_zero, List.getElem_cons_succ, List.setIfInBounds_toArray, List.set_cons_zero, List.set_cons_succ]
            refine wpAnyH_take (i := 13) (v := undef) rfl (by kernel_rfl) (by kernel_rfl) (by kernel_rfl) (fun _ _ _ h => h) (Or.inr ⟨by rfl, rfl⟩) (by assumption) ?_
            try simp only [Act.put, List.getElem_toArray, List.getElem_cons_zero, List.getElem_cons_succ, List.setIfInBounds_toArray, List.set_cons_zero, List.set_cons_succ]
            refine wpAnyH_take (i := 14) (v := undef) rfl (by kernel_rfl) (by kernel_rfl) (by kernel_rfl) (fun _ _ _ h => h) (Or.inr ⟨by rfl, rfl⟩) (by assumption) ?_
            try simp only [Act.put, List.getElem_toArray, List.getElem_cons_zero, List.getElem_cons_succ, List.setIfInBounds_toArray, List.set_cons_zero, List.set_cons_succ]
            refine wpAnyH_take (i := 15) (v := undef) rfl (by kernel_rfl) (by kernel_rfl) (by kernel_rfl) (fun _ _ _ h => h) (Or.inr ⟨by rfl, rfl⟩) (by assumption) ?_
            try simp only [Act.put, List.getElem_toArray, List.getElem_cons_zero, List.getElem_cons_succ, List.setIfInBounds_toArray, List.set_cons_zero, List.set_cons_succ]
            refine wpAnyH_take (i := 16) (v := undef) rfl (by kernel_rfl) (by kernel_rfl) (by kernel_rfl) (fun _ _ _ h => h) (Or.inr ⟨by rfl, rfl⟩) (by assumption) ?_
            try simp only [Act.put, List.getElem_toArray, List.getElem_cons_zero, List.getElem_cons_succ, List.setIfInBounds_toArray, List.set_cons_zero, List.set_cons_succ]
            refine wpAnyH_take (i := 17) (v := undef) rfl (by kernel_rfl) (by kernel_rfl) (by kernel_rfl) (fun _ _ _ h => h) (Or.inr ⟨by rfl, rfl⟩) (by assumption) ?_
            try simp only [Act.put, List.getElem_toArray, List.getElem_cons_zero, List.getElem_cons_succ, List.setIfInBounds_toArray, List.set_cons_zero, List.set_cons_succ]
            refine wpAnyH_take (i := 18) (v := ?_) rfl (by kernel_rfl) (by kernel_rfl) (by kernel_rfl) (fun _ _ _ h => h) (Or.inl ⟨by rfl, ?_⟩) (by assumption) ?_
            rotate_left
            · (intro w hSw; go_simp; try (with_reducible rfl))
            try simp only [Act.put, List.getElem_toArray, List.getElem_cons_zero, List.getElem_cons_succ, List.setIfInBounds_toArray, List.set_cons_zero, List.set_cons_succ]
            refine wpAnyH_take (i := 19) (v := ?_) rfl (by kernel_rfl) (by kernel_rfl) (by kernel_rfl) (fun _ _ _ h => h) (Or.inl ⟨by rfl, ?_⟩) (by assumption) ?_
            rotate_left
            · (intro w hSw; go_simp; try (with_reducible rfl))
            try simp only [Act.put, List.getElem_toArray, List.getElem_cons_zero, List.getElem_cons_succ, List.setIfInBounds_toArray, List.set_cons_zero, List.set_cons_succ]
            refine wpAnyH_done (by kernel_rfl) ?_ _
            refine NoPanic.normal ?_
            go_wp2_with fail
            go_roundw
            case rel => exact ⟨k + 1, (k : Int), by omega, by go_num, rfl, Lib.hid hHeld2, HZ2, Lib.hid (by rw [HO2.out, HO.out]; exact .inr ⟨k, hkl, rfl, by omega, by rw [HEK.out]⟩)⟩
            case measure => simp [intOf]; omega
          · subst hz
            obtain ⟨ej, hej⟩ : ∃ ej, es[j] = ej := ⟨_, rfl⟩
            have hgj : ej.b.length = 16 := by rw [← hej]; exact (HAG.out _ (List.getElem_mem hj)).1.len
            have Cj := Lib.hid (show CellR L w g (j * 19 + 17) (.int .i64 (ej.n : Int)) from fun w' h => by have := cell_bits (range_ent (HME.out w' h) HAG.out j hj) (by rw [hej]; exact hgj); rw [hej] at this; exact this)
            have hji : (j : Int) < (es.length : Int) := by omega
            have hj0 : decide ((j : Int) < 0) = false := by simp
            have HEJ := Lib.hid hej
            have HOJ : Hid (o = some ej) := Lib.hid (by rw [ho, hej])
            clear ho HI hej hgj
            by_cases hlt : ej.n < en.n
            · have hd3 : decide ((ej.n : Int) < (en.n : Int)) = true := by simp; omega
              have hd3n : decide (ej.n < en.n) = true := by simp; omega
              have HO : Hid (o2 = some en) := Lib.hid (by rw [HST.out, HBE.out, HOJ.out]; simp [hlt])
              refine wp_region_noPanic ?_
              refine wp_region_held_drew (S := HeldR L w) (by kernel_rfl) hHeld.drew (fun hHeld2 => ?_)
              refine wpAnyH_take (i := 0) (v := ?_) rfl (by kernel_rfl) (by kernel_rfl) (by kernel_rfl) (fun _ _ _ h => h) (Or.inl ⟨by rfl, ?_⟩) (by assumption) ?_
              rotate_left
              · (intro w hSw; go_simp; try (with_reducible rfl))
              try simp only [Act.put, List.getElem_toArray, List.getElem_cons_zero, List.setIfInBounds_toArray, List.set_cons_zero, List.set_cons_succ]
              refine wpAnyH_take (i := 1) (v := ?_) rfl (by kernel_rfl) (by kernel_rfl) (by kernel_rfl) (fun _ _ _ h => h) (Or.inl ⟨by rfl, ?_⟩) (by assumption) ?_
              rotate_left
              · (intro w hSw; go_simp; try (with_reducible rfl))
              try simp only [Act.put, List.getElem_toArray, List.getElem_cons_zero, List.getElem_cons_succ, List.setIfInBounds_toArray, List.set_cons_zero, List.set_cons_succ]
              refine wpAnyH_take (i := 2) (v := ?_) rfl (by kernel_rfl) (by kernel_rfl) (by kernel_rfl) (fun _ _ _ h => h) (Or.inl ⟨by rfl, ?_⟩) (by assumption) ?_
              rotate_left
              · (intro w hSw; go_simp; try (with_reducible rfl))
              try simp only [Act.put, List.getElem_toArray, List.getElem_cons_zero, List.getElem_cons_succ, List.setIfInBounds_toArray, List.set_cons_zero, List.set_cons_succ]
              refine wpAnyH_take (i := 3) (v := ?_) rfl (by kernel_rfl) (by kernel_rfl) (by kernel_rfl) (fun _ _ _ h => h) (Or.inl ⟨by rfl, ?_⟩) (by assumption) ?_
              rotate_left
              · (intro w hSw; go_simp; try (with_reducible rfl))
              try simp only [Act.put, List.getElem_toArray, List.getElem_cons_zero, List.getElem_cons_succ, List.setIfInBounds_toArray, List.set_cons_zero, List.set_cons_succ]
              refine wpAnyH_take (i := 4) (v := ?_) rfl (by kernel_rfl) (by kernel_rfl) (by kernel_rfl) (fun _ _ _ h => h) (Or.inl ⟨by rfl, ?_⟩) (by assumption) ?_
              rotate_left
              · (intro w hSw; go_simp; try (with_reducible rfl))
              try simp only [Act.put, List.getElem_toArray, List.getElem_cons_zero, List.getElem_cons_succ, List.setIfInBounds_toArray, List.set_cons_zero, List.set_cons_succ]
              refine wpAnyH_take (i := 5) (v := ?_) rfl (by kernel_rfl) (by kernel_rfl) (by kernel_rfl) (fun _ _ _ h => h) (Or.inl ⟨by rfl, ?_⟩) (by assumption) ?_
              rotate_left
              · (intro w hSw; go_simp; try (with_reducible rfl))
              try simp only [Act.put, List.getElem_toArray, List.getElem_cons_zero, List.getElem_cons_succ, List.setIfInBounds_toArray, List.set_cons_zero, List.set_cons_succ]
              refine wpAnyH_take (i := 6) (v := ?_) rfl (by kernel_rfl) (by kernel_rfl) (by kernel_rfl) (fun _ _ _ h => h) (Or.inl ⟨by rfl, ?_⟩) (by assumption) ?_
              rotate_left
              · (intro w hSw; go_simp; try (with_reducible rfl))
              try simp only [Act.put, List.getElem_toArray, List.getElem_cons_zero, List.getElem_cons_succ, List.setIfInBounds_toArray, List.set_cons_zero, List.set_cons_succ]
              refine wpAnyH_take (i := 7) (v := ?_) rfl (by kernel_rfl) (by kernel_rfl) (by kernel_rfl) (fun _ _ _ h => h) (Or.inl ⟨by rfl, ?_⟩) (by assumption) ?_
              rotate_left
              · (intro w hSw; go_simp; try (with_reducible rfl))
              try simp only [Act.put, List.getElem_toArray, List.getElem_cons_zero, List.getElem_cons_succ, List.setIfInBounds_toArray, List.set_cons_zero, List.set_cons_succ]
              refine wpAnyH_take (i := 8) (v := ?_) rfl (by kernel_rfl) (by kernel_rfl) (by kernel_rfl) (fun _ _ _ h => h) (Or.inl ⟨by rfl, ?_⟩) (by assumption) ?_
              rotate_left
              · (intro w hSw; go_simp; try (with_reducible rfl))
              try simp only [Act.put, List.getElem_toArray, List.getElem_cons_zero, List.getElem_cons_succ, List.setIfInBounds_toArray, List.set_cons_zero, List.set_cons_succ]
              refine wpAnyH_take (i := 9) (v := ?_) rfl (by kernel_rfl) (by kernel_rfl) (by kernel_rfl) (fun _ _ _ h => h) (Or.inl ⟨by rfl, ?_⟩) (by assumption) ?_
              rotate_left
              · (intro w hSw; go_simp; try (with_reducible rfl))
              try simp only [Act.put, List.getElem_toArray, List.getElem_cons_zero, List.getElem_cons_succ, List.setIfInBounds_toArray, List.set_cons_zero, List.set_cons_succ]
              refine wpAnyH_take (i := 10) (v := ?_) rfl (by kernel_rfl) (by kernel_rfl) (by kernel_rfl) (fun _ _ _ h => h) (Or.inl ⟨by rfl, ?_⟩) (by assumption) ?_
              rotate_left
              · (intro w hSw; have hc0 := Ck.out w hSw; go_simp; try (with_reducible rfl))
              try simp only [Act.put, List.getElem_toArray, List.getElem_cons_zero, List.getElem_cons_succ, List.setIfInBounds_toArray, List.set_cons_zero, List.set_cons_succ]
              refine wpAnyH_take (i := 11) (v := ?_) rfl (by kernel_rfl) (by kernel_rfl) (by kernel_rfl) (fun _ _ _ h => h) (Or.inl ⟨by rfl, ?_⟩) (by assumption) ?_
              rotate_left
              · (intro w hSw; go_simp; try (with_reducible rfl))
              try simp only [Act.put, List.getElem_toArray, List.getElem_cons_zero, List.getElem_cons_succ, List.setIfInBounds_toArray, List.set_cons_zero, List.set_cons_succ]
              refine wpAnyH_take (i := 12) (v := ?_) rfl (by kernel_rfl) (by kernel_rfl) (by kernel_rfl) (fun _ _ _ h => h) (Or.inl ⟨by rfl, ?_⟩) (by assumption) ?_
              rotate_left
              · (intro w hSw; go_simp; try (with_reducible rfl))
              try simp only [Act.put, List.getElem_toArray, List.getElem_cons_zero, List.getElem_cons_succ, List.setIfInBounds_toArray, List.set_cons_zero, List.set_cons_succ]
              refine wpAnyH_take (i := 13) (v := ?_) rfl (by kernel_rfl) (by kernel_rfl) (by kernel_rfl) (fun _ _ _ h => h) (Or.inl ⟨by rfl, ?_⟩) (by assumption) ?_
              rotate_left
              · (intro w hSw; go_simp; try (with_reducible rfl))
              try simp only [Act.put, List.getElem_toArray, List.getElem_cons_zero, List.getElem_cons_succ, List.setIfInBounds_toArray, List.set_cons_zero, List.set_cons_succ]
              refine wpAnyH_take (i := 14) (v := ?_) rfl (by kernel_rfl) (by kernel_rfl) (by kernel_rfl) (fun _ _ _ h => h) (Or.inl ⟨by rfl, ?_⟩) (by assumption) ?_
              rotate_left
              · (intro w hSw; go_simp; try (with_reducible rfl))
              try simp only [Act.put, List.getElem_toArray, List.getElem_cons_zero, List.getElem_cons_succ, List.setIfInBounds_toArray, List.set_cons_zero, List.set_cons_succ]
              refine wpAnyH_take (i := 15) (v := ?_) rfl (by kernel_rfl) (by kernel_rfl) (by kernel_rfl) (fun _ _ _ h => h) (Or.inl ⟨by rfl, ?_⟩) (by assumption) ?_
              rotate_left
              · (intro w hSw; go_simp; try (with_reducible rfl))
              try simp only [Act.put, List.getElem_toArray, List.getElem_cons_zero, List.getElem_cons_succ, List.setIfInBounds_toArray, List.set_cons_zero, List.set_cons_succ]
              refine wpAnyH_take (i := 16) (v := ?_) rfl (by kernel_rfl) (by kernel_rfl) (by kernel_rfl) (fun _ _ _ h => h) (Or.inl ⟨by rfl, ?_⟩) (by assumption) ?_
              rotate_left
              · (intro w hSw; have hc0 := Cj.out w hSw; go_simp; try (with_reducible rfl))
              try simp only [Act.put, List.getElem_toArray, List.getElem_cons_zero, List.getElem_cons_succ, List.setIfInBounds_toArray, List.set_cons_zero, List.set_cons_succ]
              refine wpAnyH_take (i := 17) (v := ?_) rfl (by kernel_rfl) (by kernel_rfl) (by kernel_rfl) (fun _ _ _ h => h) (Or.inl ⟨by rfl, ?_⟩) (by assumption) ?_
              rotate_left
              · (intro w hSw; go_simp; try (with_reducible rfl))
              try simp only [Act.put, List.getElem_toArray, List.getElem_cons_zero, List.getElem_cons_succ, List.setIfInBounds_toArray, List.set_cons_zero, List.set_cons_succ]
              refine wpAnyH_take (i := 18) (v := ?_) rfl (by kernel_rfl) (by kernel_rfl) (by kernel_rfl) (fun _ _ _ h => h) (Or.inl ⟨by rfl, ?_⟩) (by assumption) ?_
              rotate_left
              · (intro w hSw; go_simp; try (with_reducible rfl))
              try simp only [Act.put, List.getElem_toArray, List.getElem_cons_zero, List.getElem_cons_succ, List.setIfInBounds_toArray, List.set_cons_zero, List.set_cons_succ]
              refine wpAnyH_take (i := 19) (v := ?_) rfl (by kernel_rfl) (by kernel_rfl) (by kernel_rfl) (fun _ _ _ h => h) (Or.inl ⟨by rfl, ?_⟩) (by assumption) ?_
              rotate_left
              · (intro w hSw; go_simp; try (with_reducible rfl))
              try simp only [Act.put, List.getElem_toArray, List.getElem_cons_zero, List.getElem_cons_succ, List.setIfInBounds_toArray, List.set_cons_zero, List.set_cons_succ]
              refine wpAnyH_done (by kernel_rfl) ?_ _
              refine NoPanic.normal ?_
              go_wp2_with fail
              go_roundw
              case rel => exact ⟨k + 1, (k : Int), by omega, by go_num, rfl, Lib.hid hHeld2, HZ2, Lib.hid (by rw [HO2.out, HO.out]; exact .inr ⟨k, hkl, rfl, by omega, by rw [HEK.out]⟩)⟩
              case measure => simp [intOf]; omega
            · have hd3 : decide ((ej.n : Int) < (en.n : Int)) = false := by simp; omega
              have hd3n : decide (ej.n < en.n) = false := by simp; omega
              have HO : Hid (o2 = some ej) := Lib.hid (by rw [HST.out, HBE.out, HOJ.out]; simp [hlt])
              refine wp_region_noPanic ?_
              refine wp_region_held_drew (S := HeldR L w) (by kernel_rfl) hHeld.drew (fun hHeld2 => ?_)
              refine wpAnyH_take (i := 0) (v := ?_) rfl (by kernel_rfl) (by kernel_rfl) (by kernel_rfl) (fun _ _ _ h => h) (Or.inl ⟨by rfl, ?_⟩) (by assumption) ?_
              rotate_left
              · (intro w hSw; go_simp; try (with_reducible rfl))
              try simp only [Act.put, List.getElem_toArray, List.getElem_cons_zero, List.setIfInBounds_toArray, List.set_cons_zero, List.set_cons_succ]
              refine wpAnyH_take (i := 1) (v := ?_) rfl (by kernel_rfl) (by kernel_rfl) (by kernel_rfl) (fun _ _ _ h => h) (Or.inl ⟨by rfl, ?_⟩) (by assumption) ?_
              rotate_left
              · (intro w hSw; go_simp; try (with_reducible rfl))
              try simp only [Act.put, List.getElem_toArray, List.getElem_cons_zero, List.getElem_cons_succ, List.setIfInBounds_toArray, List.set_cons_zero, List.set_cons_succ]
              refine wpAnyH_take (i := 2) (v := ?_) rfl (by kernel_rfl) (by kernel_rfl) (by kernel_rfl) (fun _ _ _ h => h) (Or.inl ⟨by rfl, ?_⟩) (by assumption) ?_
              rotate_left
              · (intro w hSw; go_simp; try (with_reducible rfl))
              try simp only [Act.put, List.getElem_toArray, List.getElem_cons_zero, List.getElem_cons_succ, List.setIfInBounds_toArray, List.set_cons_zero, List.set_cons_succ]
              refine wpAnyH_take (i := 3) (v := ?_) rfl (by kernel_rfl) (by kernel_rfl) (by kernel_rfl) (fun _ _ _ h => h) (Or.inl ⟨by rfl, ?_⟩) (by assumption) ?_
              rotate_left
              · (intro w hSw; go_simp; try (with_reducible rfl))
              try simp only [Act.put, List.getElem_toArray, List.getElem_cons_zero, List.getElem_cons_succ, List.setIfInBounds_toArray, List.set_cons_zero, List.set_cons_succ]
              refine wpAnyH_take (i := 4) (v := ?_) rfl (by kernel_rfl) (by kernel_rfl) (by kernel_rfl) (fun _ _ _ h => h) (Or.inl ⟨by rfl, ?_⟩) (by assumption) ?_
              rotate_left
              · (intro w hSw; go_simp; try (with_reducible rfl))
              try simp only [Act.put, List.getElem_toArray, List.getElem_cons_zero, List.getElem_cons_succ, List.setIfInBounds_toArray, List.set_cons_zero, List.set_cons_succ]
              refine wpAnyH_take (i := 5) (v := ?_) rfl (by kernel_rfl) (by kernel_rfl) (by kernel_rfl) (fun _ _ _ h => h) (Or.inl ⟨by rfl, ?_⟩) (by assumption) ?_
              rotate_left
              · (intro w hSw; go_simp; try (with_reducible rfl))
              try simp only [Act.put, List.getElem_toArray, List.getElem_cons_zero, List.getElem_cons_succ, List.setIfInBounds_toArray, List.set_cons_zero, List.set_cons_succ]
              refine wpAnyH_take (i := 6) (v := ?_) rfl (by kernel_rfl) (by kernel_rfl) (by kernel_rfl) (fun _ _ _ h => h) (Or.inl ⟨by rfl, ?_⟩) (by assumption) ?_
              rotate_left
              · (intro w hSw; go_simp; try (with_reducible rfl))
              try simp only [Act.put, List.getElem_toArray, List.getElem_cons_zero, List.getElem_cons_succ, List.setIfInBounds_toArray, List.set_cons_zero, List.set_cons_succ]
              refine wpAnyH_take (i := 7) (v := ?_) rfl (by kernel_rfl) (by kernel_rfl) (by kernel_rfl) (fun _ _ _ h => h) (Or.inl ⟨by rfl, ?_⟩) (by assumption) ?_
              rotate_left
              · (intro w hSw; go_simp; try (with_reducible rfl))
              try simp only [Act.put, List.getElem_toArray, List.getElem_cons_zero, List.getElem_cons_succ, List.setIfInBounds_toArray, List.set_cons_zero, List.set_cons_succ]
              refine wpAnyH_take (i := 8) (v := ?_) rfl (by kernel_rfl) (by kernel_rfl) (by kernel_rfl) (fun _ _ _ h => h) (Or.inl ⟨by rfl, ?_⟩) (by assumption) ?_
              rotate_left
              · (intro w hSw; go_simp; try (with_reducible rfl))
              try simp only [Act.put, List.getElem_toArray, List.getElem_cons_zero, List.getElem_cons_succ, List.setIfInBounds_toArray, List.set_cons_zero, List.set_cons_succ]
              refine wpAnyH_take (i := 9) (v := ?_) rfl (by kernel_rfl) (by kernel_rfl) (by kernel_rfl) (fun _ _ _ h => h) (Or.inl ⟨by rfl, ?_⟩) (by assumption) ?_
              rotate_left
              · (intro w hSw; go_simp; try (with_reducible rfl))
              try simp only [Act.put, List.getElem_toArray, List.getElem_cons_zero, List.getElem_cons_succ, List.setIfInBounds_toArray, List.set_cons_zero, List.set_cons_succ]
              refine wpAnyH_take (i := 10) (v := ?_) rfl (by kernel_rfl) (by kernel_rfl) (by kernel_rfl) (fun _ _ _ h => h) (Or.inl ⟨by rfl, ?_⟩) (by assumption) ?_
              rotate_left
              · (intro w hSw; have hc0 := Ck.out w hSw; go_simp; try (with_reducible rfl))
              try simp only [Act.put, List.getElem_toArray, List.getElem_cons_zero, List.getElem_cons_succ, List.setIfInBounds_toArray, List.set_cons_zero, List.set_cons_succ]
              refine wpAnyH_take (i := 11) (v := ?_) rfl (by kernel_rfl) (by kernel_rfl) (by kernel_rfl) (fun _ _ _ h => h) (Or.inl ⟨by rfl, ?_⟩) (by assumption) ?_
              rotate_left
              · (intro w hSw; go_simp; try (with_reducible rfl))
              try simp only [Act.put, List.getElem_toArray, List.getElem_cons_zero, List.getElem_cons_succ, List.setIfInBounds_toArray, List.set_cons_zero, List.set_cons_succ]
              refine wpAnyH_take (i := 12) (v := ?_) rfl (by kernel_rfl) (by kernel_rfl) (by kernel_rfl) (fun _ _ _ h => h) (Or.inl ⟨by rfl, ?_⟩) (by assumption) ?_
              rotate_left
              · (intro w hSw; go_simp; try (with_reducible rfl))
              try simp only [Act.put, List.getElem_toArray, List.getElem_cons_zero, List.getElem_cons_succ, List.setIfInBounds_toArray, List.set_cons_zero, List.set_cons_succ]
              refine wpAnyH_take (i := 13) (v := ?_) rfl (by kernel_rfl) (by kernel_rfl) (by kernel_rfl) (fun _ _ _ h => h) (Or.inl ⟨by rfl, ?_⟩) (by assumption) ?_
              rotate_left
              · (intro w hSw; go_simp; try (with_reducible rfl))
              try simp only [Act.put, List.getElem_toArray, List.getElem_cons_zero, List.getElem_cons_succ, List.setIfInBounds_toArray, List.set_cons_zero, List.set_cons_succ]
              refine wpAnyH_take (i := 14) (v := ?_) rfl (by kernel_rfl) (by kernel_rfl) (by kernel_rfl) (fun _ _ _ h => h) (Or.inl ⟨by rfl, ?_⟩) (by assumption) ?_
              rotate_left
              · (intro w hSw; go_simp; try (with_reducible rfl))
              try simp only [Act.put, List.getElem_toArray, List.getElem_cons_zero, List.getElem_cons_succ, List.setIfInBounds_toArray, List.set_cons_zero, List.set_cons_succ]
              refine wpAnyH_take (i := 15) (v := ?_) rfl (by kernel_rfl) (by kernel_rfl) (by kernel_rfl) (fun _ _ _ h => h) (Or.inl ⟨by rfl, ?_⟩) (by assumption) ?_
              rotate_left
              · (intro w hSw; go_simp; try (with_reducible rfl))
              try simp only [Act.put, List.getElem_toArray, List.getElem_cons_zero, List.getElem_cons_succ, List.setIfInBounds_toArray, List.set_cons_zero, List.set_cons_succ]
              refine wpAnyH_take (i := 16) (v := ?_) rfl (by kernel_rfl) (by kernel_rfl) (by kernel_rfl) (fun _ _ _ h => h) (Or.inl ⟨by rfl, ?_⟩) (by assumption) ?_
              rotate_left
              · (intro w hSw; have hc0 := Cj.out w hSw; go_simp; try (with_reducible rfl))
              try simp only [Act.put, List.getElem_toArray, List.getElem_cons_zero, List.getElem_cons_succ, List.setIfInBounds_toArray, List.set_cons_zero, List.set_cons_succ]
              refine wpAnyH_take (i := 17) (v := ?_) rfl (by kernel_rfl) (by kernel_rfl) (by kernel_rfl) (fun _ _ _ h => h) (Or.inl ⟨by rfl, ?_⟩) (by assumption) ?_
              rotate_left
              · (intro w hSw; go_simp; try (with_reducible rfl))
              try simp only [Act.put, List.getElem_toArray, List.getElem_cons_zero, List.getElem_cons_succ, List.setIfInBounds_toArray, List.set_cons_zero, List.set_cons_succ]
              refine wpAnyH_take (i := 18) (v := ?_) rfl (by kernel_rfl) (by kernel_rfl) (by kernel_rfl) (fun _ _ _ h => h) (Or.inl ⟨by rfl, ?_⟩) (by assumption) ?_
              rotate_left
              · (intro w hSw; go_simp; try (with_reducible rfl))
              try simp only [Act.put, List.getElem_toArray, List.getElem_cons_zero, List.getElem_cons_succ, List.setIfInBounds_toArray, List.set_cons_zero, List.set_cons_succ]
              refine wpAnyH_take (i := 19) (v := ?_) rfl (by kernel_rfl) (by kernel_rfl) (by kernel_rfl) (fun _ _ _ h => h) (Or.inl ⟨by rfl, ?_⟩) (by assumption) ?_
              rotate_left
              · (intro w hSw; go_simp; try (with_reducible rfl))
              try simp only [Act.put, List.getElem_toArray, List.getElem_cons_zero, List.getElem_cons_succ, List.setIfInBounds_toArray, List.set_cons_zero, List.set_cons_succ]
              refine wpAnyH_done (by kernel_rfl) ?_ _
              refine NoPanic.normal ?_
              go_wp2_with fail
              go_roundw
              case rel => exact ⟨k + 1, (j : Int), by omega, by go_num, rfl, Lib.hid hHeld2, HZ2, Lib.hid (by rw [HO2.out, HO.out]; exact .inr ⟨j, hj, rfl, by omega, by rw [HEJ.out]⟩)⟩
              case measure => simp [intOf]; omega
      · obtain rfl : k = es.length := by omega
        have hd : decide ((es.length : Int) < (es.length : Int)) = false := by simp
        rw [HRE.out] at HI
        rcases HI.out with ⟨hz, ho⟩ | ⟨j, hj, hz, hjk, ho⟩
        · subst hz
          have HN := Lib.hid ho
          clear ho HI
          go_wp2_with (first | refine build_ent0 rfl rfl ?_ | refine store_ent HZ2 _ _ HLZ rfl rfl rfl rfl (fun W HW HP => ?_))
          refine bodyPost_ret (results_ent2 Tryz.results19 rfl HP.out) rfl ⟨by rw [HN.out]; rfl, by rw [HW.out]; exact below_cells (by omega) _ _ _ HS.out.bel⟩
        · subst hz
          obtain ⟨ej, hej⟩ : ∃ ej, es[j] = ej := ⟨_, rfl⟩
          have HLJ : Hid (ej.b.length = 16) := Lib.hid (by rw [← hej]; exact (HAG.out _ (List.getElem_mem hj)).1.len)
          have HRJ : Hid (wr.rangeAt g (j * 19) (entL ej.f ej.b (ej.n : Int) ej.v)) := Lib.hid (by have := range_ent (HME.out _ HS.out) HAG.out j hj; rw [hej] at this; exact this)
          have HN : Hid (R = some ej) := Lib.hid (by rw [ho, hej])
          have hji : (j : Int) < (es.length : Int) := by omega
          have hj0 : decide ((j : Int) < 0) = false := by simp
          clear ho HI hej
          go_wp2_with (first | refine load_ent_o HLJ HRJ _ rfl rfl rfl ?_ | refine store_ent HZ2 _ _ HLJ rfl rfl rfl rfl (fun W HW HP => ?_))
          refine bodyPost_ret (results_ent2 Tryz.results19 rfl HP.out) rfl ⟨by rw [HN.out]; rfl, by rw [HW.out]; exact below_cells (by omega) _ _ _ HS.out.bel⟩
end Go.Proofs.YtgbajagacmfcmaaGreatDoor
/- Contract of the reference's Get of layer 6. -/
namespace Go.Proofs.YtgbajagacmfcmaaGreatDoor
open Go.RowKit
set_option linter.unusedVariables false
set_option maxRecDepth 20000

/-- The value of a prefix. -/
def getE (es : List Ent) (f : Int) (bs : List Nat) (n : Int) : Option Int := (es.find? (isEnt f bs n)).map Ent.v
def getRet (o : Option Int) : Value := .tuple #[.int .i64 (o.getD 0), .bool o.isSome]
end Go.Proofs.YtgbajagacmfcmaaGreatDoor
/- Plain facts on what is found in a row of entries, and on rows that are set. -/
namespace Go.Proofs.YtgbajagacmfcmaaGreatDoor
open Go.RowKit
set_option linter.unusedVariables false
set_option maxRecDepth 20000

/-- The best one of those that have come. -/
def Best (g : Int) (us : List Nat) (o : Option Ent) (l : List Ent) : Prop :=
  (o = none → ∀ e ∈ l, hasB e.f e.b e.n g us = false) ∧ (∀ b, o = some b → b ∈ l ∧ hasB b.f b.b b.n g us = true ∧ ∀ e ∈ l, hasB e.f e.b e.n g us = true → e.n ≤ b.n)
theorem best_step {g : Int} {us : List Nat} {o : Option Ent} {l : List Ent} (h : Best g us o l) (e : Ent) : Best g us (betterE g us o e) (l ++ [e]) := by
  unfold betterE
  cases hb : hasB e.f e.b e.n g us with
  | false =>
    rw [if_neg (by decide)]
    refine ⟨fun ho x hx => ?_, fun b hbo => ?_⟩
    · rcases List.mem_append.1 hx with hx | hx
      · exact h.1 ho x hx
      · rw [List.mem_singleton.1 hx]; exact hb
    · obtain ⟨h1, h2, h3⟩ := h.2 b hbo
      refine ⟨List.mem_append_left _ h1, h2, fun x hx hh => ?_⟩
      rcases List.mem_append.1 hx with hx | hx
      · exact h3 x hx hh
      · rw [List.mem_singleton.1 hx, hb] at hh; cases hh
  | true =>
    rw [if_pos rfl]
    cases o with
    | none =>
      refine ⟨fun ho => (by cases ho), fun b hbo => ?_⟩
      obtain rfl : e = b := Option.some.inj hbo
      refine ⟨by simp, hb, fun x hx hh => ?_⟩
      rcases List.mem_append.1 hx with hx | hx
      · rw [h.1 rfl x hx] at hh; cases hh
      · rw [List.mem_singleton.1 hx]; exact Nat.le_refl _
    | some c =>
      obtain ⟨h1, h2, h3⟩ := h.2 c rfl
      show Best g us (if c.n < e.n then some e else some c) (l ++ [e])
      by_cases hc : c.n < e.n
      · rw [if_pos hc]
        refine ⟨fun ho => (by cases ho), fun b hbo => ?_⟩
        obtain rfl : e = b := Option.some.inj hbo
        refine ⟨by simp, hb, fun x hx hh => ?_⟩
        rcases List.mem_append.1 hx with hx | hx
        · have := h3 x hx hh; omega
        · rw [List.mem_singleton.1 hx]; exact Nat.le_refl _
      · rw [if_neg hc]
        refine ⟨fun ho => (by cases ho), fun b hbo => ?_⟩
        obtain rfl : c = b := Option.some.inj hbo
        refine ⟨List.mem_append_left _ h1, h2, fun x hx hh => ?_⟩
        rcases List.mem_append.1 hx with hx | hx
        · exact h3 x hx hh
        · rw [List.mem_singleton.1 hx]; omega
theorem best_fold {g : Int} {us : List Nat} : ∀ (l pre : List Ent) (o : Option Ent), Best g us o pre → Best g us (l.foldl (betterE g us) o) (pre ++ l)
  | [], pre, o, h => by rw [List.append_nil]; exact h
  | e :: l, pre, o, h => by
    have := best_fold l (pre ++ [e]) (betterE g us o e) (best_step h e)
    rw [List.append_assoc] at this
    exact this
/-- What is found has the address, and no longer one has it. -/
theorem findE_best (es : List Ent) (g : Int) (us : List Nat) : Best g us (findE es g us) es := by
  have := best_fold es [] none (g := g) (us := us) ⟨fun _ e h => (by cases h), fun b h => (by cases h)⟩
  rw [List.nil_append] at this
  exact this
theorem insE_len (rest : List Ent) (e : Ent) : (insE rest e).length = rest.length + 1 := by
  unfold insE
  have := posE_le rest e.f e.b (e.n : Int) rest.length
  rw [List.length_append, List.length_append, List.length_take, List.length_drop, List.length_singleton]
  omega
theorem setE_len (es : List Ent) (f : Int) (bs : List Nat) (n v : Int) : (setE es f bs n v).length ≤ es.length + 1 := by
  unfold setE
  split
  · rw [insE_len]
    have := dropE_len es f bs n
    omega
  · omega
end Go.Proofs.YtgbajagacmfcmaaGreatDoor
/- The pieces of a text, read off its bytes: what a text is cut into, whatever it was put together of. -/
namespace Go.Proofs.YtgbajagacmfcmaaGreatDoor
open Go.RowKit
set_option linter.unusedVariables false
set_option maxRecDepth 20000

/-- Bytes, as a text. -/
def ofL (l : List UInt8) : ByteArray := ⟨l.toArray⟩
theorem ofL_data (l : List UInt8) : (ofL l).data.toList = l := by simp [ofL]
theorem ofL_size (l : List UInt8) : (ofL l).size = l.length := by simp [ofL, ByteArray.size]
theorem ofL_append (l m : List UInt8) : ofL l ++ ofL m = ofL (l ++ m) := bytes_ext (by rw [data_append, ofL_data, ofL_data, ofL_data])
theorem eq_ofL {s : ByteArray} {l : List UInt8} (h : s.data.toList = l) : s = ofL l := bytes_ext (by rw [h, ofL_data])

def cutL (sep : Nat) : List UInt8 → List (List UInt8)
  | [] => [[]]
  | c :: l => if c.toNat = sep then [] :: cutL sep l else
    match cutL sep l with
    | [] => [[c]]
    | x :: r => (c :: x) :: r
theorem cutL_none (sep : Nat) : ∀ l : List UInt8, (∀ c ∈ l, c.toNat ≠ sep) → cutL sep l = [l]
  | [], _ => rfl
  | c :: l, h => by
    rw [cutL, if_neg (h c (by simp)), cutL_none sep l (fun x hx => h x (by simp [hx]))]
theorem cutL_first (sep : Nat) (c : UInt8) (hc : c.toNat = sep) (r : List UInt8) : ∀ l : List UInt8, (∀ c ∈ l, c.toNat ≠ sep) → cutL sep (l ++ c :: r) = l :: cutL sep r
  | [], _ => by rw [List.nil_append, cutL, if_pos hc]
  | x :: l, h => by
    rw [List.cons_append, cutL, if_neg (h x (by simp)), cutL_first sep c hc r l (fun x hx => h x (by simp [hx]))]

theorem sp_cut (s : ByteArray) (sep : Nat) : ∀ k, k ≤ s.size →
    cutL sep s.data.toList = (sp s sep k).1.map (fun p => p.data.toList) ++ cutL sep (s.data.toList.drop (sp s sep k).2) ∧ ∀ j (hj : j < s.size), (sp s sep k).2 ≤ j → j < k → (s[j]).toNat ≠ sep
  | 0, _ => ⟨by simp [sp], fun j _ _ h => by omega⟩
  | k + 1, hk => by
    obtain ⟨h1, h2⟩ := sp_cut s sep k (by omega)
    have hle := sp_le s sep k
    have hkl : k < s.data.toList.length := by simp; omega
    by_cases hit : (s[k]).toNat = sep
    · rw [sp_hit s sep k (by omega) hit]
      refine ⟨?_, fun j _ h3 h4 => by simp at h3; omega⟩
      rw [h1]
      have e : s.data.toList.drop (sp s sep k).2 = (s.extract (sp s sep k).2 k).data.toList ++ s[k] :: s.data.toList.drop (k + 1) := by
        rw [data_extract]
        have e1 : s.data.toList.drop k = s[k] :: s.data.toList.drop (k + 1) := by
          rw [List.drop_eq_getElem_cons hkl]; rfl
        rw [← e1]
        have e2 : s.data.toList.drop k = (s.data.toList.drop (sp s sep k).2).drop (k - (sp s sep k).2) := by
          rw [List.drop_drop]; congr 1; omega
        rw [e2, List.take_append_drop]
      rw [e, cutL_first sep _ hit _ _ ?_]
      · simp
      · intro c hc
        rw [data_extract] at hc
        obtain ⟨i, hi, rfl⟩ := List.getElem_of_mem hc
        have hi2 : i < k - (sp s sep k).2 := by simp at hi; omega
        have := h2 ((sp s sep k).2 + i) (by omega) (by omega) (by omega)
        rw [getElem_data] at this
        simpa using this
    · rw [sp_miss s sep k (by omega) hit]
      refine ⟨h1, fun j hj h3 h4 => ?_⟩
      by_cases hjk : j = k
      · subst hjk; exact hit
      · exact h2 j hj h3 (by omega)
theorem pieces_cut (s : ByteArray) (sep : Nat) : pieces s sep = (cutL sep s.data.toList).map ofL := by
  obtain ⟨h1, h2⟩ := sp_cut s sep s.size (Nat.le_refl _)
  have hle := sp_le s sep s.size
  have e : (s.extract (sp s sep s.size).2 s.size).data.toList = s.data.toList.drop (sp s sep s.size).2 := by
    rw [data_extract]
    apply List.take_of_length_le
    simp
  have h3 : cutL sep (s.data.toList.drop (sp s sep s.size).2) = [s.data.toList.drop (sp s sep s.size).2] := by
    apply cutL_none
    intro c hc
    obtain ⟨i, hi, rfl⟩ := List.getElem_of_mem hc
    have hi2 : (sp s sep s.size).2 + i < s.size := by simp at hi; omega
    have := h2 ((sp s sep s.size).2 + i) hi2 (by omega) hi2
    rw [getElem_data] at this
    simpa using this
  rw [h1, h3, List.map_append, List.map_map]
  unfold pieces
  have e2 : (ofL ∘ fun p : ByteArray => p.data.toList) = id := by
    funext p
    simp [ofL]
  rw [e2, List.map_id]
  congr 1
  simp only [List.map_cons, List.map_nil]
  rw [← e, ← eq_ofL rfl]
theorem pieces_ofL (l : List UInt8) (sep : Nat) : pieces (ofL l) sep = (cutL sep l).map ofL := by rw [pieces_cut, ofL_data]
end Go.Proofs.YtgbajagacmfcmaaGreatDoor
/- Contracts of four.howRead, number, endsInNumber, and of the reference's Part: a part's number. -/
namespace Go.Proofs.YtgbajagacmfcmaaGreatDoor
open Go.RowKit
set_option linter.unusedVariables false
set_option maxRecDepth 20000

/-- A part's number. -/
def partB (p : ByteArray) : Option Nat :=
  if p.size = 0 then none else
  if 1 < p.size ∧ byteOf p 0 = 48 ∧ (byteOf p 1 = 120 ∨ byteOf p 1 = 88) then readB (p.extract 2 p.size) 16 else
  if 1 < p.size ∧ byteOf p 0 = 48 then readB (p.extract 1 p.size) 8 else readB p 10
theorem partB_le (p : ByteArray) (n : Nat) (h : partB p = some n) : n ≤ 4294967296 := by
  unfold partB at h
  split at h
  · cases h
  · split at h
    · exact readB_le _ _ _ h
    · split at h
      · exact readB_le _ _ _ h
      · exact readB_le _ _ _ h

theorem how_end (w : World) (b : Int) : (w.alloc (.cells #[.int .i64 b] 3)).cell? ⟨w.heap.size, 0, none⟩ = some (.int .i64 b) ∧ Below w.heap.size w (w.alloc (.cells #[.int .i64 b] 3)) :=
  ⟨by simp [World.cell?_alloc_new], (Below.refl _ _).alloc (Nat.le_refl _) _⟩

theorem two_bytes (p : ByteArray) (h : 1 < p.size) (a b : UInt8) : p.extract 0 2 = { data := #[a, b] } ↔ byteOf p 0 = a.toNat ∧ byteOf p 1 = b.toNat := by
  have e : (p.extract 0 2).data.toList = [p[0], p[1]] := by
    rw [data_extract, List.drop_zero]
    have h0 : 1 < p.data.toList.length := by simpa using h
    match hl : p.data.toList, h0 with
    | x :: y :: l, _ =>
      have e0 : p[0] = x := by rw [getElem_data]; simp [hl]
      have e1 : p[1] = y := by rw [getElem_data]; simp [hl]
      rw [e0, e1]; rfl
  rw [byteOf_eq p 0 (by omega), byteOf_eq p 1 h]
  constructor
  · intro h2
    rw [h2] at e
    simp at e
    rw [← e.1, ← e.2]
    exact ⟨rfl, rfl⟩
  · rintro ⟨h1, h2⟩
    apply bytes_ext
    rw [e]
    have a1 : p[0] = a := UInt8.toNat_inj.1 h1
    have a2 : p[1] = b := UInt8.toNat_inj.1 h2
    rw [a1, a2]

/-- Whether a text whose last part this is ends in a number. -/
def endsB (p : ByteArray) : Bool := decide (0 < p.size) && ((readB p 10).isSome || (partB p).isSome)

end Go.Proofs.YtgbajagacmfcmaaGreatDoor
/- Contracts of four.looseParts, join, Loose: the address of a loose text. -/
namespace Go.Proofs.YtgbajagacmfcmaaGreatDoor
open Go.RowKit
set_option linter.unusedVariables false
set_option maxRecDepth 20000

/-- The parts of a loose text. -/
def lparts (s : ByteArray) : List ByteArray :=
  if 1 < (pieces s 46).length ∧ ((pieces s 46).getD ((pieces s 46).length - 1) ⟨#[]⟩).size = 0 then (pieces s 46).take ((pieces s 46).length - 1) else pieces s 46
theorem lparts_pos (s : ByteArray) : 0 < (lparts s).length := by
  unfold lparts
  split
  · simp; omega
  · exact pieces_pos s 46
theorem lparts_small (s : ByteArray) : ∀ p ∈ lparts s, p.size ≤ s.size := by
  unfold lparts
  split
  · intro p hp; exact pieces_small s 46 p (List.mem_of_mem_take hp)
  · exact pieces_small s 46
theorem lparts_len (s : ByteArray) : (lparts s).length ≤ s.size + 1 := by
  have := pieces_len s 46
  unfold lparts
  split
  · simp; omega
  · exact this

/-- The number of the first k parts, each one byte. -/
def outTo (l : List ByteArray) : Nat → Option Nat
  | 0 => some 0
  | k + 1 => match outTo l k with
    | none => none
    | some m => match partB (l.getD k ⟨#[]⟩) with
      | none => none
      | some n => if 255 < n then none else some (m * 256 + n)
theorem outTo_lt (l : List ByteArray) : ∀ k m, outTo l k = some m → m < 256 ^ k
  | 0, m, h => by simp [outTo] at h; omega
  | k + 1, m, h => by
    rw [outTo] at h
    cases hk : outTo l k with
    | none => rw [hk] at h; cases h
    | some j =>
      have := outTo_lt l k j hk
      rw [hk] at h
      simp only at h
      split at h
      · cases h
      · split at h
        · cases h
        · have := Option.some.inj h
          rw [Nat.pow_succ]
          omega
theorem outTo_none (l : List ByteArray) (k : Nat) (h : outTo l k = none) : ∀ m, outTo l (k + m) = none
  | 0 => h
  | m + 1 => by rw [← Nat.add_assoc, outTo, outTo_none l k h m]
theorem outTo_dead {l : List ByteArray} {k n : Nat} (hk : k ≤ n) (h : outTo l k = none) : outTo l n = none := by
  have := outTo_none l k h (n - k)
  rwa [show k + (n - k) = n by omega] at this
/-- How many numbers a last part may have, behind k others. -/
def roomB (k : Nat) : Nat := 256 ^ (4 - k)
/-- The parts' address. -/
def joinP (l : List ByteArray) : Option Nat :=
  if 4 < l.length then none else
  match outTo l (l.length - 1) with
  | none => none
  | some m => match partB (l.getD (l.length - 1) ⟨#[]⟩) with
    | none => none
    | some n => if roomB (l.length - 1) ≤ n then none else some (m * roomB (l.length - 1) + n)
theorem room_lt (k m n : Nat) (hk : k ≤ 3) (hm : m < 256 ^ k) (hn : n < roomB k) : m * roomB k + n < 4294967296 := by
  unfold roomB at *
  have hp : k = 0 ∨ k = 1 ∨ k = 2 ∨ k = 3 := by omega
  rcases hp with rfl | rfl | rfl | rfl
  all_goals
    simp at *
    omega
theorem joinP_lt (l : List ByteArray) (a : Nat) (h : joinP l = some a) : a < 4294967296 := by
  unfold joinP at h
  split at h
  · cases h
  · split at h
    · cases h
    · rename_i hl _ m hm
      have hm := outTo_lt l _ m hm
      split at h
      · cases h
      · split at h
        · cases h
        · rename_i n _ hn
          have h := Option.some.inj h
          rw [← h]
          exact room_lt _ _ _ (by omega) hm (by omega)
theorem joinP_dead {l : List ByteArray} {k : Nat} (hk : k ≤ l.length - 1) (h : outTo l k = none) : joinP l = none := by
  unfold joinP
  split
  · rfl
  · rw [outTo_dead hk h]
def joinRet (o : Option Nat) : Value := .tuple #[.int .u32 ((o.getD 0 : Nat) : Int), .bool o.isSome]
theorem join_ret {o p : Option Nat} (h : o = p) : Ending.returned (joinRet o) = .returned (joinRet p) := by rw [h]

theorem join_some {l : List ByteArray} {a : Nat} {v : Int} (h : joinP l = some a) (hv : v = a) : Ending.returned (.tuple #[.int .u32 v, .bool true]) = .returned (joinRet (joinP l)) := by
  rw [h, hv]; rfl

/-- A loose text's address and kind. -/
def looseB (s : ByteArray) : Nat × Nat :=
  if endsB ((lparts s).getD ((lparts s).length - 1) ⟨#[]⟩) then
    match joinP (lparts s) with
    | none => (0, 1)
    | some a => (a, 2)
  else (0, 0)
def looseRet (r : Nat × Nat) : Value := .tuple #[.int .u32 ((r.1 : Nat) : Int), .int .i64 ((r.2 : Nat) : Int)]
theorem loose_ret {o p : Nat × Nat} (h : o = p) : Ending.returned (looseRet o) = .returned (looseRet p) := by rw [h]
theorem looseB_name {s : ByteArray} (h : endsB ((lparts s).getD ((lparts s).length - 1) ⟨#[]⟩) = false) : looseB s = (0, 0) := by
  unfold looseB; rw [h]; rfl
theorem looseB_bad {s : ByteArray} (h : endsB ((lparts s).getD ((lparts s).length - 1) ⟨#[]⟩) = true) (hj : joinP (lparts s) = none) : looseB s = (0, 1) := by
  unfold looseB; rw [h, hj]; rfl
theorem looseB_good {s : ByteArray} {a : Nat} (h : endsB ((lparts s).getD ((lparts s).length - 1) ⟨#[]⟩) = true) (hj : joinP (lparts s) = some a) : looseB s = (a, 2) := by
  unfold looseB; rw [h, hj]; rfl

theorem loose_example : looseB { data := #[48, 120, 55, 102, 46, 49] } = (2130706433, 2) := by kernel_rfl

end Go.Proofs.YtgbajagacmfcmaaGreatDoor
/- What numbers' digits are as parts of loose and of strict texts; plain facts, and four.Loose's contract at texts put together of such. -/
namespace Go.Proofs.YtgbajagacmfcmaaGreatDoor
open Go.RowKit
set_option linter.unusedVariables false
set_option maxRecDepth 20000

/-- Digits read one by one, 2^32 at most. -/
def readL (b : Nat) : Nat → List UInt8 → Option Nat
  | n, [] => some n
  | n, c :: l => if b ≤ digC c.toNat then none else readL b (min (n * b + digC c.toNat) 4294967296) l
theorem readL_append (b : Nat) (m : List UInt8) : ∀ (l : List UInt8) (n : Nat), readL b n (l ++ m) = match readL b n l with
    | none => none
    | some x => readL b x m
  | [], n => rfl
  | c :: l, n => by
    rw [List.cons_append, readL, readL]
    split
    · rfl
    · exact readL_append b m l _
theorem readTo_list (s : ByteArray) (b : Nat) : ∀ k, k ≤ s.size → readTo s b k = readL b 0 (s.data.toList.take k)
  | 0, _ => rfl
  | k + 1, h => by
    have hk : k < s.data.toList.length := by simp; omega
    rw [List.take_add_one, List.getElem?_eq_getElem hk, readL_append, ← readTo_list s b k (by omega), readTo]
    cases readTo s b k with
    | none => rfl
    | some n =>
      have e : byteOf s k = (s.data.toList[k]).toNat := by rw [byteOf_eq s k (by omega)]; rfl
      simp only [e, Option.toList, readL]
theorem readB_list (s : ByteArray) (b : Nat) : readB s b = readL b 0 s.data.toList := by
  unfold readB
  rw [readTo_list s b _ (Nat.le_refl _), List.take_of_length_le (by simp)]
theorem readB_ofL (l : List UInt8) (b : Nat) : readB (ofL l) b = readL b 0 l := by rw [readB_list, ofL_data]

theorem dec_mem (u : Nat) : ∀ c ∈ Lib.decDigits u, 48 ≤ c.toNat ∧ c.toNat ≤ 57 := by
  have one : ∀ d, d < 10 → 48 ≤ (UInt8.ofNat (48 + d)).toNat ∧ (UInt8.ofNat (48 + d)).toNat ≤ 57 := by
    intro d hd
    rw [UInt8.toNat_ofNat', Nat.mod_eq_of_lt (by omega)]
    omega
  induction u using Nat.strongRecOn with
  | _ u ih =>
    rw [Lib.decDigits]
    split
    · intro c hc
      simp at hc
      subst hc
      rw [show (48 : UInt8) + UInt8.ofNat u = UInt8.ofNat (48 + u) by simp]
      exact one u (by omega)
    · intro c hc
      rcases List.mem_append.1 hc with h | h
      · exact ih (u / 10) (by omega) c h
      · rw [List.mem_singleton] at h
        rw [h]
        exact one _ (by omega)
theorem dec_dot (u : Nat) : ∀ c ∈ Lib.decDigits u, c.toNat ≠ 46 := fun c hc => by have := dec_mem u c hc; omega
theorem dec_head (u : Nat) (h : 0 < u) : ∃ c l, Lib.decDigits u = c :: l ∧ c.toNat ≠ 48 := by
  induction u using Nat.strongRecOn with
  | _ u ih =>
    rw [Lib.decDigits]
    split
    · exact ⟨_, [], rfl, by rw [UInt8.toNat_ofNat', Nat.mod_eq_of_lt (by omega)]; omega⟩
    · obtain ⟨c, l, e, hc⟩ := ih (u / 10) (by omega) (by omega)
      exact ⟨c, l ++ [UInt8.ofNat (48 + u % 10)], by rw [e]; rfl, hc⟩
theorem dec_read (u : Nat) : readL 10 0 (Lib.decDigits u) = some (min u 4294967296) := by
  induction u using Nat.strongRecOn with
  | _ u ih =>
    rw [Lib.decDigits]
    split
    · rename_i h
      rw [readL, digC_dec u h, if_neg (by omega), readL]
      simp
    · rw [readL_append, ih (u / 10) (by omega)]
      simp only [readL]
      rw [digC_dec _ (by omega), if_neg (by omega)]
      congr 1
      omega

theorem byteOf_ofL (l : List UInt8) (k : Nat) : byteOf (ofL l) k = (l.getD k 0).toNat := by unfold byteOf; rw [ofL_data]
theorem partB_plain (l : List UInt8) (h0 : l ≠ []) (h : ¬ (1 < l.length ∧ (l.getD 0 0).toNat = 48)) : partB (ofL l) = readL 10 0 l := by
  have h1 : ¬ l.length = 0 := by intro h; exact h0 (List.eq_nil_of_length_eq_zero h)
  unfold partB
  rw [ofL_size, byteOf_ofL, if_neg h1, if_neg (by intro h2; exact h ⟨h2.1, h2.2.1⟩), if_neg h, readB_ofL]
theorem dec_nil (u : Nat) : Lib.decDigits u ≠ [] := by
  intro h
  have := dec_pos u
  rw [h] at this
  simp at this
theorem dec_lead (u : Nat) : ¬ (1 < (Lib.decDigits u).length ∧ ((Lib.decDigits u).getD 0 0).toNat = 48) := by
  rintro ⟨h1, h2⟩
  by_cases hu : u = 0
  · subst hu
    rw [Lib.decDigits] at h1
    simp at h1
  · obtain ⟨c, l, e, hc⟩ := dec_head u (by omega)
    rw [e] at h2
    exact hc (by simpa using h2)
theorem partB_dec (u : Nat) : partB (ofL (Lib.decDigits u)) = some (min u 4294967296) := by
  rw [partB_plain _ (dec_nil u) (dec_lead u), dec_read]
theorem partB_small (u : Nat) (h : u ≤ 4294967296) : partB (ofL (Lib.decDigits u)) = some u := by
  rw [partB_dec, Nat.min_eq_left h]
theorem octet_dec (u : Nat) (h : u < 256) : octet (ofL (Lib.decDigits u)) = some u := by
  have e : numB (ofL (Lib.decDigits u)) 10 = some u := by
    have := itoa_num (u : Int)
    rw [show Lib.itoa (u : Int) = Lib.decDigits u by unfold Lib.itoa; rw [if_neg (by omega)]; rfl, if_pos (by omega)] at this
    simp at this
    exact this
  unfold octet
  rw [e, ofL_size, byteOf_ofL]
  simp only [if_neg (show ¬ 255 < u by omega), if_neg (dec_lead u)]
theorem partB_hex (l : List UInt8) : partB (ofL (48 :: 120 :: l)) = readL 16 0 l := by
  unfold partB
  rw [if_neg (by rw [ofL_size]; simp), if_pos (by rw [ofL_size, byteOf_ofL, byteOf_ofL]; simp), readB_list, data_extract, ofL_data, ofL_size]
  simp
theorem partB_oct (c : UInt8) (l : List UInt8) (h1 : c.toNat ≠ 120) (h2 : c.toNat ≠ 88) : partB (ofL (48 :: c :: l)) = readL 8 0 (c :: l) := by
  unfold partB
  rw [if_neg (by rw [ofL_size]; simp), if_neg (by rw [ofL_size, byteOf_ofL, byteOf_ofL]; simp [h1, h2]), if_pos (by rw [ofL_size, byteOf_ofL]; simp), readB_list, data_extract, ofL_data, ofL_size]
  simp

/-- A part that ends in the letter a has no number, if it begins with a decimal number's digits. -/
theorem readL_bad (b : Nat) (hb : b ≤ 10) (l : List UInt8) (n : Nat) : readL b n (l ++ [97]) = none := by
  rw [readL_append]
  cases readL b n l with
  | none => rfl
  | some x =>
    have : digC (97 : UInt8).toNat = 10 := by decide
    simp only [readL, this, if_pos hb]
theorem partB_bad (u : Nat) : partB (ofL (Lib.decDigits u ++ [97])) = none ∧ readB (ofL (Lib.decDigits u ++ [97])) 10 = none := by
  refine ⟨?_, by rw [readB_ofL]; exact readL_bad 10 (by decide) _ _⟩
  by_cases hl : ((Lib.decDigits u ++ [97]).getD 0 0).toNat = 48
  · by_cases hu : u = 0
    · subst hu
      rw [show Lib.decDigits 0 ++ [97] = [48, 97] by rw [Lib.decDigits]; rfl, partB_oct _ _ (by decide) (by decide)]
      decide
    · obtain ⟨c, l, e, hc⟩ := dec_head u (by omega)
      rw [e] at hl
      exact absurd (by simpa using hl) hc
  · rw [partB_plain _ (by simp) (by intro h; exact hl h.2)]
    exact readL_bad 10 (by decide) _ _

theorem joinP1 (p : ByteArray) (v : Nat) (hp : partB p = some v) : joinP [p] = if 4294967296 ≤ v then none else some v := by
  unfold joinP
  simp [outTo, hp, roomB]
theorem joinP2 (p q : ByteArray) (a v : Nat) (hp : partB p = some a) (ha : a ≤ 255) (hq : partB q = some v) : joinP [p, q] = if 16777216 ≤ v then none else some (a * 16777216 + v) := by
  unfold joinP
  simp [outTo, hp, hq, roomB, show ¬ 255 < a by omega]
theorem joinP3 (p q r : ByteArray) (a b v : Nat) (hp : partB p = some a) (ha : a ≤ 255) (hq : partB q = some b) (hb : b ≤ 255) (hr : partB r = some v) : joinP [p, q, r] = if 65536 ≤ v then none else some ((a * 256 + b) * 65536 + v) := by
  unfold joinP
  simp [outTo, hp, hq, hr, roomB, show ¬ 255 < a by omega, show ¬ 255 < b by omega]
theorem joinP4 (p q r t : ByteArray) (a b c v : Nat) (hp : partB p = some a) (ha : a ≤ 255) (hq : partB q = some b) (hb : b ≤ 255) (hr : partB r = some c) (hc : c ≤ 255) (ht : partB t = some v) : joinP [p, q, r, t] = if 256 ≤ v then none else some (((a * 256 + b) * 256 + c) * 256 + v) := by
  unfold joinP
  simp [outTo, hp, hq, hr, ht, roomB, show ¬ 255 < a by omega, show ¬ 255 < b by omega, show ¬ 255 < c by omega]

theorem lparts_of {s : ByteArray} {l : List ByteArray} (h : pieces s 46 = l) (h2 : (l.getD (l.length - 1) ⟨#[]⟩).size ≠ 0) : lparts s = l := by
  unfold lparts
  rw [h, if_neg (by intro h3; exact h2 h3.2)]
theorem ofL_ne (l : List UInt8) (h : l ≠ []) : (ofL l).size ≠ 0 := by
  rw [ofL_size]; intro h2; exact h (List.eq_nil_of_length_eq_zero h2)
theorem lparts1 (A : List UInt8) (hA : ∀ c ∈ A, c.toNat ≠ 46) (h0 : A ≠ []) : lparts (ofL A) = [ofL A] :=
  lparts_of (by rw [pieces_ofL, cutL_none 46 A hA]; rfl) (by simpa using ofL_ne A h0)
theorem lparts2 (A B : List UInt8) (hA : ∀ c ∈ A, c.toNat ≠ 46) (hB : ∀ c ∈ B, c.toNat ≠ 46) (h0 : B ≠ []) : lparts (ofL (A ++ 46 :: B)) = [ofL A, ofL B] :=
  lparts_of (by rw [pieces_ofL, cutL_first 46 46 rfl B A hA, cutL_none 46 B hB]; rfl) (by simpa using ofL_ne B h0)
theorem lparts3 (A B C : List UInt8) (hA : ∀ c ∈ A, c.toNat ≠ 46) (hB : ∀ c ∈ B, c.toNat ≠ 46) (hC : ∀ c ∈ C, c.toNat ≠ 46) (h0 : C ≠ []) : lparts (ofL (A ++ 46 :: (B ++ 46 :: C))) = [ofL A, ofL B, ofL C] :=
  lparts_of (by rw [pieces_ofL, cutL_first 46 46 rfl _ A hA, cutL_first 46 46 rfl _ B hB, cutL_none 46 C hC]; rfl) (by simpa using ofL_ne C h0)
theorem cut4 (A B C D : List UInt8) (hA : ∀ c ∈ A, c.toNat ≠ 46) (hB : ∀ c ∈ B, c.toNat ≠ 46) (hC : ∀ c ∈ C, c.toNat ≠ 46) (hD : ∀ c ∈ D, c.toNat ≠ 46) : pieces (ofL (A ++ 46 :: (B ++ 46 :: (C ++ 46 :: D)))) 46 = [ofL A, ofL B, ofL C, ofL D] := by
  rw [pieces_ofL, cutL_first 46 46 rfl _ A hA, cutL_first 46 46 rfl _ B hB, cutL_first 46 46 rfl _ C hC, cutL_none 46 D hD]; rfl
theorem lparts4 (A B C D : List UInt8) (hA : ∀ c ∈ A, c.toNat ≠ 46) (hB : ∀ c ∈ B, c.toNat ≠ 46) (hC : ∀ c ∈ C, c.toNat ≠ 46) (hD : ∀ c ∈ D, c.toNat ≠ 46) (h0 : D ≠ []) : lparts (ofL (A ++ 46 :: (B ++ 46 :: (C ++ 46 :: D)))) = [ofL A, ofL B, ofL C, ofL D] :=
  lparts_of (cut4 A B C D hA hB hC hD) (by simpa using ofL_ne D h0)
theorem lparts4dot (A B C D : List UInt8) (hA : ∀ c ∈ A, c.toNat ≠ 46) (hB : ∀ c ∈ B, c.toNat ≠ 46) (hC : ∀ c ∈ C, c.toNat ≠ 46) (hD : ∀ c ∈ D, c.toNat ≠ 46) : lparts (ofL (A ++ 46 :: (B ++ 46 :: (C ++ 46 :: (D ++ 46 :: []))))) = [ofL A, ofL B, ofL C, ofL D] := by
  have h : pieces (ofL (A ++ 46 :: (B ++ 46 :: (C ++ 46 :: (D ++ 46 :: []))))) 46 = [ofL A, ofL B, ofL C, ofL D, ofL []] := by
    rw [pieces_ofL, cutL_first 46 46 rfl _ A hA, cutL_first 46 46 rfl _ B hB, cutL_first 46 46 rfl _ C hC, cutL_first 46 46 rfl _ D hD, cutL_none 46 [] (by simp)]; rfl
  unfold lparts
  rw [h, if_pos (by simp [ofL]; rfl)]
  rfl

theorem ends_of {x : ByteArray} {v : Nat} (h : partB x = some v) : endsB x = true := by
  have h0 : 0 < x.size := by
    rcases Nat.eq_zero_or_pos x.size with h0 | h0
    · unfold partB at h; rw [if_pos h0] at h; cases h
    · exact h0
  unfold endsB
  rw [h]
  simp [h0]
theorem looseB_parts {s : ByteArray} {l : List ByteArray} {v : Nat} (hl : lparts s = l) (he : partB (l.getD (l.length - 1) ⟨#[]⟩) = some v) : looseB s = match joinP l with
    | none => (0, 1)
    | some a => (a, 2) := by
  unfold looseB
  rw [hl, ends_of he]
  rfl
theorem looseB_no {s : ByteArray} {l : List ByteArray} (hl : lparts s = l) (he : partB (l.getD (l.length - 1) ⟨#[]⟩) = none) (hr : readB (l.getD (l.length - 1) ⟨#[]⟩) 10 = none) : looseB s = (0, 0) := by
  apply looseB_name
  rw [hl]
  unfold endsB
  rw [he, hr]
  simp

abbrev dec (u : Nat) : List UInt8 := Lib.decDigits u
theorem loose1 (v : Nat) : looseB (ofL (dec v)) = if 4294967296 ≤ v then (0, 1) else (v, 2) := by
  rw [looseB_parts (lparts1 _ (dec_dot v) (dec_nil v)) (by simpa using partB_dec v), joinP1 _ _ (partB_dec v)]
  by_cases h : 4294967296 ≤ v
  · rw [if_pos (by omega), if_pos h]
  · rw [if_neg (by omega), if_neg h, Nat.min_eq_left (by omega)]
theorem loose2 (x v : Nat) (hx : x < 256) (hv : v < 16777216) : looseB (ofL (dec x ++ 46 :: dec v)) = (x * 16777216 + v, 2) := by
  rw [looseB_parts (lparts2 _ _ (dec_dot x) (dec_dot v) (dec_nil v)) (by simpa using partB_dec v), joinP2 _ _ x v (partB_small x (by omega)) (by omega) (partB_small v (by omega)), if_neg (by omega)]
theorem loose2bad (x v : Nat) (hx : x < 256) (hv : 16777216 ≤ v) : looseB (ofL (dec x ++ 46 :: dec v)) = (0, 1) := by
  rw [looseB_parts (lparts2 _ _ (dec_dot x) (dec_dot v) (dec_nil v)) (by simpa using partB_dec v), joinP2 _ _ x _ (partB_small x (by omega)) (by omega) (partB_dec v), if_pos (by omega)]
theorem loose2no (x y : Nat) : looseB (ofL (dec x ++ 46 :: (dec y ++ [97]))) = (0, 0) :=
  looseB_no (lparts2 _ _ (dec_dot x) (fun c hc => by
    rcases List.mem_append.1 hc with h | h
    · exact dec_dot y c h
    · rw [List.mem_singleton] at h; rw [h]; decide) (by simp)) (by simpa using (partB_bad y).1) (by simpa using (partB_bad y).2)
theorem loose3 (x y v : Nat) (hx : x < 256) (hy : y < 256) (hv : v < 65536) : looseB (ofL (dec x ++ 46 :: (dec y ++ 46 :: dec v))) = ((x * 256 + y) * 65536 + v, 2) := by
  rw [looseB_parts (lparts3 _ _ _ (dec_dot x) (dec_dot y) (dec_dot v) (dec_nil v)) (by simpa using partB_dec v), joinP3 _ _ _ x y v (partB_small x (by omega)) (by omega) (partB_small y (by omega)) (by omega) (partB_small v (by omega)), if_neg (by omega)]
theorem loose4 (a b c d : Nat) (ha : a < 256) (hb : b < 256) (hc : c < 256) (hd : d < 256) : looseB (ofL (dec a ++ 46 :: (dec b ++ 46 :: (dec c ++ 46 :: dec d)))) = (((a * 256 + b) * 256 + c) * 256 + d, 2) := by
  rw [looseB_parts (lparts4 _ _ _ _ (dec_dot a) (dec_dot b) (dec_dot c) (dec_dot d) (dec_nil d)) (by simpa using partB_dec d), joinP4 _ _ _ _ a b c d (partB_small a (by omega)) (by omega) (partB_small b (by omega)) (by omega) (partB_small c (by omega)) (by omega) (partB_small d (by omega)), if_neg (by omega)]
theorem loose4dot (a b c d : Nat) (ha : a < 256) (hb : b < 256) (hc : c < 256) (hd : d < 256) : looseB (ofL (dec a ++ 46 :: (dec b ++ 46 :: (dec c ++ 46 :: (dec d ++ 46 :: []))))) = (((a * 256 + b) * 256 + c) * 256 + d, 2) := by
  rw [looseB_parts (lparts4dot _ _ _ _ (dec_dot a) (dec_dot b) (dec_dot c) (dec_dot d)) (by simpa using partB_dec d), joinP4 _ _ _ _ a b c d (partB_small a (by omega)) (by omega) (partB_small b (by omega)) (by omega) (partB_small c (by omega)) (by omega) (partB_small d (by omega)), if_neg (by omega)]
theorem strict4 (a b c d : Nat) (ha : a < 256) (hb : b < 256) (hc : c < 256) (hd : d < 256) : strictB (ofL (dec a ++ 46 :: (dec b ++ 46 :: (dec c ++ 46 :: dec d)))) = some (((a * 256 + b) * 256 + c) * 256 + d) := by
  unfold strictB
  rw [cut4 _ _ _ _ (dec_dot a) (dec_dot b) (dec_dot c) (dec_dot d)]
  simp [octTo, octet_dec a ha, octet_dec b hb, octet_dec c hc, octet_dec d hd]

theorem strict_list (s : ByteArray) (l : List UInt8) (r : Option Nat) (w : World) (hl : s.data.toList = l) (hn : l.length ≤ 1000) (hr : strictB (ofL l) = r) :
    Calls Tryz.prog 59 #[.string s] w fun e w' => e = .returned (strictRet r) ∧ Below w.heap.size w w' := by
  have hs := eq_ofL hl
  subst hs
  have := strict_any (ofL l) w (by rw [ofL_size]; omega)
  rw [hr] at this
  exact this
end Go.Proofs.YtgbajagacmfcmaaGreatDoor
/- An address of 32 bits, its text, and the contract of the reference's Print. -/
namespace Go.Proofs.YtgbajagacmfcmaaGreatDoor
open Go.RowKit
set_option linter.unusedVariables false
set_option maxRecDepth 20000

/-- The number of four bytes. -/
def num4 (a b c d : Nat) : Nat := ((a * 256 + b) * 256 + c) * 256 + d
theorem num4_ex (n : Nat) (h : n ≤ 4294967295) : ∃ a b c d : Nat, a < 256 ∧ b < 256 ∧ c < 256 ∧ d < 256 ∧ n = num4 a b c d :=
  ⟨n / 16777216, n / 65536 % 256, n / 256 % 256, n % 256, by omega, by omega, by omega, by omega, by unfold num4; omega⟩
theorem num4_inj {a b c d a' b' c' d' : Nat} (ha : a < 256) (hb : b < 256) (hc : c < 256) (hd : d < 256) (ha' : a' < 256) (hb' : b' < 256) (hc' : c' < 256) (hd' : d' < 256) (h : num4 a b c d = num4 a' b' c' d') : a = a' ∧ b = b' ∧ c = c' ∧ d = d' := by
  unfold num4 at h
  omega

def prR (a b c d : Nat) : Nat → List UInt8
  | 0 => []
  | 1 => dec d
  | 2 => dec c ++ 46 :: dec d
  | 3 => dec b ++ 46 :: (dec c ++ 46 :: dec d)
  | _ => dec a ++ 46 :: (dec b ++ 46 :: (dec c ++ 46 :: dec d))
def text4 (a b c d : Nat) : ByteArray := ofL (dec a ++ 46 :: (dec b ++ 46 :: (dec c ++ 46 :: dec d)))
theorem dec_small (u : Nat) (h : u < 256) : (dec u).length ≤ 21 := dec_length u (by omega)
theorem str_ret {s t : ByteArray} (h : s.data.toList = t.data.toList) : Ending.returned (.string s) = .returned (.string t) := by rw [bytes_ext h]

theorem text4_data (a b c d : Nat) : (text4 a b c d).data.toList = dec a ++ 46 :: (dec b ++ 46 :: (dec c ++ 46 :: dec d)) := ofL_data _
theorem text4_size (a b c d : Nat) (ha : a < 256) (hb : b < 256) (hc : c < 256) (hd : d < 256) : (text4 a b c d).size ≤ 90 := by
  have h1 := dec_small a ha
  have h2 := dec_small b hb
  have h3 := dec_small c hc
  have h4 := dec_small d hd
  unfold text4
  rw [ofL_size]
  simp only [dec] at *
  simp
  omega
theorem text4_strict (a b c d n : Nat) (ha : a < 256) (hb : b < 256) (hc : c < 256) (hd : d < 256) (hn : n = num4 a b c d) : strictB (text4 a b c d) = some n := by
  rw [hn]; exact strict4 a b c d ha hb hc hd
theorem text4_loose (a b c d n : Nat) (ha : a < 256) (hb : b < 256) (hc : c < 256) (hd : d < 256) (hn : n = num4 a b c d) : looseB (text4 a b c d) = (n, 2) := by
  rw [hn]; exact loose4 a b c d ha hb hc hd
theorem text4_dot (a b c d n : Nat) (X : ByteArray) (hX : X.data.toList = [46]) (ha : a < 256) (hb : b < 256) (hc : c < 256) (hd : d < 256) (hn : n = num4 a b c d) : looseB (text4 a b c d ++ X) = (n, 2) := by
  have e : text4 a b c d ++ X = ofL (dec a ++ 46 :: (dec b ++ 46 :: (dec c ++ 46 :: (dec d ++ 46 :: [])))) := eq_ofL (by
    rw [data_append, text4_data, hX]
    simp)
  rw [e, hn]
  exact loose4dot a b c d ha hb hc hd
end Go.Proofs.YtgbajagacmfcmaaGreatDoor
/- Numbers' digits of the bases 16 and 8, as parts of loose texts; plain facts. -/
namespace Go.Proofs.YtgbajagacmfcmaaGreatDoor
open Go.RowKit
set_option linter.unusedVariables false
set_option maxRecDepth 20000

def hexc (d : Nat) : UInt8 := if d < 10 then UInt8.ofNat (48 + d) else UInt8.ofNat (87 + d)
theorem hexc_nat (d : Nat) (h : d < 16) : (hexc d).toNat = if d < 10 then 48 + d else 87 + d := by
  unfold hexc
  split
  · rw [UInt8.toNat_ofNat', Nat.mod_eq_of_lt (by omega)]
  · rw [UInt8.toNat_ofNat', Nat.mod_eq_of_lt (by omega)]
theorem digC_hexc (d : Nat) (h : d < 16) : digC (hexc d).toNat = d := by
  rw [hexc_nat d h]
  unfold digC
  by_cases h1 : d < 10
  · rw [if_pos h1, if_pos (by omega)]; omega
  · rw [if_neg h1, if_neg (by omega), if_pos (by omega)]; omega
/-- The lowest i digits of n. -/
def hexL (n b : Nat) : Nat → List UInt8
  | 0 => []
  | i + 1 => hexc (n / b ^ i % b) :: hexL n b i
theorem hexL_length (n b : Nat) : ∀ i, (hexL n b i).length = i
  | 0 => rfl
  | i + 1 => by rw [hexL, List.length_cons, hexL_length n b i]
theorem hexL_mem (n b : Nat) (hb0 : 0 < b) (hb : b ≤ 16) : ∀ i, ∀ c ∈ hexL n b i, c.toNat ≠ 46 ∧ c.toNat ≠ 120 ∧ c.toNat ≠ 88
  | 0 => by simp [hexL]
  | i + 1 => by
    intro c hc
    rw [hexL] at hc
    rcases List.mem_cons.1 hc with h | h
    · rw [h]
      have := Nat.mod_lt (n / b ^ i) hb0
      rw [hexc_nat _ (by omega)]
      split <;> omega
    · exact hexL_mem n b hb0 hb i c h
theorem hexL_read (n b : Nat) (hb0 : 0 < b) (hb : b ≤ 16) : ∀ i x, x ≤ 4294967296 → readL b x (hexL n b i) = some (min (x * b ^ i + n % b ^ i) 4294967296)
  | 0, x, hx => by
    simp [hexL, readL, Nat.mod_one]
    omega
  | i + 1, x, hx => by
    have hd := Nat.mod_lt (n / b ^ i) hb0
    have hp : 0 < b ^ i := Nat.pow_pos hb0
    rw [hexL, readL, digC_hexc _ (by omega), if_neg (by omega), hexL_read n b hb0 hb i _ (Nat.min_le_right _ _)]
    have e : n % b ^ (i + 1) = n / b ^ i % b * b ^ i + n % b ^ i := by
      rw [Nat.pow_succ, Nat.mod_mul, Nat.mul_comm (n / b ^ i % b), Nat.add_comm]
    have e2 : x * b ^ (i + 1) + n % b ^ (i + 1) = (x * b + n / b ^ i % b) * b ^ i + n % b ^ i := by
      rw [e, Nat.pow_succ, Nat.add_mul, Nat.mul_comm (b ^ i) b, ← Nat.mul_assoc, Nat.add_assoc]
    rw [e2]
    generalize x * b + n / b ^ i % b = y
    generalize n % b ^ i = z
    congr 1
    by_cases hy : y ≤ 4294967296
    · rw [Nat.min_eq_left hy]
    · rw [Nat.min_eq_right (by omega : 4294967296 ≤ y)]
      have h1 : 4294967296 * 1 ≤ 4294967296 * b ^ i := Nat.mul_le_mul_left _ hp
      have h2 : 4294967296 * b ^ i ≤ y * b ^ i := Nat.mul_le_mul_right _ (by omega)
      omega
theorem looseHex (n : Nat) (hn : n < 8589934592) : looseB (ofL (48 :: 120 :: hexL n 16 12)) = if 4294967296 ≤ n then (0, 1) else (n, 2) := by
  have hp : partB (ofL (48 :: 120 :: hexL n 16 12)) = some (min n 4294967296) := by
    rw [partB_hex, hexL_read n 16 (by decide) (by decide) _ _ (by decide)]
    simp
    omega
  have hd : ∀ c ∈ (48 :: 120 :: hexL n 16 12 : List UInt8), c.toNat ≠ 46 := by
    intro c hc
    rcases List.mem_cons.1 hc with h | h
    · rw [h]; decide
    · rcases List.mem_cons.1 h with h | h
      · rw [h]; decide
      · exact (hexL_mem n 16 (by decide) (by decide) 12 c h).1
  rw [looseB_parts (lparts1 _ hd (by simp)) (by simpa using hp), joinP1 _ _ hp]
  by_cases h : 4294967296 ≤ n
  · rw [if_pos (by omega), if_pos h]
  · rw [if_neg (by omega), if_neg h, Nat.min_eq_left (by omega)]
theorem looseOct (n : Nat) (hn : n < 8589934592) : looseB (ofL (48 :: hexL n 8 12)) = if 4294967296 ≤ n then (0, 1) else (n, 2) := by
  have hm := hexL_mem n 8 (by decide) (by decide) 12
  have hp : partB (ofL (48 :: hexL n 8 12)) = some (min n 4294967296) := by
    have e := hexL_read n 8 (by decide) (by decide) 12 0 (by decide)
    rw [hexL] at hm e ⊢
    rw [partB_oct _ _ (hm _ (by simp)).2.1 (hm _ (by simp)).2.2, e]
    simp
    omega
  have hd : ∀ c ∈ (48 :: hexL n 8 12 : List UInt8), c.toNat ≠ 46 := by
    intro c hc
    rcases List.mem_cons.1 hc with h | h
    · rw [h]; decide
    · exact (hm c h).1
  rw [looseB_parts (lparts1 _ hd (by simp)) (by simpa using hp), joinP1 _ _ hp]
  by_cases h : 4294967296 ≤ n
  · rw [if_pos (by omega), if_pos h]
  · rw [if_neg (by omega), if_neg h, Nat.min_eq_left (by omega)]
def hexS : ByteArray := { data := #[48, 49, 50, 51, 52, 53, 54, 55, 56, 57, 97, 98, 99, 100, 101, 102] }
def octS : ByteArray := { data := #[48, 49, 50, 51, 52, 53, 54, 55] }
theorem hexS_at (d : Nat) (h : d < 16) (h2 : d < hexS.size) : (hexS[d]).toNat = (hexc d).toNat := by
  have hd : d = 0 ∨ d = 1 ∨ d = 2 ∨ d = 3 ∨ d = 4 ∨ d = 5 ∨ d = 6 ∨ d = 7 ∨ d = 8 ∨ d = 9 ∨ d = 10 ∨ d = 11 ∨ d = 12 ∨ d = 13 ∨ d = 14 ∨ d = 15 := by omega
  rcases hd with rfl | rfl | rfl | rfl | rfl | rfl | rfl | rfl | rfl | rfl | rfl | rfl | rfl | rfl | rfl | rfl <;> rfl
theorem octS_at (d : Nat) (h : d < 8) (h2 : d < octS.size) : (octS[d]).toNat = (hexc d).toNat := by
  have hd : d = 0 ∨ d = 1 ∨ d = 2 ∨ d = 3 ∨ d = 4 ∨ d = 5 ∨ d = 6 ∨ d = 7 := by omega
  rcases hd with rfl | rfl | rfl | rfl | rfl | rfl | rfl | rfl <;> rfl
theorem hexS_get (d : Nat) (h : d < 16) : ∃ c : UInt8, c = hexc d ∧ ∀ h2, ({ data := #[48, 49, 50, 51, 52, 53, 54, 55, 56, 57, 97, 98, 99, 100, 101, 102] } : ByteArray)[d]'h2 = c :=
  ⟨_, rfl, fun h2 => UInt8.toNat_inj.1 (hexS_at d h h2)⟩
theorem octS_get (d : Nat) (h : d < 8) : ∃ c : UInt8, c = hexc d ∧ ∀ h2, ({ data := #[48, 49, 50, 51, 52, 53, 54, 55] } : ByteArray)[d]'h2 = c :=
  ⟨_, rfl, fun h2 => UInt8.toNat_inj.1 (octS_at d h h2)⟩
theorem one_u8 (c : UInt8) (W : World) :
    (convert 125 9 (.slice (some ⟨W.heap.size, 0, none⟩) 1 1)).run Tryz.prog (W.alloc (.cells #[.int .u8 (c.toNat : Int)] 5)) = .ok (.string { data := #[c] }) (W.alloc (.cells #[.int .u8 (c.toNat : Int)] 5)) := by
  have := one_byte c.toNat c.toNat_lt W
  rwa [UInt8.ofNat_toNat] at this
theorem one_u8_next (c : UInt8) (W : World) (o : Obj) :
    (convert 125 9 (.slice (some ⟨W.heap.size + 1, 0, none⟩) 1 1)).run Tryz.prog ((W.alloc o).alloc (.cells #[.int .u8 (c.toNat : Int)] 5)) = .ok (.string { data := #[c] }) ((W.alloc o).alloc (.cells #[.int .u8 (c.toNat : Int)] 5)) := by
  have := one_u8 c (W.alloc o)
  rwa [show (W.alloc o).heap.size = W.heap.size + 1 by simp] at this
end Go.Proofs.YtgbajagacmfcmaaGreatDoor
/- Contracts of the functions that cut a text: blank, Trim, the reference's Split, Join; and that the pieces joined are the text. -/
namespace Go.Proofs.YtgbajagacmfcmaaGreatDoor
open Go.RowKit
set_option linter.unusedVariables false
set_option maxRecDepth 20000

def blankC (n : Nat) : Bool := decide (n = 32) || decide (n = 9)

/-- The byte at a place, or 0. -/
def byteAt (s : ByteArray) (k : Nat) : Nat := (s.data.toList.getD k 0).toNat
theorem byteAt_eq (s : ByteArray) (k : Nat) (h : k < s.size) : byteAt s k = (s[k]).toNat := by
  unfold byteAt
  rw [List.getD_eq_getElem?_getD, List.getElem?_eq_getElem (by simpa using h)]; rfl
/-- From k on, past blanks. -/
def skip (s : ByteArray) : Nat → Nat → Nat
  | 0, k => k
  | n + 1, k => if k < s.size ∧ blankC (byteAt s k) = true then skip s n (k + 1) else k
def lead (s : ByteArray) : Nat := skip s s.size 0
/-- From k back, past blanks, not below f. -/
def back (s : ByteArray) (f : Nat) : Nat → Nat
  | 0 => 0
  | k + 1 => if f < k + 1 ∧ blankC (byteAt s k) = true then back s f k else k + 1
def trimB (s : ByteArray) : ByteArray := s.extract (lead s) (back s (lead s) s.size)
theorem skip_le (s : ByteArray) : ∀ n k, k ≤ s.size → k ≤ skip s n k ∧ skip s n k ≤ s.size
  | 0, k, h => ⟨Nat.le_refl _, h⟩
  | n + 1, k, h => by
    unfold skip
    split
    · rename_i hh
      have := skip_le s n (k + 1) (by omega)
      omega
    · omega
theorem skip_stop (s : ByteArray) : ∀ n k, s.size ≤ k + n → skip s n k < s.size → blankC (byteAt s (skip s n k)) = false
  | 0, k, h, hlt => by unfold skip at hlt; omega
  | n + 1, k, h, hlt => by
    by_cases hh : k < s.size ∧ blankC (byteAt s k) = true
    · have e : skip s (n + 1) k = skip s n (k + 1) := by rw [skip, if_pos hh]
      rw [e] at hlt ⊢
      exact skip_stop s n (k + 1) (by omega) hlt
    · have e : skip s (n + 1) k = k := by rw [skip, if_neg hh]
      rw [e] at hlt ⊢
      cases hb : blankC (byteAt s k) with
      | false => rfl
      | true => exact absurd ⟨hlt, hb⟩ hh
theorem back_le (s : ByteArray) (f : Nat) : ∀ k, f ≤ k → f ≤ back s f k ∧ back s f k ≤ k
  | 0, h => ⟨h, Nat.le_refl _⟩
  | k + 1, h => by
    unfold back
    split
    · rename_i hh
      have := back_le s f k (by omega)
      omega
    · omega
theorem back_stop (s : ByteArray) (f : Nat) : ∀ k, f < back s f k → blankC (byteAt s (back s f k - 1)) = false
  | 0, h => by unfold back at h; omega
  | k + 1, h => by
    by_cases hh : f < k + 1 ∧ blankC (byteAt s k) = true
    · have e : back s f (k + 1) = back s f k := by rw [back, if_pos hh]
      rw [e] at h ⊢
      exact back_stop s f k h
    · have e : back s f (k + 1) = k + 1 := by rw [back, if_neg hh]
      rw [e] at h ⊢
      cases hb : blankC (byteAt s k) with
      | false => exact hb
      | true => exact absurd ⟨h, hb⟩ hh
theorem lead_le (s : ByteArray) : lead s ≤ s.size := (skip_le s s.size 0 (Nat.zero_le _)).2
theorem byteAt_extract (s : ByteArray) (f t j : Nat) (h : f + j < t) (ht : t ≤ s.size) : byteAt (s.extract f t) j = byteAt s (f + j) := by
  unfold byteAt
  rw [data_extract]
  simp only [List.getD_eq_getElem?_getD]
  rw [List.getElem?_take_of_lt (by omega), List.getElem?_drop]
theorem lead_zero (s : ByteArray) (h : s.size = 0 ∨ blankC (byteAt s 0) = false) : lead s = 0 := by
  unfold lead
  cases hs : s.size with
  | zero => rfl
  | succ n =>
    rw [skip, if_neg]
    rcases h with h | h
    · omega
    · simp [h]
theorem back_full (s : ByteArray) (k : Nat) (h : k = 0 ∨ blankC (byteAt s (k - 1)) = false) : back s 0 k = k := by
  cases k with
  | zero => rfl
  | succ k =>
    rw [back, if_neg]
    rcases h with h | h
    · omega
    · simp at h; simp [h]
theorem trim_trim (s : ByteArray) : trimB (trimB s) = trimB s := by
  have h1 := lead_le s
  have h2 := back_le s (lead s) s.size h1
  have hz : (trimB s).size = back s (lead s) s.size - lead s := by
    unfold trimB
    simp
    omega
  have hl : lead (trimB s) = 0 := by
    apply lead_zero
    by_cases h0 : (trimB s).size = 0
    · exact .inl h0
    · right
      unfold trimB
      rw [byteAt_extract _ _ _ _ (by omega) (by omega)]
      exact skip_stop s s.size 0 (by omega) (by show lead s < s.size; omega)
  have hb : back (trimB s) 0 (trimB s).size = (trimB s).size := by
    apply back_full
    by_cases h0 : (trimB s).size = 0
    · exact .inl h0
    · right
      have e : byteAt (trimB s) ((trimB s).size - 1) = byteAt s (back s (lead s) s.size - 1) := by
        rw [hz]
        unfold trimB
        rw [byteAt_extract _ _ _ _ (by omega) (by omega)]
        congr 1
        omega
      rw [e]
      exact back_stop s (lead s) s.size (by omega)
  have e : trimB (trimB s) = (trimB s).extract (lead (trimB s)) (back (trimB s) (lead (trimB s)) (trimB s).size) := rfl
  rw [e, hl, hb]
  apply bytes_ext
  rw [data_extract]
  simp only [List.drop_zero, Nat.sub_zero]
  exact List.take_of_length_le (by simp)
theorem skip_step (s : ByteArray) (k : Nat) (h : k < s.size) (hb : blankC (s[k]).toNat = true) : skip s (s.size - k) k = skip s (s.size - (k + 1)) (k + 1) := by
  rw [show s.size - k = (s.size - (k + 1)) + 1 by omega, skip, if_pos ⟨h, by rw [byteAt_eq s k h]; exact hb⟩]
theorem skip_out (s : ByteArray) (k : Nat) (h : ¬ k < s.size ∨ ∃ hk : k < s.size, blankC (s[k]).toNat = false) : skip s (s.size - k) k = k := by
  cases hn : s.size - k with
  | zero => rfl
  | succ n =>
    rw [skip, if_neg]
    rintro ⟨h1, h2⟩
    rcases h with h | ⟨hk, h⟩
    · exact h h1
    · rw [byteAt_eq s k hk, h] at h2
      cases h2
theorem back_step (s : ByteArray) (f t : Nat) (h : f < t + 1) (hk : t < s.size) (hb : blankC (s[t]).toNat = true) : back s f (t + 1) = back s f t := by
  rw [back, if_pos ⟨h, by rw [byteAt_eq s t hk]; exact hb⟩]
theorem back_out (s : ByteArray) (f t : Nat) (hf : f ≤ t) (h : ¬ f < t ∨ ∃ hk : t - 1 < s.size, blankC (s[t - 1]).toNat = false) : back s f t = t := by
  cases t with
  | zero => rfl
  | succ t =>
    rw [back, if_neg]
    rintro ⟨h1, h2⟩
    rcases h with h | ⟨hk, h⟩
    · exact h h1
    · have hk' : t < s.size := by simpa using hk
      rw [byteAt_eq s t hk'] at h2
      have h' : blankC (s[t]).toNat = false := by simpa using h
      rw [h'] at h2
      cases h2

/-- The first k texts with another one between. -/
def joinTo (xs : List ByteArray) (sep : ByteArray) : Nat → ByteArray
  | 0 => { data := #[] }
  | k + 1 => (if 0 < k then joinTo xs sep k ++ sep else joinTo xs sep k) ++ xs.getD k { data := #[] }
theorem joinTo_mono (xs : List ByteArray) (sep : ByteArray) (k : Nat) : ∀ m, (joinTo xs sep k).size ≤ (joinTo xs sep (k + m)).size
  | 0 => Nat.le_refl _
  | m + 1 => by
    have := joinTo_mono xs sep k m
    rw [← Nat.add_assoc, joinTo, ByteArray.size_append]
    split
    · rw [ByteArray.size_append]; omega
    · omega
theorem joinTo_piece (xs : List ByteArray) (sep : ByteArray) (k : Nat) : (xs.getD k { data := #[] }).size ≤ (joinTo xs sep (k + 1)).size := by
  rw [joinTo, ByteArray.size_append]; omega

/-- All of them. -/
def joinB (xs : List ByteArray) (sep : ByteArray) : ByteArray := joinTo xs sep xs.length
theorem joinTo_front (xs : List ByteArray) (sep x : ByteArray) : ∀ k, k ≤ xs.length → joinTo (xs ++ [x]) sep k = joinTo xs sep k
  | 0, _ => rfl
  | k + 1, h => by
    have e : (xs ++ [x]).getD k { data := #[] } = xs.getD k { data := #[] } := by
      simp only [List.getD_eq_getElem?_getD]
      rw [List.getElem?_append_left (by omega)]
    rw [joinTo, joinTo, joinTo_front xs sep x k (by omega), e]
theorem joinB_snoc (xs : List ByteArray) (sep x : ByteArray) : joinB (xs ++ [x]) sep = (if 0 < xs.length then joinB xs sep ++ sep else joinB xs sep) ++ x := by
  have e : (xs ++ [x]).getD xs.length { data := #[] } = x := by simp [List.getD_eq_getElem?_getD]
  unfold joinB
  rw [List.length_append, List.length_singleton, joinTo, joinTo_front xs sep x xs.length (Nat.le_refl _), e]
theorem take_more (l : List UInt8) (f k : Nat) (h : f ≤ k) : l.take f ++ (l.drop f).take (k - f) = l.take k := by
  rw [← List.take_add, Nat.add_sub_cancel' h]
theorem sp_join (s : ByteArray) (sep : Nat) (hsep : sep < 256) : ∀ k, k ≤ s.size →
    ((sp s sep k).1 = [] ∧ (sp s sep k).2 = 0) ∨ (0 < (sp s sep k).1.length ∧ (joinB (sp s sep k).1 { data := #[UInt8.ofNat sep] }).data.toList ++ [UInt8.ofNat sep] = s.data.toList.take (sp s sep k).2)
  | 0, _ => .inl ⟨rfl, rfl⟩
  | k + 1, h => by
    have ih := sp_join s sep hsep k (by omega)
    have hle := sp_le s sep k
    by_cases hit : (s[k]).toNat = sep
    · rw [sp_hit s sep k (by omega) hit]
      right
      refine ⟨by simp, ?_⟩
      have hlast : s.data.toList.take (k + 1) = s.data.toList.take k ++ [UInt8.ofNat sep] := by
        rw [List.take_succ_eq_append_getElem (by simp; omega)]
        congr 2
        rw [← hit]
        exact (UInt8.ofNat_toNat).symm
      rw [joinB_snoc, data_append, data_extract, hlast]
      congr 1
      rcases ih with ⟨h1, h2⟩ | ⟨h1, h2⟩
      · rw [h1, h2]
        simp [joinB, joinTo]
      · rw [if_pos h1, data_append]
        show (_ ++ [UInt8.ofNat sep]) ++ _ = _
        rw [h2, take_more _ _ _ hle.1]
    · rw [sp_miss s sep k (by omega) hit]
      exact ih
theorem pieces_join (s : ByteArray) (sep : Nat) (hsep : sep < 256) : joinB (pieces s sep) { data := #[UInt8.ofNat sep] } = s := by
  have hle := sp_le s sep s.size
  apply bytes_ext
  unfold pieces
  rw [joinB_snoc, data_append, data_extract]
  have hall : s.data.toList.take s.size = s.data.toList := List.take_of_length_le (by simp)
  rcases sp_join s sep hsep s.size (Nat.le_refl _) with ⟨h1, h2⟩ | ⟨h1, h2⟩
  · rw [h1, h2]
    simp [joinB, joinTo]
    exact hall
  · rw [if_pos h1, data_append]
    show (_ ++ [UInt8.ofNat sep]) ++ _ = _
    rw [h2, take_more _ _ _ hle.1, hall]
end Go.Proofs.YtgbajagacmfcmaaGreatDoor
/- Contracts of the reference's Run, Mapped, group, row of layer 3. -/
namespace Go.Proofs.YtgbajagacmfcmaaGreatDoor
open Go.RowKit
set_option linter.unusedVariables false
set_option maxRecDepth 20000

/-- A group's digits. -/
def groupL (n : Nat) : List UInt8 := if n < 16 then [hexc n] else groupL (n / 16) ++ [hexc (n % 16)]
termination_by n
decreasing_by omega
theorem groupL_one {n : Nat} (h : n < 16) : groupL n = [hexc n] := by rw [groupL, if_pos h]
theorem groupL_more {n : Nat} (h : ¬ n < 16) : groupL n = groupL (n / 16) ++ [hexc (n % 16)] := by rw [groupL, if_neg h]
theorem groupL_length (n : Nat) (h : n < 65536) : 0 < (groupL n).length ∧ (groupL n).length ≤ 4 := by
  by_cases h1 : n < 16
  · rw [groupL_one h1]; simp
  · by_cases h2 : n / 16 < 16
    · rw [groupL_more h1, groupL_one h2]; simp
    · by_cases h3 : n / 16 / 16 < 16
      · rw [groupL_more h1, groupL_more h2, groupL_one h3]; simp
      · rw [groupL_more h1, groupL_more h2, groupL_more h3, groupL_one (by omega)]; simp
theorem hexS_cut (d : Nat) (h : d < 16) : ∃ D : ByteArray, D = ofL [hexc d] ∧ ({ data := #[48, 49, 50, 51, 52, 53, 54, 55, 56, 57, 97, 98, 99, 100, 101, 102] } : ByteArray).extract d (d + 1) = D := by
  refine ⟨_, rfl, ?_⟩
  have hd : d = 0 ∨ d = 1 ∨ d = 2 ∨ d = 3 ∨ d = 4 ∨ d = 5 ∨ d = 6 ∨ d = 7 ∨ d = 8 ∨ d = 9 ∨ d = 10 ∨ d = 11 ∨ d = 12 ∨ d = 13 ∨ d = 14 ∨ d = 15 := by omega
  rcases hd with rfl | rfl | rfl | rfl | rfl | rfl | rfl | rfl | rfl | rfl | rfl | rfl | rfl | rfl | rfl | rfl <;> decide

theorem Arr8.new (w : World) (t : TypeId) (x0 x1 x2 x3 x4 x5 x6 x7 : Nat) : Arr8 (w.alloc (.cells #[.int .u16 (x0 : Int), .int .u16 (x1 : Int), .int .u16 (x2 : Int), .int .u16 (x3 : Int), .int .u16 (x4 : Int), .int .u16 (x5 : Int), .int .u16 (x6 : Int), .int .u16 (x7 : Int)] t)) w.heap.size [x0, x1, x2, x3, x4, x5, x6, x7] := by
  refine ⟨rfl, by simp, ?_, ?_⟩
  · intro j hj
    have : j = 0 ∨ j = 1 ∨ j = 2 ∨ j = 3 ∨ j = 4 ∨ j = 5 ∨ j = 6 ∨ j = 7 := by omega
    rcases this with rfl | rfl | rfl | rfl | rfl | rfl | rfl | rfl <;> simp [World.cell?_alloc_new]
  · intro j hj
    exact World.frozen?_alloc_new _ _ _ _
theorem arr8_eq (x0 x1 x2 x3 x4 x5 x6 x7 : Nat) : arr8 [x0, x1, x2, x3, x4, x5, x6, x7] = .agg #[.int .u16 (x0 : Int), .int .u16 (x1 : Int), .int .u16 (x2 : Int), .int .u16 (x3 : Int), .int .u16 (x4 : Int), .int .u16 (x5 : Int), .int .u16 (x6 : Int), .int .u16 (x7 : Int)] := rfl

/-- The first k groups are 0. -/
def zer (gs : List Nat) : Nat → Bool
  | 0 => true
  | k + 1 => zer gs k && decide (gs.getD k 0 = 0)
theorem zer_false (gs : List Nat) (k : Nat) (h : zer gs k = false) : ∀ m, zer gs (k + m) = false
  | 0 => h
  | m + 1 => by rw [← Nat.add_assoc, zer, zer_false gs k h m]; rfl
def mappedB (gs : List Nat) : Bool := zer gs 5 && decide (gs.getD 5 0 = 65535)

set_option maxHeartbeats 1000000 in
theorem refMapped_any (gs : List Nat) (w : World) (h8 : gs.length = 8) (hlt : ∀ x ∈ gs, x < 65536) :
    Calls Tryz.prog 35 #[arr8 gs] w fun e w' => e = .returned (.bool (mappedB gs)) ∧ Below w.heap.size w w' := by
  obtain ⟨x0, x1, x2, x3, x4, x5, x6, x7, hgs⟩ := list8 gs h8
  have hA := Arr8.new w 79 x0 x1 x2 x3 x4 x5 x6 x7
  have hb : Below w.heap.size w (w.alloc (.cells #[.int .u16 (x0 : Int), .int .u16 (x1 : Int), .int .u16 (x2 : Int), .int .u16 (x3 : Int), .int .u16 (x4 : Int), .int .u16 (x5 : Int), .int .u16 (x6 : Int), .int .u16 (x7 : Int)] 79)) := (Below.refl _ _).alloc (Nat.le_refl _) _
  rw [← hgs] at hA
  rw [show arr8 gs = .agg #[.int .u16 (x0 : Int), .int .u16 (x1 : Int), .int .u16 (x2 : Int), .int .u16 (x3 : Int), .int .u16 (x4 : Int), .int .u16 (x5 : Int), .int .u16 (x6 : Int), .int .u16 (x7 : Int)] by rw [hgs]; rfl]
  clear hgs
  go_enter Tryz.func35, Tryz.ntmps35
  go_wp2_with fail
  generalize w.alloc (.cells #[.int .u16 (x0 : Int), .int .u16 (x1 : Int), .int .u16 (x2 : Int), .int .u16 (x3 : Int), .int .u16 (x4 : Int), .int .u16 (x5 : Int), .int .u16 (x6 : Int), .int .u16 (x7 : Int)] 79) = W at *
  have HA := Lib.hid hA
  clear hA
  go_loop [3] (fun i => ∃ k : Nat, k ≤ 5 ∧ i = .int .i64 k ∧ Hid (zer gs k = true)) (fun i => 5 - (intOf i).toNat)
  case atStart => exact ⟨0, by decide, rfl, Lib.hid rfl⟩
  case round =>
    obtain ⟨k, hk, rfl, HK⟩ := hrel
    by_cases hk5 : k < 5
    · have hcell := HA.out.cells k (by omega)
      obtain ⟨x, ex⟩ : ∃ x, gs.getD k 0 = x := ⟨_, rfl⟩
      rw [ex] at hcell
      have HX := Lib.hid ex
      clear ex
      by_cases h0 : x = 0
      · have HT : Hid (zer gs (k + 1) = true) := Lib.hid (by rw [zer, HK.out, HX.out, h0]; rfl)
        have hx0 : ((x : Int) != 0) = false := by simp; omega
        clear h0
        go_wp2_with fail
        go_round
        case rel => exact ⟨k + 1, by omega, by go_num, HT⟩
        case measure => simp [intOf]; omega
      · have HT : Hid (zer gs 5 = false) := Lib.hid (by
          have := zer_false gs (k + 1) (by rw [zer, HK.out, HX.out]; simp [h0]) (5 - (k + 1))
          rwa [show k + 1 + (5 - (k + 1)) = 5 by omega] at this)
        have hx0 : ((x : Int) != 0) = true := by simp; omega
        clear h0
        go_wp2_with fail
        go_ret
        exact ⟨bool_ret (by unfold mappedB; rw [HT.out]; rfl), hb⟩
    · obtain rfl : k = 5 := by omega
      have hcell := HA.out.cells 5 (by decide)
      obtain ⟨x, ex⟩ : ∃ x, gs.getD 5 0 = x := ⟨_, rfl⟩
      rw [ex] at hcell
      have HX := Lib.hid ex
      clear ex
      go_wp2_with fail
      go_ret
      exact ⟨bool_ret (by unfold mappedB; rw [HK.out, HX.out, Bool.true_and, Bool.eq_iff_iff]; simp; omega), hb⟩

/-- How many groups are 0 from the i-th on. -/
def zl (gs : List Nat) : Nat → Nat → Nat
  | 0, _ => 0
  | f + 1, i => if gs.getD i 0 = 0 then zl gs f (i + 1) + 1 else 0
def zrun (gs : List Nat) (i : Nat) : Nat := zl gs (8 - i) i
theorem zl_le (gs : List Nat) : ∀ f i, zl gs f i ≤ f
  | 0, _ => Nat.le_refl _
  | f + 1, i => by
    rw [zl]
    split
    · have := zl_le gs f (i + 1); omega
    · omega
theorem zrun_le (gs : List Nat) (i : Nat) : zrun gs i ≤ 8 - i := zl_le gs _ _
theorem zrun_zero {gs : List Nat} {i : Nat} (h : i < 8) (h0 : gs.getD i 0 = 0) : zrun gs i = zrun gs (i + 1) + 1 := by
  unfold zrun
  rw [show 8 - i = (8 - (i + 1)) + 1 by omega, zl, if_pos h0]
theorem zrun_stop {gs : List Nat} {i : Nat} (h : ¬ i < 8 ∨ ¬ gs.getD i 0 = 0) : zrun gs i = 0 := by
  unfold zrun
  by_cases h8 : i < 8
  · rw [show 8 - i = (8 - (i + 1)) + 1 by omega, zl, if_neg (by rcases h with h | h; omega; exact h)]
  · rw [show 8 - i = 0 by omega, zl]
/-- The first of the longest rows of two zeros or more, among those that begin in the first k places. -/
def runTo (gs : List Nat) : Nat → Nat × Nat
  | 0 => (0, 0)
  | k + 1 => if 2 ≤ zrun gs k ∧ (runTo gs k).2 < zrun gs k then (k, zrun gs k) else runTo gs k
def runB (gs : List Nat) : Nat × Nat := runTo gs 8
theorem runTo_le (gs : List Nat) : ∀ k, k ≤ 8 → (runTo gs k).1 + (runTo gs k).2 ≤ 8
  | 0, _ => by simp [runTo]
  | k + 1, h => by
    rw [runTo]
    split
    · have := zrun_le gs k; simp only; omega
    · exact runTo_le gs k (by omega)
def runRet (p : Nat × Nat) : Value := .tuple #[.int .i64 ((p.1 : Nat) : Int), .int .i64 ((p.2 : Nat) : Int)]
theorem run_ret {o p : Nat × Nat} (h : o = p) : Ending.returned (runRet o) = .returned (runRet p) := by rw [h]

end Go.Proofs.YtgbajagacmfcmaaGreatDoor
/- Contract of the reference's Unmap of layer 4. -/
namespace Go.Proofs.YtgbajagacmfcmaaGreatDoor
open Go.RowKit
set_option linter.unusedVariables false
set_option maxRecDepth 20000

/-- Is it a mapped one? -/
def isMap (f : Int) (bs : List Nat) : Bool := f == 6 && mappedB (grL bs 8)
def unmapF (f : Int) (bs : List Nat) : Int := if isMap f bs then 4 else f
def unmapB (f : Int) (bs : List Nat) : List Nat := if isMap f bs then b4 ((grL bs 8).getD 6 0 * 65536 + (grL bs 8).getD 7 0) else bs
set_option maxRecDepth 100000 in
set_option maxHeartbeats 1000000 in
theorem refUnmap_any (f : Int) (bs : List Nat) (w : World) (h16 : bs.length = 16) (hlt : ∀ x ∈ bs, x < 256) :
    Calls Tryz.prog 20 #[addrV f bs] w fun e w' => e = .returned (addrV (unmapF f bs) (unmapB f bs)) ∧ Below w.heap.size w w' := by
  have H16 := Lib.hid h16
  have HG := fun W => Lib.hid (refGroups4_any f bs W h16 hlt)
  have hgl := grL_lt bs hlt 8
  have HM := fun W => Lib.hid (refMapped_any (grL bs 8) W (grL_len bs 8) hgl)
  obtain ⟨x0, x1, x2, x3, x4, x5, x6, x7, hgs⟩ := list8 (grL bs 8) (grL_len bs 8)
  have hg : arr8 (grL bs 8) = .agg #[.int .u16 (x0 : Int), .int .u16 (x1 : Int), .int .u16 (x2 : Int), .int .u16 (x3 : Int), .int .u16 (x4 : Int), .int .u16 (x5 : Int), .int .u16 (x6 : Int), .int .u16 (x7 : Int)] := by rw [hgs]; rfl
  have hx6 : x6 < 65536 := hgl x6 (by rw [hgs]; simp)
  have hx7 : x7 < 65536 := hgl x7 (by rw [hgs]; simp)
  obtain ⟨n, hn, en⟩ : ∃ n : Nat, x6 * 65536 + x7 = n ∧ (x6 : Int) * 65536 + (x7 : Int) = (n : Int) := ⟨_, rfl, by omega⟩
  have q1 : IntKind.u32.wrap ((x6 : Int) * 65536) = (x6 : Int) * 65536 := by rw [IntKind.wrap_u32]; omega
  have q2 : IntKind.u32.wrap (n : Int) = (n : Int) := by rw [IntKind.wrap_u32]; omega
  have HO := fun W => Lib.hid (refOf4_any n W (by omega))
  have HE1 : Hid (isMap f bs = true → unmapF f bs = 4 ∧ unmapB f bs = b4 n) := Lib.hid (fun h => ⟨if_pos h, by unfold unmapB; rw [if_pos h, hgs, ← hn]; rfl⟩)
  have HE2 : Hid (isMap f bs = false → unmapF f bs = f ∧ unmapB f bs = bs) := Lib.hid (fun h => ⟨if_neg (by rw [h]; decide), if_neg (by rw [h]; decide)⟩)
  rw [hg] at HM HG
  obtain ⟨m, hm⟩ : ∃ m, mappedB (grL bs 8) = m := ⟨_, rfl⟩
  rw [hm] at HM
  have HIM : Hid (isMap f bs = (f == 6 && m)) := Lib.hid (by rw [isMap, hm])
  clear hg hgs hgl hm hn
  obtain ⟨y0, y1, y2, y3, y4, y5, y6, y7, y8, y9, y10, y11, y12, y13, y14, y15, hbs⟩ := list16 bs h16
  have ha : addrV f bs = .agg #[.int .i64 f, .int .u8 (y0 : Int), .int .u8 (y1 : Int), .int .u8 (y2 : Int), .int .u8 (y3 : Int), .int .u8 (y4 : Int), .int .u8 (y5 : Int), .int .u8 (y6 : Int), .int .u8 (y7 : Int), .int .u8 (y8 : Int), .int .u8 (y9 : Int), .int .u8 (y10 : Int), .int .u8 (y11 : Int), .int .u8 (y12 : Int), .int .u8 (y13 : Int), .int .u8 (y14 : Int), .int .u8 (y15 : Int)] := by rw [hbs]; rfl
  have hA := AddrAt.new w 24 f y0 y1 y2 y3 y4 y5 y6 y7 y8 y9 y10 y11 y12 y13 y14 y15
  rw [← hbs] at hA
  have hR := AddrAt.of (w.alloc (.cells #[.int .i64 f, .int .u8 (y0 : Int), .int .u8 (y1 : Int), .int .u8 (y2 : Int), .int .u8 (y3 : Int), .int .u8 (y4 : Int), .int .u8 (y5 : Int), .int .u8 (y6 : Int), .int .u8 (y7 : Int), .int .u8 (y8 : Int), .int .u8 (y9 : Int), .int .u8 (y10 : Int), .int .u8 (y11 : Int), .int .u8 (y12 : Int), .int .u8 (y13 : Int), .int .u8 (y14 : Int), .int .u8 (y15 : Int)] 24)) 24 #[.int .i64 0, .int .u8 0, .int .u8 0, .int .u8 0, .int .u8 0, .int .u8 0, .int .u8 0, .int .u8 0, .int .u8 0, .int .u8 0, .int .u8 0, .int .u8 0, .int .u8 0, .int .u8 0, .int .u8 0, .int .u8 0, .int .u8 0] 0 (List.replicate 16 0) rfl (zero_addr 0)
  have b1 : Below w.heap.size w (w.alloc (.cells #[.int .i64 f, .int .u8 (y0 : Int), .int .u8 (y1 : Int), .int .u8 (y2 : Int), .int .u8 (y3 : Int), .int .u8 (y4 : Int), .int .u8 (y5 : Int), .int .u8 (y6 : Int), .int .u8 (y7 : Int), .int .u8 (y8 : Int), .int .u8 (y9 : Int), .int .u8 (y10 : Int), .int .u8 (y11 : Int), .int .u8 (y12 : Int), .int .u8 (y13 : Int), .int .u8 (y14 : Int), .int .u8 (y15 : Int)] 24)) := (Below.refl _ _).alloc (Nat.le_refl _) _
  have HB := Lib.hid (b1.alloc b1.size (.cells #[.int .i64 0, .int .u8 0, .int .u8 0, .int .u8 0, .int .u8 0, .int .u8 0, .int .u8 0, .int .u8 0, .int .u8 0, .int .u8 0, .int .u8 0, .int .u8 0, .int .u8 0, .int .u8 0, .int .u8 0, .int .u8 0, .int .u8 0] 24))
  have e1 : (w.alloc (.cells #[.int .i64 f, .int .u8 (y0 : Int), .int .u8 (y1 : Int), .int .u8 (y2 : Int), .int .u8 (y3 : Int), .int .u8 (y4 : Int), .int .u8 (y5 : Int), .int .u8 (y6 : Int), .int .u8 (y7 : Int), .int .u8 (y8 : Int), .int .u8 (y9 : Int), .int .u8 (y10 : Int), .int .u8 (y11 : Int), .int .u8 (y12 : Int), .int .u8 (y13 : Int), .int .u8 (y14 : Int), .int .u8 (y15 : Int)] 24)).heap.size = w.heap.size + 1 := by simp
  rw [e1] at hR
  have HP2 := Lib.hid (hA.below ((Below.refl _ _).alloc (Nat.le_refl _) (.cells #[.int .i64 0, .int .u8 0, .int .u8 0, .int .u8 0, .int .u8 0, .int .u8 0, .int .u8 0, .int .u8 0, .int .u8 0, .int .u8 0, .int .u8 0, .int .u8 0, .int .u8 0, .int .u8 0, .int .u8 0, .int .u8 0, .int .u8 0] 24)))
  have HR2 := Lib.hid hR
  rw [ha]
  clear hR hA b1 ha hbs h16 hlt e1
  go_enter Tryz.func20, Tryz.ntmps20
  go_wp2_with (refine load_addr HP2 _ rfl rfl rfl ?_)
  generalize ((w.alloc (.cells #[.int .i64 f, .int .u8 (y0 : Int), .int .u8 (y1 : Int), .int .u8 (y2 : Int), .int .u8 (y3 : Int), .int .u8 (y4 : Int), .int .u8 (y5 : Int), .int .u8 (y6 : Int), .int .u8 (y7 : Int), .int .u8 (y8 : Int), .int .u8 (y9 : Int), .int .u8 (y10 : Int), .int .u8 (y11 : Int), .int .u8 (y12 : Int), .int .u8 (y13 : Int), .int .u8 (y14 : Int), .int .u8 (y15 : Int)] 24)).alloc (.cells #[.int .i64 0, .int .u8 0, .int .u8 0, .int .u8 0, .int .u8 0, .int .u8 0, .int .u8 0, .int .u8 0, .int .u8 0, .int .u8 0, .int .u8 0, .int .u8 0, .int .u8 0, .int .u8 0, .int .u8 0, .int .u8 0, .int .u8 0] 24)) = W at *
  refine (HG W).out.mono ?_
  rintro e w1 ⟨rfl, hb1⟩
  have HGA := Lib.hid (Arr8.of8 w1 79 x0 x1 x2 x3 x4 x5 x6 x7)
  have ba : Below w1.heap.size w1 (w1.alloc (.cells #[.int .u16 (x0 : Int), .int .u16 (x1 : Int), .int .u16 (x2 : Int), .int .u16 (x3 : Int), .int .u16 (x4 : Int), .int .u16 (x5 : Int), .int .u16 (x6 : Int), .int .u16 (x7 : Int)] 79)) := (Below.refl _ _).alloc (Nat.le_refl _) _
  have HP3 := Lib.hid ((HP2.out.below hb1).below ba)
  have HR3 := Lib.hid ((HR2.out.below hb1).below ba)
  have HB3 := Lib.hid (chain (chain HB.out hb1) ba)
  clear HP2 HR2 HB hb1 ba HG
  go_wp2_with fail
  generalize hC : w1.heap.size = C at *
  generalize (w1.alloc (.cells #[.int .u16 (x0 : Int), .int .u16 (x1 : Int), .int .u16 (x2 : Int), .int .u16 (x3 : Int), .int .u16 (x4 : Int), .int .u16 (x5 : Int), .int .u16 (x6 : Int), .int .u16 (x7 : Int)] 79)) = W1 at *
  refine (HM W1).out.mono ?_
  rintro e w2 ⟨rfl, hb2⟩
  have HGA2 := Lib.hid (HGA.out.below hb2)
  have HP4 := Lib.hid (HP3.out.below hb2)
  have HR4 := Lib.hid (HR3.out.below hb2)
  have HB4 := Lib.hid (chain HB3.out hb2)
  clear HGA HP3 HR3 HB3 hb2 HM hC
  have hfam := HP4.out.fam
  obtain ⟨c0, c1, c2, c3, c4, c5, c6, c7⟩ := HGA2.out.all
  clear c0 c1 c2 c3 c4 c5
  have back : ∀ (hi : isMap f bs = false), unmapF f bs = f ∧ unmapB f bs = bs := HE2.out
  have HBK := Lib.hid back
  clear back
  by_cases h6 : f = 6
  · cases m with
    | true =>
      have hI : isMap f bs = true := by rw [HIM.out, h6]; rfl
      have EE := Lib.hid (HE1.out hI)
      subst h6
      clear hI HBK HE1 HE2 HIM
      go_wp2_with fail
      refine (HO w2).out.mono ?_
      rintro e w3 ⟨rfl, hb3⟩
      have HR5 := Lib.hid (HR4.out.below hb3)
      have hbel := chain HB4.out hb3
      have HLN := Lib.hid (b4_len n)
      go_wp2_with (refine store_addr HR5 _ _ HLN rfl rfl rfl rfl (fun W HW HA => ?_))
      refine bodyPost_ret (v := addrV 4 (b4 n)) (results_addr Tryz.results20 rfl HA.out) rfl ⟨by rw [EE.out.1, EE.out.2], by rw [HW.out]; exact below_cells (by omega) _ _ _ hbel⟩
    | false =>
      have EE := Lib.hid (HBK.out (by rw [HIM.out]; simp))
      subst h6
      clear HBK HE1 HE2 HIM HO
      go_wp2_with (first | refine load_addr HP4 _ rfl rfl rfl ?_ | (refine store_addr HR4 _ _ H16 rfl rfl rfl rfl (fun W HW HA => ?_)))
      refine bodyPost_ret (v := addrV 6 bs) (results_addr Tryz.results20 rfl HA.out) rfl ⟨by rw [EE.out.1, EE.out.2], by rw [HW.out]; exact below_cells (by omega) _ _ _ HB4.out⟩
  · have EE := Lib.hid (HBK.out (by rw [HIM.out]; simp [h6]))
    clear HBK HE1 HE2 HIM HO
    have n6 : (f != 6) = true := by simp [h6]
    go_wp2_with (first | refine load_addr HP4 _ rfl rfl rfl ?_ | (refine store_addr HR4 _ _ H16 rfl rfl rfl rfl (fun W HW HA => ?_)))
    refine bodyPost_ret (v := addrV f bs) (results_addr Tryz.results20 rfl HA.out) rfl ⟨by rw [EE.out.1, EE.out.2], by rw [HW.out]; exact below_cells (by omega) _ _ _ HB4.out⟩
end Go.Proofs.YtgbajagacmfcmaaGreatDoor
/- Contracts of the functions that make letters small and hold texts against one another: small, Lower, Like. -/
namespace Go.Proofs.YtgbajagacmfcmaaGreatDoor
open Go.RowKit
set_option linter.unusedVariables false
set_option maxRecDepth 20000

/-- A byte, as the small letter if it is a great one. -/
def lowC (n : Nat) : Nat := if 65 ≤ n ∧ n ≤ 90 then n + 32 else n
theorem lowC_le {n : Nat} (h : n < 256) : lowC n < 256 := by unfold lowC; split <;> omega
theorem lowC_low (n : Nat) : lowC (lowC n) = lowC n := by
  by_cases h : 65 ≤ n ∧ n ≤ 90
  · have e : lowC n = n + 32 := by unfold lowC; rw [if_pos h]
    rw [e]; unfold lowC; rw [if_neg (by omega)]
  · have e : lowC n = n := by unfold lowC; rw [if_neg h]
    rw [e, e]
def lowU (c : UInt8) : UInt8 := UInt8.ofNat (lowC c.toNat)
theorem lowU_toNat (c : UInt8) : (lowU c).toNat = lowC c.toNat := by
  unfold lowU
  rw [UInt8.toNat_ofNat']
  exact Nat.mod_eq_of_lt (lowC_le c.toNat_lt)
theorem lowU_low (c : UInt8) : lowU (lowU c) = lowU c := by
  apply UInt8.toNat_inj.1
  rw [lowU_toNat, lowU_toNat, lowC_low]
/-- A text with small letters. -/
def lowB (s : ByteArray) : ByteArray := ⟨(s.data.toList.map lowU).toArray⟩
theorem lowB_list (s : ByteArray) : (lowB s).data.toList = s.data.toList.map lowU := by simp [lowB]
theorem lowB_size (s : ByteArray) : (lowB s).size = s.size := by
  have : (lowB s).data.toList.length = s.data.toList.length := by rw [lowB_list]; simp
  simpa using this
theorem lowB_low (s : ByteArray) : lowB (lowB s) = lowB s := by
  apply bytes_ext
  rw [lowB_list, lowB_list, List.map_map]
  congr 1
  funext c
  exact lowU_low c
def likeB (a b : ByteArray) : Bool := (lowB a).toList == (lowB b).toList
theorem likeB_iff (a b : ByteArray) : likeB a b = true ↔ a.data.toList.map lowU = b.data.toList.map lowU := by
  unfold likeB
  rw [beq_iff_eq, ByteArray.toList_eq, ByteArray.toList_eq, lowB_list, lowB_list]
theorem likeB_symm (a b : ByteArray) : likeB a b = likeB b a := by
  rw [Bool.eq_iff_iff, likeB_iff, likeB_iff]
  exact eq_comm
theorem likeB_low (a : ByteArray) : likeB a (lowB a) = true := by
  rw [likeB_iff, lowB_list, List.map_map]
  congr 1
  funext c
  exact (lowU_low c).symm
theorem likeB_size {a b : ByteArray} (h : a.size ≠ b.size) : likeB a b = false := by
  cases hl : likeB a b with
  | false => rfl
  | true =>
    rw [likeB_iff] at hl
    have := congrArg List.length hl
    simp at this
    omega
def LikeTo (a b : ByteArray) (k : Nat) : Prop := ∀ j (ha : j < a.size) (hb : j < b.size), j < k → lowC (a[j]).toNat = lowC (b[j]).toNat
theorem likeTo_zero (a b : ByteArray) : LikeTo a b 0 := fun _ _ _ h => by omega
theorem likeTo_succ {a b : ByteArray} {k : Nat} (h : LikeTo a b k) (ha : k < a.size) (hb : k < b.size) (he : lowC (a[k]).toNat = lowC (b[k]).toNat) : LikeTo a b (k + 1) := by
  intro j ja jb hlt
  by_cases e : j = k
  · subst e; exact he
  · exact h j ja jb (by omega)
theorem likeB_true {a b : ByteArray} {k : Nat} (h : LikeTo a b k) (hs : a.size = b.size) (hk : a.size ≤ k) : likeB a b = true := by
  rw [likeB_iff]
  apply List.ext_getElem
  · simpa using hs
  · intro j h1 h2
    have j1 : j < a.size := by simpa using h1
    have j2 : j < b.size := by simpa using h2
    rw [List.getElem_map, List.getElem_map]
    apply UInt8.toNat_inj.1
    rw [lowU_toNat, lowU_toNat]
    exact h j j1 j2 (by omega)
theorem likeB_false {a b : ByteArray} {k : Nat} (ha : k < a.size) (hb : k < b.size) (he : lowC (a[k]).toNat ≠ lowC (b[k]).toNat) : likeB a b = false := by
  cases hl : likeB a b with
  | false => rfl
  | true =>
    rw [likeB_iff] at hl
    have h1 : (a.data.toList.map lowU)[k]? = (b.data.toList.map lowU)[k]? := by rw [hl]
    rw [List.getElem?_eq_getElem (by simpa using ha), List.getElem?_eq_getElem (by simpa using hb), List.getElem_map, List.getElem_map] at h1
    have h2 := congrArg UInt8.toNat (Option.some.inj h1)
    rw [lowU_toNat, lowU_toNat] at h2
    exact absurd h2 he

/-- The row of bytes that Lower works on, its first k bytes made small. -/
def LowAt (w : World) (s : ByteArray) (k : Nat) (wr : World) : Prop :=
  Below w.heap.size w wr ∧ w.heap.size < wr.heap.size ∧ ∀ j (hj : j < s.size), wr.cell? ⟨w.heap.size, j, none⟩ = some (.int .u8 ((if j < k then lowC (s[j]).toNat else (s[j]).toNat : Nat) : Int)) ∧ wr.frozen? ⟨w.heap.size, j, none⟩ = false
theorem lowAt_start (w : World) (s : ByteArray) : LowAt w s 0 (Lib.bytesWorld w 5 s) := by
  refine ⟨⟨rfl, rfl, rfl, by rw [Lib.bytesWorld_size]; omega, fun k hk => Lib.bytesWorld_at_old w _ s k hk⟩, by rw [Lib.bytesWorld_size]; omega, fun j hj => ⟨?_, ?_⟩⟩
  · rw [Lib.bytesWorld_cell w _ s j hj, if_neg (by omega)]
    have e : s.data.toList.getD j 0 = s[j] := by
      rw [List.getD_eq_getElem?_getD, List.getElem?_eq_getElem (by simpa using hj)]; rfl
    rw [e]
  · unfold World.frozen?
    rw [Lib.bytesWorld_at_new]
    have : s.size ≤ (Lib.bytesCells w 5 s).size := by simp [Lib.bytesCells]
    simp
    omega
theorem lowAt_step {w : World} {s : ByteArray} {k : Nat} {wr : World} (h : LowAt w s k wr) (hk : k < s.size) : LowAt w s (k + 1) (wr.setCell ⟨w.heap.size, k, none⟩ (.int .u8 ((lowC (s[k]).toNat : Nat) : Int))) := by
  obtain ⟨h1, h2, h3⟩ := h
  refine ⟨h1.setCell (Nat.le_refl _) _, by simpa [World.setCell] using h2, fun j hj => ⟨?_, by rw [World.frozen?_setCell]; exact (h3 j hj).2⟩⟩
  by_cases e : j = k
  · subst e
    rw [World.cell?_setCell_same _ _ _ (h3 j hj).1, if_pos (by omega)]
  · rw [World.cell?_setCell_other _ _ _ _ (by intro h; injection h; omega), (h3 j hj).1]
    by_cases hlt : j < k
    · rw [if_pos hlt, if_pos (by omega)]
    · rw [if_neg hlt, if_neg (by omega)]
theorem lowAt_back {w : World} {s : ByteArray} {wr : World} (cap : Nat) (h : LowAt w s s.size wr) :
    (convert 125 9 (.slice (some ⟨w.heap.size, 0, none⟩) s.size cap)).run Tryz.prog wr = .ok (.string (lowB s)) wr := by
  have hl : (s.data.toList.map lowU).length = s.size := by simp
  have hb := run_convert_bytes_back (P := Tryz.prog) wr 125 9 5 ⟨w.heap.size, 0, none⟩ cap (s.data.toList.map lowU) Tryz.underlying125 Tryz.underlying5 Tryz.underlying9 (by
    intro j hj
    have hj' : j < s.size := by omega
    have := (h.2.2 j hj').1
    rw [if_pos hj'] at this
    rw [List.getElem_map, lowU_toNat]
    rw [add_none]
    exact this)
  rw [hl] at hb
  exact hb

theorem low_snoc (s : ByteArray) (k : Nat) (h : k < s.size) : (s.data.toList.map lowU).take (k + 1) = (s.data.toList.map lowU).take k ++ [lowU s[k]] := by
  rw [List.take_succ_eq_append_getElem (by simpa using h)]
  simp
  rfl

end Go.Proofs.YtgbajagacmfcmaaGreatDoor
/- Contracts of the reference's layer 7: Add, Of, Name, Parse. -/
namespace Go.Proofs.YtgbajagacmfcmaaGreatDoor
open Go.RowKit
set_option linter.unusedVariables false
set_option maxRecDepth 20000

/-- Entries of spaces: one more is added. -/
def addE (es : List Ent) (f : Int) (bs : List Nat) (n s : Int) : List Ent := if s < 0 ∨ 2 < s then es else setE es f bs n s
def addC (f : Int) (bs : List Nat) (n s : Int) : Int := if s < 0 ∨ 2 < s then 1 else if mayP f bs n = true then 0 else 1
/-- An address's space. -/
def ofE (es : List Ent) (f : Int) (bs : List Nat) : Int := match findE es f bs with | none => 2 | some e => e.v
def nameB (s : Int) : ByteArray := if s = 0 then ⟨#[108, 111, 111, 112, 98, 97, 99, 107]⟩ else if s = 1 then ⟨#[112, 114, 105, 118, 97, 116, 101]⟩ else if s = 2 then ⟨#[112, 117, 98, 108, 105, 99]⟩ else ⟨#[]⟩
/-- The space of a name. -/
def parse7 (s : ByteArray) : Int × Bool := if lowB s = nameB 0 then (0, true) else if lowB s = nameB 1 then (1, true) else if lowB s = nameB 2 then (2, true) else (0, false)
theorem unmap7 (f : Int) (bs : List Nat) (h16 : bs.length = 16) (hlt : ∀ x ∈ bs, x < 256) : (unmapB f bs).length = 16 ∧ ∀ x ∈ unmapB f bs, x < 256 := by
  unfold unmapB
  split
  · exact ⟨b4_len _, b4_lt _⟩
  · exact ⟨h16, hlt⟩
set_option maxRecDepth 100000 in
theorem refOf7_any (v : Value) (es : List Ent) (f : Int) (us : List Nat) (w : World) (base : Nat) (hE : RowE w base v es) (h16 : us.length = 16) (hlt : ∀ x ∈ us, x < 256) :
    Calls Tryz.prog 8 #[v, addrV f us] w fun e w' => e = .returned (.int .i64 (ofE es (unmapF f us) (unmapB f us))) ∧ Below w.heap.size w w' := by
  have HUM := fun W => Lib.hid (refUnmap_any f us W h16 hlt)
  have HFI := fun W (h : RowE W base v es) => Lib.hid (refFind_any v es (unmapF f us) (unmapB f us) W base h (unmap7 f us h16 hlt).1 (unmap7 f us h16 hlt).2)
  have HOF : Hid (ofE es (unmapF f us) (unmapB f us) = match findE es (unmapF f us) (unmapB f us) with | none => 2 | some e => e.v) := Lib.hid rfl
  generalize ofE es (unmapF f us) (unmapB f us) = S at *
  obtain ⟨cs, ecs, H1, HB⟩ := addr_boxed f us w h16
  have HE := Lib.hid (hE.below HB.out)
  have HGD := Lib.hid hE.2.1
  rw [ecs]
  clear ecs h16 hlt hE
  have HME : ∀ e, findE es (unmapF f us) (unmapB f us) = some e → e.Good := fun e he => HGD.out e ((findE_best es (unmapF f us) (unmapB f us)).2 e he).1
  generalize findE es (unmapF f us) (unmapB f us) = R at *
  go_enter Tryz.func8, Tryz.ntmps8
  go_upto_region 1 with fail
  generalize (w.alloc (.cells cs 24)) = W at *
  go_wp2_with (refine load_addr_g H1 _ rfl rfl rfl ?_)
  refine (HUM _).out.mono ?_
  rintro e w1 ⟨rfl, hb1⟩
  replace HE := Lib.hid (HE.out.below hb1)
  replace HB := Lib.hid (chain HB.out hb1)
  clear hb1 HUM H1
  go_wp2_with fail
  refine (HFI _ HE.out).out.mono ?_
  rintro e w2 ⟨rfl, hb2⟩
  replace HB := Lib.hid (chain HB.out hb2)
  clear hb2 HFI HE
  have HZ := Lib.hid (ent_zeroed w2)
  cases R with
  | none =>
    have EO := HOF.out
    simp only at EO
    subst EO
    have H16 : Hid ((List.replicate 16 0).length = 16) := Lib.hid rfl
    rw [show entRet none = .tuple #[entV 0 (List.replicate 16 0) 0 0, .bool false] from rfl]
    obtain ⟨zs, hzs⟩ : ∃ zs : List Nat, List.replicate 16 0 = zs := ⟨_, rfl⟩
    rw [hzs] at HZ H16 ⊢
    clear hzs
    go_upto_region 2 with (refine store_ent HZ _ _ H16 rfl rfl rfl rfl (fun W1 HW1 HE1 => ?_))
    have HB1 : Hid (Below w.heap.size w W1) := Lib.hid (chain HB.out (by rw [HW1.out]; exact below_cells (Nat.le_refl _) _ _ _ ((Below.refl _ _).alloc (Nat.le_refl _) _)))
    go_wp2_with fail
    go_ret
    exact ⟨rfl, HB1.out⟩
  | some y =>
    have EO := HOF.out
    simp only at EO
    subst EO
    have H16 : Hid (y.b.length = 16) := Lib.hid (HME y rfl).1.len
    rw [show entRet (some y) = .tuple #[entV y.f y.b (y.n : Int) y.v, .bool true] from rfl]
    go_upto_region 2 with (refine store_ent HZ _ _ H16 rfl rfl rfl rfl (fun W1 HW1 HE1 => ?_))
    have HB1 : Hid (Below w.heap.size w W1) := Lib.hid (chain HB.out (by rw [HW1.out]; exact below_cells (Nat.le_refl _) _ _ _ ((Below.refl _ _).alloc (Nat.le_refl _) _)))
    have hv : W1.cell? ⟨w2.heap.size, 18, none⟩ = some (.int .i64 y.v) := by
      have := HE1.out.range 18 (.int .i64 y.v) (by unfold entL; rw [List.getElem?_append_right (by rw [prefL_len _ _ _ H16.out]; exact Nat.le_refl _), prefL_len _ _ _ H16.out]; rfl)
      rw [Nat.zero_add] at this
      exact this
    go_wp2_with fail
    go_ret
    exact ⟨rfl, HB1.out⟩
end Go.Proofs.YtgbajagacmfcmaaGreatDoor

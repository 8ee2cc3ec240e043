/- Texts that belong together, one behind the other: RefDrop, CidrCmp, RefSet, RefCidrHas, RefFind, RefGet, FindMath, Cuts. -/
import Derived.Test.YtgbajagacmfcmaaDoorB3
/- Contract of the reference's Drop of layer 6. -/
namespace Go.Proofs.YtgbajagacmfcmaaDoor
open Go.RowKit
set_option linter.unusedVariables false
set_option maxRecDepth 20000

/-- All but a prefix's entry. -/
def dropE (es : List Ent) (f : Int) (bs : List Nat) (n : Int) : List Ent := es.filter (fun e => !isEnt f bs n e)
theorem dropE_len (es : List Ent) (f : Int) (bs : List Nat) (n : Int) : (dropE es f bs n).length ≤ es.length := List.length_filter_le _ _
theorem filter_take {α : Type} (p : α → Bool) (l : List α) (k : Nat) (hk : k < l.length) : (l.take (k + 1)).filter p = (l.take k).filter p ++ (if p l[k] then [l[k]] else []) := by
  rw [List.take_succ_eq_append_getElem hk, List.filter_append]
  congr 1
  simp [List.filter_cons]
set_option maxRecDepth 100000 in
set_option maxHeartbeats 1000000 in
theorem refDrop_any (v : Value) (es : List Ent) (f : Int) (bs : List Nat) (n : Int) (w : World) (base : Nat) (hE : RowE w base v es) (h16 : bs.length = 16) :
    Calls Tryd.prog 49 #[v, prefV f bs n] w fun e w' => ∃ v', e = .returned (.tuple #[v', .bool (decide ((dropE es f bs n).length < es.length))]) ∧ RowE w' w.heap.size v' (dropE es f bs n) ∧ Below w.heap.size w w' := by
  have H16 := Lib.hid h16
  have hlen := hE.2.2
  obtain ⟨cs, ecs, H1, HB⟩ := pref_boxed f bs n w h16
  have HE := Lib.hid (hE.below HB.out)
  rw [ecs]
  clear ecs h16
  rcases hE.form with ⟨rfl, rfl⟩ | ⟨g, cap, rfl, hg1, hg2, hcap, hcap2, hrg⟩
  · clear hE
    go_enter Tryd.func49, Tryd.ntmps49
    go_upto_region 1 with fail
    generalize (w.alloc (.cells cs 27)) = W at *
    go_wp2_with fail
    go_loop [6, 7] (fun o i => i = .int .i64 0 ∧ o = .slice none 0 0) (fun _ _ => 0)
    case atStart => exact ⟨rfl, rfl⟩
    case round =>
      obtain ⟨rfl, rfl⟩ := hrel
      go_wp2_with fail
      go_ret2
      exact ⟨_, rfl, RowE.nil _ _, HB.out⟩
  · go_enter Tryd.func49, Tryd.ntmps49
    go_upto_region 1 with fail
    generalize (w.alloc (.cells cs 27)) = W at *
    obtain ⟨L, hL⟩ : ∃ L, [(w.heap.size, 0, prefL f bs n), (w.heap.size, 0, addrL f bs), (g, 0, flatE es)] = L := ⟨_, rfl⟩
    have hrg2 : W.rangeAt g 0 (flatE es) := fun j u hu => by rw [HB.out.cell (p := ⟨g, 0 + j, none⟩) hg2]; exact hrg j u hu
    have HAG := Lib.hid hE.2.1
    have HW0 := Lib.hid H1.out.addr.lt
    have HRG := Lib.hid hrg2
    clear hL hrg hrg2 HE hE L
    have gd := guard_pref
    go_wp2_with fail
    go_loopw [6, 7] (fun o i wr => ∃ k : Nat, k ≤ es.length ∧ i = .int .i64 (k : Int) ∧ Hid (RowE wr (w.heap.size + 1) o (dropE (es.take k) f bs n)) ∧ Hid (PrefAt wr w.heap.size f bs n) ∧ Hid (wr.rangeAt g 0 (flatE es)) ∧ Hid (Below w.heap.size w wr)) (fun _ i _ => es.length - (intOf i).toNat)
    case atStart => exact ⟨0, Nat.zero_le _, rfl, Lib.hid (RowE.nil _ _), H1, HRG, HB⟩
    case round =>
      obtain ⟨k, hk, rfl, HO, HP, HG, HBL⟩ := hrel
      clear H1 HRG HB HW0
      by_cases hkl : k < es.length
      · have hd : decide ((k : Int) < (es.length : Int)) = true := by simp; omega
        have hdn : decide (k < es.length) = true := by simp; omega
        have hki : (k : Int) < (es.length : Int) := by omega
        obtain ⟨en, hen⟩ : ∃ en, es[k] = en := ⟨_, rfl⟩
        have hgd : en.Good := by rw [← hen]; exact HAG.out _ (List.getElem_mem hkl)
        have HGD := Lib.hid hgd
        have HLE := Lib.hid hgd.1.len
        have HFT := Lib.hid (filter_take (fun e => !isEnt f bs n e) es k hkl)
        rw [hen] at HFT
        have HKE : Hid (wr.rangeAt g (k * 19) (entL en.f en.b (en.n : Int) en.v)) := Lib.hid (by have := range_ent HG.out HAG.out k hkl; rw [hen] at this; exact this)
        have HKP : Hid (wr.rangeAt g (k * 19) (prefL en.f en.b (en.n : Int))) := Lib.hid (range_pref (e := en) HKE.out)
        have q1 := fun W => run_neq_pref en.f f en.b bs (en.n : Int) n W hgd.1.len H16.out
        have HDL : Hid ((dropE (es.take k) f bs n).length + 1 ≤ 1000) := Lib.hid (by have := dropE_len (es.take k) f bs n; rw [List.length_take] at this; omega)
        clear hen hgd
        have hglt := Nat.lt_of_lt_of_le hg2 HBL.out.size
        obtain ⟨L, hL⟩ : ∃ L, [(w.heap.size, 0, prefL f bs n), (w.heap.size, 0, addrL f bs), (g, k * 19, prefL en.f en.b (en.n : Int))] = L := ⟨_, rfl⟩
        have HK := Lib.hid (show HeldR L wr wr by rw [← hL]; exact ((HeldR.nil (Below.refl _ _)).cons HKP.out hglt).pref HP.out)
        have Mp3 := Lib.hid (show InP L w.heap.size f bs n from ⟨by rw [← hL]; simp, H16.out⟩)
        have Mk := Lib.hid (show InPo L wr g (k * 19) en.f en.b (en.n : Int) from ⟨fun w' h => h.get (by rw [← hL]; simp), HLE.out⟩)
        clear hL HKP
        replace HO := Lib.hid (HO.out.below (Below.refl _ _).drew)
        replace HP := Lib.hid (HP.out.below (Below.refl _ _).drew)
        replace HBL := Lib.hid HBL.out.drew
        have HG2 : Hid (wr.drew.rangeAt g 0 (flatE es)) := Lib.hid (fun j u hu => by rw [(Below.refl wr.heap.size wr).drew.cell (p := ⟨g, 0 + j, none⟩) hglt]; exact HG.out j u hu)
        have HKE2 : Hid (wr.drew.rangeAt g (k * 19) (entL en.f en.b (en.n : Int) en.v)) := Lib.hid (fun j u hu => by rw [(Below.refl wr.heap.size wr).drew.cell (p := ⟨g, k * 19 + j, none⟩) hglt]; exact HKE.out j u hu)
        have HGL : Hid (g < wr.drew.heap.size) := Lib.hid hglt
        clear HG HKE hglt
        go_upto_region 5 with fail
        cases hm : isEnt f bs n en with
        | true =>
          rw [show decide (en.f = f ∧ en.b = bs ∧ (en.n : Int) = n) = true from hm] at q1
          have HV : Hid (dropE (es.take (k + 1)) f bs n = dropE (es.take k) f bs n) := Lib.hid (by unfold dropE; rw [HFT.out, hm]; simp)
          clear hm
          refine wp_region_noPanic ?_
          refine wp_region_held_drew (S := HeldR L wr) (by kernel_rfl) HK.out.drew (fun hHeld => ?_)
          generalize wr.drew = V at *
          refine wpAnyH_take (i := 0) (v := ?_) rfl (by kernel_rfl) (by kernel_rfl) (by kernel_rfl) (fun _ _ _ h => h) (Or.inl ⟨by rfl, ?_⟩) (by assumption) ?_
          rotate_left
          · (intro w hSw; go_simp; try (with_reducible rfl))
          try simp only [Act.put, List.getElem_toArray, List.getElem_cons_zero, List.setIfInBounds_toArray, List.set_cons_zero, List.set_cons_succ]
          refine wpAnyH_take (i := 1) (v := ?_) rfl (by kernel_rfl) (by kernel_rfl) (by kernel_rfl) (fun _ _ _ h => h) (Or.inl ⟨by rfl, ?_⟩) (by assumption) ?_
          rotate_left
          · (intro w hSw; go_simp; try (with_reducible rfl))
          try simp only [Act.put, List.getElem_toArray, List.getElem_cons_zero, List.getElem_cons_succ, List.setIfInBounds_toArray, List.set_cons_zero, List.set_cons_succ]
          refine wpAnyH_take (i := 2) (v := ?_) rfl (by kernel_rfl) (by kernel_rfl) (by kernel_rfl) (fun _ _ _ h => h) (Or.inl ⟨by rfl, ?_⟩) (by assumption) ?_
          rotate_left
          · (intro w hSw; go_simp; try (with_reducible rfl))
          try simp only [Act.put, List.getElem_toArray, List.getElem_cons_zero, List.getElem_cons_succ, List.setIfInBounds_toArray, List.set_cons_zero, List.set_cons_succ]
          refine wpAnyH_take (i := 3) (v := ?_) rfl (by kernel_rfl) (by kernel_rfl) (by kernel_rfl) (fun _ _ _ h => h) (Or.inl ⟨by rfl, ?_⟩) (by assumption) ?_
          rotate_left
          · (intro w hSw; go_simp; try (with_reducible rfl))
          try simp only [Act.put, List.getElem_toArray, List.getElem_cons_zero, List.getElem_cons_succ, List.setIfInBounds_toArray, List.set_cons_zero, List.set_cons_succ]
          refine wpAnyH_take (i := 4) rfl (by kernel_rfl) (by kernel_rfl) (by kernel_rfl) (fun _ _ _ h => h) (yields_pref_o Mk (by rfl) _ rfl rfl) (by assumption) ?_
          try simp only [Act.put, List.getElem_toArray, List.getElem_cons_zero, List.getElem_cons_succ, List.setIfInBounds_toArray, List.set_cons_zero, List.set_cons_succ]
          refine wpAnyH_take (i := 5) rfl (by kernel_rfl) (by kernel_rfl) (by kernel_rfl) (fun _ _ _ h => h) (yields_pref Mp3 (by rfl) _ rfl rfl) (by assumption) ?_
          try simp only [Act.put, List.getElem_toArray, List.getElem_cons_zero, List.getElem_cons_succ, List.setIfInBounds_toArray, List.set_cons_zero, List.set_cons_succ]
          refine wpAnyH_take (i := 6) (v := ?_) rfl (by kernel_rfl) (by kernel_rfl) (by kernel_rfl) (fun _ _ _ h => h) (Or.inl ⟨by rfl, ?_⟩) (by assumption) ?_
          rotate_left
          · (intro w hSw; go_simp; try (with_reducible rfl))
          try simp only [Act.put, List.getElem_toArray, List.getElem_cons_zero, List.getElem_cons_succ, List.setIfInBounds_toArray, List.set_cons_zero, List.set_cons_succ]
          refine wpAnyH_done (by kernel_rfl) ?_ _
          refine NoPanic.normal ?_
          go_wp2_with fail
          go_roundw
          case rel => exact ⟨k + 1, by omega, by go_num, Lib.hid (by rw [HV.out]; exact HO.out), HP, HG2, HBL⟩
          case measure => simp [intOf]; omega
        | false =>
          rw [show decide (en.f = f ∧ en.b = bs ∧ (en.n : Int) = n) = false from hm] at q1
          have HV : Hid (dropE (es.take (k + 1)) f bs n = dropE (es.take k) f bs n ++ [en]) := Lib.hid (by unfold dropE; rw [HFT.out, hm]; simp)
          clear hm
          refine wp_region_noPanic ?_
          refine wp_region_held_drew (S := HeldR L wr) (by kernel_rfl) HK.out.drew (fun hHeld => ?_)
          generalize wr.drew = V at *
          refine wpAnyH_take (i := 0) (v := ?_) rfl (by kernel_rfl) (by kernel_rfl) (by kernel_rfl) (fun _ _ _ h => h) (Or.inl ⟨by rfl, ?_⟩) (by assumption) ?_
          rotate_left
          · (intro w hSw; go_simp; try (with_reducible rfl))
          try simp only [Act.put, List.getElem_toArray, List.getElem_cons_zero, List.setIfInBounds_toArray, List.set_cons_zero, List.set_cons_succ]
          refine wpAnyH_take (i := 1) (v := ?_) rfl (by kernel_rfl) (by kernel_rfl) (by kernel_rfl) (fun _ _ _ h => h) (Or.inl ⟨by rfl, ?_⟩) (by assumption) ?_
          rotate_left
          · (intro w hSw; go_simp; try (with_reducible rfl))
          try simp only [Act.put, List.getElem_toArray, List.getElem_cons_zero, List.getElem_cons_succ, List.setIfInBounds_toArray, List.set_cons_zero, List.set_cons_succ]
          refine wpAnyH_take (i := 2) (v := ?_) rfl (by kernel_rfl) (by kernel_rfl) (by kernel_rfl) (fun _ _ _ h => h) (Or.inl ⟨by rfl, ?_⟩) (by assumption) ?_
          rotate_left
          · (intro w hSw; go_simp; try (with_reducible rfl))
          try simp only [Act.put, List.getElem_toArray, List.getElem_cons_zero, List.getElem_cons_succ, List.setIfInBounds_toArray, List.set_cons_zero, List.set_cons_succ]
          refine wpAnyH_take (i := 3) (v := ?_) rfl (by kernel_rfl) (by kernel_rfl) (by kernel_rfl) (fun _ _ _ h => h) (Or.inl ⟨by rfl, ?_⟩) (by assumption) ?_
          rotate_left
          · (intro w hSw; go_simp; try (with_reducible rfl))
          try simp only [Act.put, List.getElem_toArray, List.getElem_cons_zero, List.getElem_cons_succ, List.setIfInBounds_toArray, List.set_cons_zero, List.set_cons_succ]
          refine wpAnyH_take (i := 4) rfl (by kernel_rfl) (by kernel_rfl) (by kernel_rfl) (fun _ _ _ h => h) (yields_pref_o Mk (by rfl) _ rfl rfl) (by assumption) ?_
          try simp only [Act.put, List.getElem_toArray, List.getElem_cons_zero, List.getElem_cons_succ, List.setIfInBounds_toArray, List.set_cons_zero, List.set_cons_succ]
          refine wpAnyH_take (i := 5) rfl (by kernel_rfl) (by kernel_rfl) (by kernel_rfl) (fun _ _ _ h => h) (yields_pref Mp3 (by rfl) _ rfl rfl) (by assumption) ?_
          try simp only [Act.put, List.getElem_toArray, List.getElem_cons_zero, List.getElem_cons_succ, List.setIfInBounds_toArray, List.set_cons_zero, List.set_cons_succ]
          refine wpAnyH_take (i := 6) (v := ?_) rfl (by kernel_rfl) (by kernel_rfl) (by kernel_rfl) (fun _ _ _ h => h) (Or.inl ⟨by rfl, ?_⟩) (by assumption) ?_
          rotate_left
          · (intro w hSw; go_simp; try (with_reducible rfl))
          try simp only [Act.put, List.getElem_toArray, List.getElem_cons_zero, List.getElem_cons_succ, List.setIfInBounds_toArray, List.set_cons_zero, List.set_cons_succ]
          refine wpAnyH_done (by kernel_rfl) ?_ _
          refine NoPanic.normal ?_
          clear hHeld HK Mk Mp3
          have HM5 : Hid (1 = [en].length) := Lib.hid rfl
          have HY5 : Hid (AllGood [en]) := Lib.hid (fun e he => by rw [List.mem_singleton.1 he]; exact HGD.out)
          have HL5 : Hid ((dropE (es.take k) f bs n).length + [en].length ≤ 1000) := HDL
          have HV5 := Lib.hid (Nat.le_of_lt HP.out.addr.lt)
          go_wp2_with (first
            | refine load_ent_o HLE HKE2 _ rfl rfl rfl ?_
            | (refine build_entS HLE rfl _ rfl rfl (fun W5 HW5 => ?_); have HB5 : Hid (Below V.heap.size V W5) := Lib.hid (by rw [HW5.out]; exact (Below.refl _ _).alloc (Nat.le_refl _) _); have HO5 := Lib.hid (HO.out.below HB5.out); have HR5 : Hid (W5.rangeAt V.heap.size 0 (flatE [en])) := Lib.hid (by rw [HW5.out, show flatE [en] = entL en.f en.b (en.n : Int) en.v from List.append_nil _]; exact buildS_new _); have HS5 : Hid (w.heap.size + 1 ≤ W5.heap.size) := Lib.hid (Nat.le_trans (Nat.succ_le_of_lt HP.out.addr.lt) HB5.out.size))
            | (at_builtin; refine append_ents HO5 _ _ rfl rfl rfl [en] rfl HM5 HR5 HY5 HL5 HS5 (fun v6 w6 HO6 HG6 HA6 => ?_)))
          have hb6 : Below (w.heap.size + 1) V w6 := ((HB5.out.mono (Nat.succ_le_of_lt HP.out.addr.lt))).grown HG6.out HS5.out (fun j hj => (HO5.out.1.lt j hj).1)
          go_roundw
          case rel => exact ⟨k + 1, by omega, by go_num, Lib.hid (by rw [HV.out]; exact HO6.out), Lib.hid (HP.out.belowB hb6 (Nat.lt_succ_self _)), Lib.hid (range_belowB HG2.out hb6 (by omega)), Lib.hid (HBL.out.trans (hb6.mono (Nat.le_succ _)))⟩
          case measure => simp [intOf]; omega
      · obtain rfl : k = es.length := by omega
        have hd : decide ((es.length : Int) < (es.length : Int)) = false := by simp
        have HO2 := HO.out
        rw [List.take_length] at HO2
        have HOE := Lib.hid (HO2.mono (Nat.le_succ _))
        rcases HO2.form with ⟨rfl, hnil⟩ | ⟨g2, cap2, rfl, _, _, _, _, _⟩
        · rw [hnil] at HOE
          have HNL := Lib.hid hnil
          clear HO HO2 hnil
          obtain ⟨b, hb⟩ : ∃ b, decide (0 < es.length) = b := ⟨_, rfl⟩
          have hbi : decide ((0 : Int) < (es.length : Int)) = b := by rw [← hb]; exact decide_eq_decide.2 (by omega)
          go_wp2_with fail
          go_ret2
          exact ⟨.slice none 0 0, by rw [HNL.out]; first | rfl | (rw [← hb]; rfl) | simp, by rw [HNL.out]; exact HOE.out, HBL.out⟩
        · clear HO HO2
          go_wp2_with fail
          go_ret2
          exact ⟨_, by first | rfl | simp, HOE.out, HBL.out⟩
end Go.Proofs.YtgbajagacmfcmaaDoor
/- Contracts of cidr.Compare, of the reference's Compare of layer 5, and of cidr.First. -/
namespace Go.Proofs.YtgbajagacmfcmaaDoor
open Go.RowKit
set_option linter.unusedVariables false
set_option maxRecDepth 20000

set_option maxRecDepth 100000 in
set_option maxHeartbeats 1000000 in
theorem cidrCompare_any (f : Int) (ps : List Nat) (n : Int) (g : Int) (qs : List Nat) (m : Int) (w : World) (hp : ps.length = 16) (hq : qs.length = 16) (lp : ∀ x ∈ ps, x < 256) (lq : ∀ x ∈ qs, x < 256) :
    Calls Tryd.prog 76 #[prefV f ps n, prefV g qs m] w fun e w' => e = .returned (.int .i64 (cmpP f ps n g qs m)) ∧ Below w.heap.size w w' := by
  have HH := fun W => Lib.hid (addrCompare_any f ps g qs W hp hq lp lq)
  have HI := fun W => Lib.hid (cmpInt_any n m W)
  obtain ⟨R, eR⟩ : ∃ R, cmpP f ps n g qs m = R := ⟨_, rfl⟩
  rw [eR]
  have HE : Hid ((if cmpA f ps g qs = 0 then sgn3 n m else cmpA f ps g qs) = R) := Lib.hid (by rw [← eR]; rfl)
  generalize cmpA f ps g qs = c at *
  generalize sgn3 n m = d at *
  obtain ⟨cs, ds, ecs, eds, H1, H2, HB⟩ := prefs_boxed f ps n g qs m w hp hq
  rw [ecs, eds]
  clear ecs eds hp hq lp lq eR
  go_enter Tryd.func76, Tryd.ntmps76
  go_upto_region 1 with fail
  generalize ((w.alloc (.cells cs 27)).alloc (.cells ds 27)) = W at *
  have H1a := Lib.hid H1.out.addr
  have H2a := Lib.hid H2.out.addr
  go_wp2_with (first | refine load_addr_g H1a _ rfl rfl rfl ?_ | refine load_addr_g H2a _ rfl rfl rfl ?_)
  refine (HH _).out.mono ?_
  rintro e w1 ⟨rfl, hb1⟩
  have b1 := (H1.out.below hb1).bits
  have b2 := (H2.out.below hb1).bits
  have HB1 := Lib.hid (chain HB.out hb1)
  clear H1 H2 HB hb1 H1a H2a
  by_cases h : c = 0
  · subst h
    rw [if_pos rfl] at HE
    go_wp2_with fail
    refine (HI _).out.mono ?_
    rintro e w2 ⟨rfl, rfl⟩
    go_wp2_with fail
    go_ret
    exact ⟨by rw [HE.out]; rfl, HB1.out⟩
  · rw [if_neg h] at HE
    have hd : (c != 0) = true := by simp [h]
    go_wp2_with fail
    go_ret
    exact ⟨by rw [HE.out]; rfl, HB1.out⟩
set_option maxRecDepth 100000 in
set_option maxHeartbeats 1000000 in
theorem refCompareP_any (f : Int) (ps : List Nat) (n : Int) (g : Int) (qs : List Nat) (m : Int) (w : World) (hp : ps.length = 16) (hq : qs.length = 16) :
    Calls Tryd.prog 50 #[prefV f ps n, prefV g qs m] w fun e w' => e = .returned (.int .i64 (cmpP f ps n g qs m)) ∧ Below w.heap.size w w' := by
  have HH := fun W => Lib.hid (refCompare_any f ps g qs W hp hq)
  obtain ⟨R, eR⟩ : ∃ R, cmpP f ps n g qs m = R := ⟨_, rfl⟩
  rw [eR]
  have HE : Hid ((if cmpA f ps g qs = 0 then sgn3 n m else cmpA f ps g qs) = R) := Lib.hid (by rw [← eR]; rfl)
  have HS : Hid (sgn3 n m = if n < m then -1 else if m < n then 1 else 0) := Lib.hid (by unfold sgn3; rfl)
  generalize cmpA f ps g qs = c at *
  generalize sgn3 n m = d at *
  obtain ⟨cs, ds, ecs, eds, H1, H2, HB⟩ := prefs_boxed f ps n g qs m w hp hq
  rw [ecs, eds]
  clear ecs eds hp hq eR
  go_enter Tryd.func50, Tryd.ntmps50
  go_upto_region 1 with fail
  generalize ((w.alloc (.cells cs 27)).alloc (.cells ds 27)) = W at *
  have H1a := Lib.hid H1.out.addr
  have H2a := Lib.hid H2.out.addr
  go_wp2_with (first | refine load_addr_g H1a _ rfl rfl rfl ?_ | refine load_addr_g H2a _ rfl rfl rfl ?_)
  refine (HH _).out.mono ?_
  rintro e w1 ⟨rfl, hb1⟩
  have b1 := (H1.out.below hb1).bits
  have b2 := (H2.out.below hb1).bits
  have HB1 := Lib.hid (chain HB.out hb1)
  clear H1 H2 HB hb1 H1a H2a
  by_cases h : c = 0
  · subst h
    rw [if_pos rfl] at HE
    by_cases h1 : n < m
    · rw [if_pos h1] at HS
      have hd : decide (n < m) = true := by simp [h1]
      go_wp2_with fail
      go_ret
      exact ⟨by rw [← HE.out, HS.out]; rfl, HB1.out⟩
    · rw [if_neg h1] at HS
      have hd : decide (n < m) = false := by simp; omega
      by_cases h2 : m < n
      · rw [if_pos h2] at HS
        have hd2 : decide (m < n) = true := by simp [h2]
        go_wp2_with fail
        go_ret
        exact ⟨by rw [← HE.out, HS.out]; rfl, HB1.out⟩
      · rw [if_neg h2] at HS
        have hd2 : decide (m < n) = false := by simp; omega
        go_wp2_with fail
        go_ret
        exact ⟨by rw [← HE.out, HS.out]; rfl, HB1.out⟩
  · rw [if_neg h] at HE
    have hd : (c != 0) = true := by simp [h]
    go_wp2_with fail
    go_ret
    exact ⟨by rw [HE.out]; rfl, HB1.out⟩
end Go.Proofs.YtgbajagacmfcmaaDoor
/- Contract of the reference's Set of layer 6. -/
namespace Go.Proofs.YtgbajagacmfcmaaDoor
open Go.RowKit
set_option linter.unusedVariables false
set_option maxRecDepth 20000

/-- Where an entry stands in the row, looked for from the end. -/
def posE (rest : List Ent) (f : Int) (bs : List Nat) (n : Int) : Nat → Nat
  | 0 => 0
  | k + 1 => match rest[k]? with
    | some e => if cmpP f bs n e.f e.b (e.n : Int) < 0 then posE rest f bs n k else k + 1
    | none => k + 1
theorem posE_le (rest : List Ent) (f : Int) (bs : List Nat) (n : Int) : ∀ k, posE rest f bs n k ≤ k
  | 0 => Nat.le_refl _
  | k + 1 => by
    rw [posE]
    split
    · split
      · exact Nat.le_trans (posE_le rest f bs n k) (Nat.le_succ _)
      · exact Nat.le_refl _
    · exact Nat.le_refl _
/-- One more entry, in its place. -/
def insE (rest : List Ent) (e : Ent) : List Ent := rest.take (posE rest e.f e.b (e.n : Int) rest.length) ++ [e] ++ rest.drop (posE rest e.f e.b (e.n : Int) rest.length)
def setE (es : List Ent) (f : Int) (bs : List Nat) (n v : Int) : List Ent := if mayP f bs n = true then insE (dropE es f bs n) ⟨f, bs, n.toNat, v⟩ else es
theorem mayP_good {f : Int} {bs : List Nat} {n : Int} (h16 : bs.length = 16) (hlt : ∀ x ∈ bs, x < 256) (h : mayP f bs n = true) : GoodP f bs n.toNat ∧ n = ((n.toNat : Nat) : Int) := by
  unfold mayP at h
  obtain ⟨h1, h2, h3⟩ := of_decide_eq_true h
  have hle := maskN_le f n
  have e : n.toNat = maskN f n := by omega
  refine ⟨⟨h1, h16, hlt, by omega, fun i hi ho => (with_same h16 hlt _ _).1 h2 i hi (.inl (by omega))⟩, by omega⟩
theorem cell_take {w : World} {g : Nat} {es : List Ent} (h : w.rangeAt g 0 (flatE es)) (k : Nat) : w.rangeAt g 0 (flatE (es.take k)) := by
  intro j u hu
  refine h j u ?_
  have e : flatE es = flatE (es.take k) ++ flatE (es.drop k) := by rw [← flatE_append, List.take_append_drop]
  rw [e, List.getElem?_append_left]
  · exact hu
  · apply Classical.byContradiction
    intro h2
    rw [List.getElem?_eq_none (by omega)] at hu
    cases hu
theorem cell_drop {w : World} {g : Nat} {es : List Ent} (h : w.rangeAt g 0 (flatE es)) (hg : AllGood es) (k : Nat) (hk : k ≤ es.length) : w.rangeAt g (k * 19) (flatE (es.drop k)) := by
  intro j u hu
  have e : flatE es = flatE (es.take k) ++ flatE (es.drop k) := by rw [← flatE_append, List.take_append_drop]
  have hl : (flatE (es.take k)).length = k * 19 := by
    rw [flatE_len _ (fun x hx => hg x (List.mem_of_mem_take hx)), List.length_take, Nat.min_eq_left hk]
  have := h (k * 19 + j) u (by rw [e, List.getElem?_append_right (by omega), hl, Nat.add_sub_cancel_left]; exact hu)
  rw [Nat.zero_add] at this
  exact this
set_option maxRecDepth 100000 in
set_option maxHeartbeats 2000000 in
theorem refSet_any (v : Value) (es : List Ent) (f : Int) (bs : List Nat) (n x : Int) (w : World) (base : Nat) (hE : RowE w base v es) (h16 : bs.length = 16) (hlt : ∀ x ∈ bs, x < 256) (hx : (Lit.int .i64 x).wf = true) (hle : es.length ≤ 900) :
    Calls Tryd.prog 33 #[v, prefV f bs n, .int .i64 x] w fun e w' => ∃ v', e = .returned (.tuple #[v', .int .i64 (if mayP f bs n = true then 0 else 1)]) ∧ RowE w' 0 v' (setE es f bs n x) ∧ (v' = v ∨ RowE w' w.heap.size v' (setE es f bs n x)) ∧ Below w.heap.size w w' := by
  have H16 := Lib.hid h16
  have HMA := fun W => Lib.hid (refMayQ_any f bs n W h16 hlt)
  rw [mayQ_eq f n h16 hlt] at HMA
  have HX := Lib.hid hx
  have HSE : Hid (setE es f bs n x = if mayP f bs n = true then insE (dropE es f bs n) ⟨f, bs, n.toNat, x⟩ else es) := Lib.hid rfl
  have HGD : Hid (mayP f bs n = true → GoodP f bs n.toNat ∧ n = ((n.toNat : Nat) : Int)) := Lib.hid (mayP_good h16 hlt)
  have hlen := hE.2.2
  obtain ⟨S, eS⟩ : ∃ S, setE es f bs n x = S := ⟨_, rfl⟩
  rw [eS] at HSE ⊢
  generalize mayP f bs n = b at *
  obtain ⟨cs, ecs, H1, HB⟩ := pref_boxed f bs n w h16
  have HE := Lib.hid (hE.below HB.out)
  rw [ecs]
  clear ecs h16 hlt eS hE hx
  cases b with
  | false =>
    rw [if_neg (by decide)] at HSE
    rw [if_neg (by decide)]
    go_enter Tryd.func33, Tryd.ntmps33
    go_upto_region 1 with fail
    generalize (w.alloc (.cells cs 27)) = W at *
    go_wp2_with (refine load_pref_g H1 _ rfl rfl rfl ?_)
    refine (HMA _).out.mono ?_
    rintro e w1 ⟨rfl, hb1⟩
    have HE1 := Lib.hid ((HE.out.below hb1).mono (Nat.zero_le _))
    have HB1 := Lib.hid (chain HB.out hb1)
    clear HE H1 HB hb1 HMA
    go_wp2_with fail
    go_ret2
    exact ⟨v, rfl, by rw [HSE.out]; exact HE1.out, .inl rfl, HB1.out⟩
  | true =>
    rw [if_pos rfl] at HSE
    rw [if_pos rfl]
    obtain ⟨hgp, hnn⟩ := HGD.out rfl
    obtain ⟨m, hm⟩ : ∃ m, n.toNat = m := ⟨_, rfl⟩
    rw [hm] at hgp hnn HSE
    subst hnn
    have HGP := Lib.hid hgp
    have HDR := fun W (h : RowE W base v es) => Lib.hid (refDrop_any v es f bs (m : Int) W base h H16.out)
    have hdl := dropE_len es f bs (m : Int)
    clear hgp hm HGD
    obtain ⟨rs, hrs⟩ : ∃ rs, dropE es f bs (m : Int) = rs := ⟨_, rfl⟩
    rw [hrs] at HDR hdl HSE
    clear hrs
    go_enter Tryd.func33, Tryd.ntmps33
    go_upto_region 1 with fail
    generalize (w.alloc (.cells cs 27)) = W at *
    go_wp2_with (refine load_pref_g H1 _ rfl rfl rfl ?_)
    refine (HMA _).out.mono ?_
    rintro e w1 ⟨rfl, hb1⟩
    replace HE := Lib.hid (HE.out.below hb1)
    replace HB := Lib.hid (chain HB.out hb1)
    replace H1 := Lib.hid (H1.out.below hb1)
    clear hb1 HMA
    have hw01 : w.heap.size < w1.heap.size := H1.out.addr.lt
    go_wp2_with (refine load_pref_g H1 _ rfl rfl rfl ?_)
    refine (HDR _ HE.out).out.mono ?_
    rintro e w2 ⟨vr, rfl, hrow, hb2⟩
    replace HB := Lib.hid (chain HB.out hb2)
    replace H1 := Lib.hid (H1.out.below hb2)
    have HW12 := Lib.hid hb2.size
    have HW01 := Lib.hid hw01
    clear hw01
    clear hb2 HDR HE
    rcases hrow.form with ⟨rfl, rfl⟩ | ⟨g, cap, rfl, hg1, hg2, hcap, hcap2, hrg⟩
    · have HIN : Hid (S = [⟨f, bs, m, x⟩]) := Lib.hid (by rw [HSE.out]; rfl)
      clear hrow HSE
      have HEN : Hid (Ent.Good ⟨f, bs, m, x⟩) := Lib.hid ⟨HGP.out, HX.out⟩
      go_wp2_with fail
      go_loopw [11] (fun i wr => i = .int .i64 0 ∧ Hid (PrefAt wr w.heap.size f bs (m : Int)) ∧ Hid (Below w.heap.size w wr)) (fun _ _ => 0)
      case atStart => exact ⟨rfl, H1, HB⟩
      case round =>
        obtain ⟨rfl, HP, HBL⟩ := hrel
        clear H1 HB
        have HK := Lib.hid ((HeldR.nil (W := wr) (Below.refl wr.heap.size wr)))
        replace HP := Lib.hid (HP.out.below (Below.refl _ _).drew)
        replace HBL := Lib.hid HBL.out.drew
        go_upto_region 6 with fail
        refine wp_region_noPanic ?_
        refine wp_region_held_drew (S := HeldR [] wr) (by kernel_rfl) HK.out.drew (fun hHeld => ?_)
        generalize wr.drew = V at *
        refine wpAnyH_take (i := 0) (v := ?_) rfl (by kernel_rfl) (by kernel_rfl) (by kernel_rfl) (fun _ _ _ h => h) (Or.inl ⟨by rfl, ?_⟩) (by assumption) ?_
        rotate_left
        · (intro w hSw; go_simp; try (with_reducible rfl))
        try simp only [Act.put, List.getElem_toArray, List.getElem_cons_zero, List.setIfInBounds_toArray, List.set_cons_zero, List.set_cons_succ]
        refine wpAnyH_take (i := 1) (v := ?_) rfl (by kernel_rfl) (by kernel_rfl) (by kernel_rfl) (fun _ _ _ h => h) (Or.inl ⟨by rfl, ?_⟩) (by assumption) ?_
        rotate_left
        · (intro w hSw; go_simp; try (with_reducible rfl))
        try simp only [Act.put, List.getElem_toArray, List.getElem_cons_zero, List.getElem_cons_succ, List.setIfInBounds_toArray, List.set_cons_zero, List.set_cons_succ]
        refine wpAnyH_take (i := 2) (v := ?_) rfl (by kernel_rfl) (by kernel_rfl) (by kernel_rfl) (fun _ _ _ h => h) (Or.inl ⟨by rfl, ?_⟩) (by assumption) ?_
        rotate_left
        · (intro w hSw; go_simp; try (with_reducible rfl))
        try simp only [Act.put, List.getElem_toArray, List.getElem_cons_zero, List.getElem_cons_succ, List.setIfInBounds_toArray, List.set_cons_zero, List.set_cons_succ]
        refine wpAnyH_take (i := 3) (v := undef) rfl (by kernel_rfl) (by kernel_rfl) (by kernel_rfl) (fun _ _ _ h => h) (Or.inr ⟨by rfl, rfl⟩) (by assumption) ?_
        try simp only [Act.put, List.getElem_toArray, List.getElem_cons_zero, List.getElem_cons_succ, List.setIfInBounds_toArray, List.set_cons_zero, List.set_cons_succ]
        refine wpAnyH_take (i := 4) (v := undef) rfl (by kernel_rfl) (by kernel_rfl) (by kernel_rfl) (fun _ _ _ h => h) (Or.inr ⟨by rfl, rfl⟩) (by assumption) ?_
        try simp only [Act.put, List.getElem_toArray, List.getElem_cons_zero, List.getElem_cons_succ, List.setIfInBounds_toArray, List.set_cons_zero, List.set_cons_succ]
        refine wpAnyH_take (i := 5) (v := undef) rfl (by kernel_rfl) (by kernel_rfl) (by kernel_rfl) (fun _ _ _ h => h) (Or.inr ⟨by rfl, rfl⟩) (by assumption) ?_
        try simp only [Act.put, List.getElem_toArray, List.getElem_cons_zero, List.getElem_cons_succ, List.setIfInBounds_toArray, List.set_cons_zero, List.set_cons_succ]
        refine wpAnyH_take (i := 6) (v := undef) rfl (by kernel_rfl) (by kernel_rfl) (by kernel_rfl) (fun _ _ _ h => h) (Or.inr ⟨by rfl, rfl⟩) (by assumption) ?_
        try simp only [Act.put, List.getElem_toArray, List.getElem_cons_zero, List.getElem_cons_succ, List.setIfInBounds_toArray, List.set_cons_zero, List.set_cons_succ]
        refine wpAnyH_take (i := 7) (v := undef) rfl (by kernel_rfl) (by kernel_rfl) (by kernel_rfl) (fun _ _ _ h => h) (Or.inr ⟨by rfl, rfl⟩) (by assumption) ?_
        try simp only [Act.put, List.getElem_toArray, List.getElem_cons_zero, List.getElem_cons_succ, List.setIfInBounds_toArray, List.set_cons_zero, List.set_cons_succ]
        refine wpAnyH_take (i := 8) (v := undef) rfl (by kernel_rfl) (by kernel_rfl) (by kernel_rfl) (fun _ _ _ h => h) (Or.inr ⟨by rfl, rfl⟩) (by assumption) ?_
        try simp only [Act.put, List.getElem_toArray, List.getElem_cons_zero, List.getElem_cons_succ, List.setIfInBounds_toArray, List.set_cons_zero, List.set_cons_succ]
        refine wpAnyH_take (i := 9) (v := undef) rfl (by kernel_rfl) (by kernel_rfl) (by kernel_rfl) (fun _ _ _ h => h) (Or.inr ⟨by rfl, rfl⟩) (by assumption) ?_
        try simp only [Act.put, List.getElem_toArray, List.getElem_cons_zero, List.getElem_cons_succ, List.setIfInBounds_toArray, List.set_cons_zero, List.set_cons_succ]
        refine wpAnyH_take (i := 10) (v := undef) rfl (by kernel_rfl) (by kernel_rfl) (by kernel_rfl) (fun _ _ _ h => h) (Or.inr ⟨by rfl, rfl⟩) (by assumption) ?_
        try simp only [Act.put, List.getElem_toArray, List.getElem_cons_zero, List.getElem_cons_succ, List.setIfInBounds_toArray, List.set_cons_zero, List.set_cons_succ]
        refine wpAnyH_take (i := 11) (v := undef) rfl (by kernel_rfl) (by kernel_rfl) (by kernel_rfl) (fun _ _ _ h => h) (Or.inr ⟨by rfl, rfl⟩) (by assumption) ?_
        try simp only [Act.put, List.getElem_toArray, List.getElem_cons_zero, List.getElem_cons_succ, List.setIfInBounds_toArray, List.set_cons_zero, List.set_cons_succ]
        refine wpAnyH_take (i := 12) (v := ?_) rfl (by kernel_rfl) (by kernel_rfl) (by kernel_rfl) (fun _ _ _ h => h) (Or.inl ⟨by rfl, ?_⟩) (by assumption) ?_
        rotate_left
        · (intro w hSw; go_simp; try (with_reducible rfl))
        try simp only [Act.put, List.getElem_toArray, List.getElem_cons_zero, List.getElem_cons_succ, List.setIfInBounds_toArray, List.set_cons_zero, List.set_cons_succ]
        refine wpAnyH_done (by kernel_rfl) ?_ _
        refine NoPanic.normal ?_
        clear hHeld HK
        have HN0 := Lib.hid (RowE.nil V w.heap.size)
        have HM5 : Hid (1 = [(⟨f, bs, m, x⟩ : Ent)].length) := Lib.hid rfl
        have HY5 : Hid (AllGood [⟨f, bs, m, x⟩]) := Lib.hid (fun e he => by rw [List.mem_singleton.1 he]; exact HEN.out)
        have HL5 : Hid (([] : List Ent).length + [(⟨f, bs, m, x⟩ : Ent)].length ≤ 1000) := Lib.hid (by simp)
        go_wp2_with (first
          | (at_builtin; refine append_none HN0 _ _ rfl rfl rfl rfl ?_)
          | refine load_pref_g HP _ rfl rfl rfl ?_
          | refine build_ent H16 rfl _ _ rfl rfl rfl ?_
          | (refine build_entS H16 rfl _ rfl rfl (fun W5 HW5 => ?_); have HB5 : Hid (Below V.heap.size V W5) := Lib.hid (by rw [HW5.out]; exact (Below.refl _ _).alloc (Nat.le_refl _) _); have HO5 := Lib.hid (RowE.nil W5 w.heap.size); have HR5 : Hid (W5.rangeAt V.heap.size 0 (flatE [⟨f, bs, m, x⟩])) := Lib.hid (by rw [HW5.out, show flatE [⟨f, bs, m, x⟩] = entL f bs (m : Int) x from List.append_nil _]; exact buildS_new _); have HS5 : Hid (w.heap.size ≤ W5.heap.size) := Lib.hid (Nat.le_trans HBL.out.size HB5.out.size))
          | (at_builtin; refine append_ents HO5 _ _ rfl rfl rfl [⟨f, bs, m, x⟩] rfl HM5 HR5 HY5 HL5 HS5 (fun v6 w6 HO6 HG6 HA6 => ?_))
          | (at_builtin; refine append_none HO6 _ _ rfl rfl rfl rfl ?_))
        go_ret2
        exact ⟨v6, rfl, by rw [HIN.out]; exact HO6.out.mono (Nat.zero_le _), .inr (by rw [HIN.out]; exact HO6.out), (chain HBL.out HB5.out).grown HG6.out HS5.out (fun k hk => by cases hk)⟩
    · have HRW := Lib.hid hrow
      have HAG := Lib.hid hrow.2.1
      have HEN : Hid (Ent.Good ⟨f, bs, m, x⟩) := Lib.hid ⟨HGP.out, HX.out⟩
      have HGW : Hid (w.heap.size < g) := Lib.hid (by have := HW01.out; omega)
      have HSP : Hid (S = rs.take (posE rs f bs (m : Int) rs.length) ++ [⟨f, bs, m, x⟩] ++ rs.drop (posE rs f bs (m : Int) rs.length)) := HSE
      have HRG := Lib.hid hrg
      have HG2 := Lib.hid hg2
      clear hrow HSE hrg hg2
      go_wp2_with fail
      go_loopw [11] (fun i wr => ∃ k : Nat, k ≤ rs.length ∧ i = .int .i64 (k : Int) ∧ Hid (posE rs f bs (m : Int) rs.length = posE rs f bs (m : Int) k) ∧ Hid (PrefAt wr w.heap.size f bs (m : Int)) ∧ Hid (wr.rangeAt g 0 (flatE rs)) ∧ Hid (g < wr.heap.size) ∧ Hid (Below w.heap.size w wr)) (fun i _ => (intOf i).toNat)
      case atStart => exact ⟨rs.length, Nat.le_refl _, rfl, Lib.hid rfl, H1, HRG, HG2, HB⟩
      case round =>
        obtain ⟨k, hk, rfl, HPO, HP, HG, HGL, HBL⟩ := hrel
        clear H1 HB HRG HG2
        cases k with
        | succ j =>
          obtain ⟨ej, hej⟩ : ∃ ej, rs[j]'(by omega) = ej := ⟨_, rfl⟩
          have hgj : ej.Good := by rw [← hej]; exact HAG.out _ (List.getElem_mem _)
          have HLJ := Lib.hid hgj.1.len
          have HQJ : Hid (rs[j]? = some ej) := Lib.hid (by rw [← hej]; exact List.getElem?_eq_getElem _)
          have HJP : Hid (wr.rangeAt g (j * 19) (prefL ej.f ej.b (ej.n : Int))) := Lib.hid (range_pref (by rw [← hej]; exact range_ent HG.out HAG.out j (by omega)))
          have HCM := fun W => Lib.hid (refCompareP_any f bs (m : Int) ej.f ej.b (ej.n : Int) W H16.out hgj.1.len)
          have HST : Hid (posE rs f bs (m : Int) (j + 1) = if cmpP f bs (m : Int) ej.f ej.b (ej.n : Int) < 0 then posE rs f bs (m : Int) j else j + 1) := Lib.hid (by rw [posE, HQJ.out])
          generalize cmpP f bs (m : Int) ej.f ej.b (ej.n : Int) = c at *
          have hd : decide ((0 : Int) < ((j + 1 : Nat) : Int)) = true := by first | (simp; done) | (simp; omega)
          have hd0 : decide ((0 : Int) < (j : Int) + 1) = true := by first | (simp; done) | (simp; omega)
          have hj1 : ((j + 1 : Nat) : Int) - 1 = (j : Int) := by omega
          have hjl : (j : Int) < (rs.length : Int) := by omega
          clear hej hgj
          obtain ⟨L, hL⟩ : ∃ L, [(w.heap.size, 0, prefL f bs (m : Int)), (w.heap.size, 0, addrL f bs), (g, j * 19, prefL ej.f ej.b (ej.n : Int))] = L := ⟨_, rfl⟩
          have HK := Lib.hid (show HeldR L wr wr by rw [← hL]; exact ((HeldR.nil (Below.refl _ _)).cons HJP.out HGL.out).pref HP.out)
          have Mp4 := Lib.hid (show InP L w.heap.size f bs (m : Int) from ⟨by rw [← hL]; simp, H16.out⟩)
          have Mj := Lib.hid (show InPo L wr g (j * 19) ej.f ej.b (ej.n : Int) from ⟨fun w' h => h.get (by rw [← hL]; simp), HLJ.out⟩)
          clear hL HJP
          have C10 : ∀ w', HeldR L wr w' → Hid (Calls Tryd.prog 50 #[prefV f bs (m : Int), prefV ej.f ej.b (ej.n : Int)] w' fun e w'' => e = .returned (.int .i64 c) ∧ Below w'.heap.size w' w'') := fun w' h => HCM w'
          replace HP := Lib.hid (HP.out.below (Below.refl _ _).drew)
          go_upto_region 6 with fail
          refine wp_region_noPanic ?_
          refine wp_region_held_drew (S := HeldR L wr) (by kernel_rfl) HK.out.drew (fun hHeld => ?_)
          refine wpAnyH_take (i := 0) (v := ?_) rfl (by kernel_rfl) (by kernel_rfl) (by kernel_rfl) (fun _ _ _ h => h) (Or.inl ⟨by rfl, ?_⟩) (by assumption) ?_
          rotate_left
          · (intro w hSw; go_simp; try (with_reducible rfl))
          try simp only [Act.put, List.getElem_toArray, List.getElem_cons_zero, List.setIfInBounds_toArray, List.set_cons_zero, List.set_cons_succ]
          refine wpAnyH_take (i := 1) (v := ?_) rfl (by kernel_rfl) (by kernel_rfl) (by kernel_rfl) (fun _ _ _ h => h) (Or.inl ⟨by rfl, ?_⟩) (by assumption) ?_
          rotate_left
          · (intro w hSw; go_simp; try (with_reducible rfl))
          try simp only [Act.put, List.getElem_toArray, List.getElem_cons_zero, List.getElem_cons_succ, List.setIfInBounds_toArray, List.set_cons_zero, List.set_cons_succ]
          refine wpAnyH_take (i := 2) (v := ?_) rfl (by kernel_rfl) (by kernel_rfl) (by kernel_rfl) (fun _ _ _ h => h) (Or.inl ⟨by rfl, ?_⟩) (by assumption) ?_
          rotate_left
          · (intro w hSw; go_simp; try (with_reducible rfl))
          try simp only [Act.put, List.getElem_toArray, List.getElem_cons_zero, List.getElem_cons_succ, List.setIfInBounds_toArray, List.set_cons_zero, List.set_cons_succ]
          refine wpAnyH_take (i := 3) rfl (by kernel_rfl) (by kernel_rfl) (by kernel_rfl) (fun _ _ _ h => h) (yields_pref Mp4 (by rfl) _ rfl rfl) (by assumption) ?_
          try simp only [Act.put, List.getElem_toArray, List.getElem_cons_zero, List.getElem_cons_succ, List.setIfInBounds_toArray, List.set_cons_zero, List.set_cons_succ]
          refine wpAnyH_take (i := 4) (v := ?_) rfl (by kernel_rfl) (by kernel_rfl) (by kernel_rfl) (fun _ _ _ h => h) (Or.inl ⟨by rfl, ?_⟩) (by assumption) ?_
          rotate_left
          · (intro w hSw; go_simp; try (with_reducible rfl))
          try simp only [Act.put, List.getElem_toArray, List.getElem_cons_zero, List.getElem_cons_succ, List.setIfInBounds_toArray, List.set_cons_zero, List.set_cons_succ]
          refine wpAnyH_take (i := 5) (v := ?_) rfl (by kernel_rfl) (by kernel_rfl) (by kernel_rfl) (fun _ _ _ h => h) (Or.inl ⟨by rfl, ?_⟩) (by assumption) ?_
          rotate_left
          · (intro w hSw; go_simp; try (with_reducible rfl))
          try simp only [Act.put, List.getElem_toArray, List.getElem_cons_zero, List.getElem_cons_succ, List.setIfInBounds_toArray, List.set_cons_zero, List.set_cons_succ]
          refine wpAnyH_take (i := 6) (v := ?_) rfl (by kernel_rfl) (by kernel_rfl) (by kernel_rfl) (fun _ _ _ h => h) (Or.inl ⟨by rfl, ?_⟩) (by assumption) ?_
          rotate_left
          · (intro w hSw; go_simp; try (with_reducible rfl))
          try simp only [Act.put, List.getElem_toArray, List.getElem_cons_zero, List.getElem_cons_succ, List.setIfInBounds_toArray, List.set_cons_zero, List.set_cons_succ]
          rw [show IntKind.i64.wrap (j : Int) = (j : Int) by rw [IntKind.wrap_i64]; omega]
          refine wpAnyH_take (i := 7) (v := ?_) rfl (by kernel_rfl) (by kernel_rfl) (by kernel_rfl) (fun _ _ _ h => h) (Or.inl ⟨by rfl, ?_⟩) (by assumption) ?_
          rotate_left
          · (intro w hSw; go_simp; try (with_reducible rfl))
          try simp only [Act.put, List.getElem_toArray, List.getElem_cons_zero, List.getElem_cons_succ, List.setIfInBounds_toArray, List.set_cons_zero, List.set_cons_succ]
          refine wpAnyH_take (i := 8) (v := ?_) rfl (by kernel_rfl) (by kernel_rfl) (by kernel_rfl) (fun _ _ _ h => h) (Or.inl ⟨by rfl, ?_⟩) (by assumption) ?_
          rotate_left
          · (intro w hSw; go_simp; try (with_reducible rfl))
          try simp only [Act.put, List.getElem_toArray, List.getElem_cons_zero, List.getElem_cons_succ, List.setIfInBounds_toArray, List.set_cons_zero, List.set_cons_succ]
          refine wpAnyH_take (i := 9) rfl (by kernel_rfl) (by kernel_rfl) (by kernel_rfl) (fun _ _ _ h => h) (yields_pref_o Mj (by rfl) _ rfl rfl) (by assumption) ?_
          try simp only [Act.put, List.getElem_toArray, List.getElem_cons_zero, List.getElem_cons_succ, List.setIfInBounds_toArray, List.set_cons_zero, List.set_cons_succ]
          refine wpAnyH_ready (rs := [10]) (by kernel_rfl) (by simp) ?_
          refine AllReadyH.cons rfl (fun K hK => ?_) AllReadyH.nil
          go_simp
          refine (C10 _ (by assumption)).out.mono ?_
          rintro e wr10 ⟨rfl, hb10⟩
          replace HP := Lib.hid (HP.out.below hb10)
          have hS10 := HeldR.next (by assumption) hb10
          clear hb10
          go_wp2_with fail
          refine hK.out _ _ hS10 (fun hHeld => ?_)
          clear hK K
          try simp only [Act.put, List.getElem_toArray, List.getElem_cons_zero, List.getElem_cons_succ, List.setIfInBounds_toArray, List.set_cons_zero, List.set_cons_succ]
          refine wpAnyH_take (i := 11) (v := ?_) rfl (by kernel_rfl) (by kernel_rfl) (by kernel_rfl) (fun _ _ _ h => h) (Or.inl ⟨by rfl, ?_⟩) (by assumption) ?_
          rotate_left
          · (intro w hSw; go_simp; try (with_reducible rfl))
          try simp only [Act.put, List.getElem_toArray, List.getElem_cons_zero, List.getElem_cons_succ, List.setIfInBounds_toArray, List.set_cons_zero, List.set_cons_succ]
          refine wpAnyH_take (i := 12) (v := ?_) rfl (by kernel_rfl) (by kernel_rfl) (by kernel_rfl) (fun _ _ _ h => h) (Or.inl ⟨by rfl, ?_⟩) (by assumption) ?_
          rotate_left
          · (intro w hSw; go_simp; try (with_reducible rfl))
          try simp only [Act.put, List.getElem_toArray, List.getElem_cons_zero, List.getElem_cons_succ, List.setIfInBounds_toArray, List.set_cons_zero, List.set_cons_succ]
          refine wpAnyH_done (by kernel_rfl) ?_ _
          refine NoPanic.normal ?_
          have HBL2 := Lib.hid (chain HBL.out hHeld.bel)
          have HG2 : Hid (wr10.rangeAt g 0 (flatE rs)) := Lib.hid (range_belowB HG.out hHeld.bel HGL.out)
          have HGL2 : Hid (g < wr10.heap.size) := Lib.hid (Nat.lt_of_lt_of_le HGL.out hHeld.bel.size)
          clear HBL HG HGL HK Mp4 Mj C10
          by_cases hc : c < 0
          · have hdc : decide (c < 0) = true := by simp [hc]
            rw [if_pos hc] at HST
            go_wp2_with fail
            go_roundw
            case rel => exact ⟨j, by omega, by first | rfl | go_num, Lib.hid (by rw [HPO.out, HST.out]), HP, HG2, HGL2, HBL2⟩
            case measure => simp [intOf]
          · have hdc : decide (c < 0) = false := by simp; omega
            rw [if_neg hc] at HST
            have HKK : Hid (posE rs f bs (m : Int) rs.length = (j + 1)) := Lib.hid (by rw [HPO.out, HST.out])
            have hkl : (j + 1) ≤ rs.length := by omega
            have HN0 := Lib.hid (RowE.nil wr10 (w.heap.size + 1))
            have HM1 : Hid ((j + 1) = (rs.take (j + 1)).length) := Lib.hid (by rw [List.length_take]; omega)
            have HR1 := Lib.hid (cell_take HG2.out (j + 1))
            have HY1 : Hid (AllGood (rs.take (j + 1))) := Lib.hid (fun e he => HAG.out e (List.mem_of_mem_take he))
            have HL1 : Hid (([] : List Ent).length + (rs.take (j + 1)).length ≤ 1000) := Lib.hid (by rw [List.length_take]; first | (simp; done) | (simp; omega))
            have HS1 : Hid (w.heap.size + 1 ≤ wr10.heap.size) := Lib.hid (Nat.succ_le_of_lt HP.out.addr.lt)
            have hki : (((j + 1) : Nat) : Int) ≤ (rs.length : Int) := by omega
            have hkc : (((j + 1) : Nat) : Int) ≤ (cap : Int) := by omega
            go_upto_region 10 with (first | (at_builtin; refine append_ents HN0 _ _ rfl rfl rfl (rs.take (j + 1)) rfl HM1 HR1 HY1 HL1 HS1 (fun v6 w6 HO6 HG6 HA6 => ?_)))
            have hb6 : Below wr10.heap.size wr10 w6 := below_none HG6.out
            have HP6 := Lib.hid (HP.out.below hb6)
            have HR6 := Lib.hid (range_belowB HG2.out hb6 HGL2.out)
            have HL6 := Lib.hid (Nat.lt_of_lt_of_le HGL2.out hb6.size)
            have HB6 := Lib.hid (chain HBL2.out hb6)
            have HN6 : Hid (v6.ownBlock ≠ some g) := Lib.hid (by rcases HA6.out with h | h <;> rw [h] <;> intro h2 <;> first | (injection h2 with h3; have := HGL2.out; omega) | cases h2)
            clear HN0 HM1 HR1 HY1 HL1 HS1 HG6 HA6 hb6 HP HG2 HGL2 HBL2
            have HM7 : Hid (1 = [(⟨f, bs, m, x⟩ : Ent)].length) := Lib.hid rfl
            have HY7 : Hid (AllGood [⟨f, bs, m, x⟩]) := Lib.hid (fun e he => by rw [List.mem_singleton.1 he]; exact HEN.out)
            have HL7 : Hid (([] ++ rs.take (j + 1)).length + [(⟨f, bs, m, x⟩ : Ent)].length ≤ 1000) := Lib.hid (by rw [List.nil_append, List.length_take]; first | (simp; done) | (simp; omega))
            go_upto_region 11 with (first
              | refine load_pref_g HP6 _ rfl rfl rfl ?_
              | refine build_ent H16 rfl _ _ rfl rfl rfl ?_
              | (refine build_entS H16 rfl _ rfl rfl (fun W7 HW7 => ?_); have HB7 : Hid (Below w6.heap.size w6 W7) := Lib.hid (by rw [HW7.out]; exact (Below.refl _ _).alloc (Nat.le_refl _) _); have HO7 := Lib.hid (HO6.out.below HB7.out); have HR7 : Hid (W7.rangeAt w6.heap.size 0 (flatE [⟨f, bs, m, x⟩])) := Lib.hid (by rw [HW7.out, show flatE [⟨f, bs, m, x⟩] = entL f bs (m : Int) x from List.append_nil _]; exact buildS_new _); have HS7 : Hid (w.heap.size + 1 ≤ W7.heap.size) := Lib.hid (Nat.le_trans (Nat.succ_le_of_lt HP6.out.addr.lt) HB7.out.size))
              | (at_builtin; refine append_ents HO7 _ _ rfl rfl rfl [⟨f, bs, m, x⟩] rfl HM7 HR7 HY7 HL7 HS7 (fun v8 w8 HO8 HG8 HA8 => ?_)))
            have HRr : Hid (W7.rangeAt g 0 (flatE rs)) := Lib.hid (range_belowB HR6.out HB7.out HL6.out)
            have HLr : Hid (g < W7.heap.size) := Lib.hid (Nat.lt_of_lt_of_le HL6.out HB7.out.size)
            have HR8 := Lib.hid (range_far HRr.out HG8.out HLr.out (fun h => HN6.out h.symm))
            have HN8 : Hid (v8.ownBlock ≠ some g) := Lib.hid (by
              rcases HA8.out with h | h <;> rw [h]
              · exact HN6.out
              · intro h2; injection h2 with h3; have := HLr.out; omega)
            have HB8 := Lib.hid ((chain HB6.out HB7.out).grown HG8.out (Nat.le_trans (Nat.le_succ _) HS7.out) (fun j hj => Nat.le_trans (Nat.le_succ _) (HO7.out.1.lt j hj).1))
            have HS8 : Hid (w.heap.size + 1 ≤ w8.heap.size) := Lib.hid (Nat.le_trans HS7.out HG8.out.size)
            clear HP6 HR6 HL6 HB6 HN6 HM7 HY7 HL7 HB7 HR7 HS7 HO7 HG8 HA8 HRr HLr HO6 HW7
            have HM9 : Hid (rs.length - (j + 1) = (rs.drop (j + 1)).length) := Lib.hid (by rw [List.length_drop])
            have HY9 : Hid (AllGood (rs.drop (j + 1))) := Lib.hid (fun e he => HAG.out e (List.mem_of_mem_drop he))
            have HL9 : Hid ((([] ++ rs.take (j + 1)) ++ [(⟨f, bs, m, x⟩ : Ent)]).length + (rs.drop (j + 1)).length ≤ 1000) := Lib.hid (by rw [List.nil_append, List.length_append, List.length_take, List.length_drop]; first | (simp; done) | (simp; omega))
            by_cases hcc : cap = (j + 1)
            · have HR9 : Hid (w8.rangeAt g 0 (flatE (rs.drop (j + 1)))) := Lib.hid (by rw [List.drop_eq_nil_of_le (by omega)]; intro j u hu; cases hu)
              have HM9z : Hid (0 = (rs.drop (j + 1)).length) := Lib.hid (by rw [List.length_drop]; omega)
              subst hcc
              go_wp2_with (at_builtin; first | refine append_ents HO8 _ _ rfl rfl rfl (rs.drop (j + 1)) rfl HM9 HR9 HY9 HL9 HS8 (fun v10 w10 HO10 HG10 HA10 => ?_) | refine append_ents HO8 _ _ rfl rfl rfl (rs.drop (j + 1)) rfl HM9z HR9 HY9 HL9 HS8 (fun v10 w10 HO10 HG10 HA10 => ?_))
              go_ret2
              exact ⟨v10, rfl, by rw [HSP.out, HKK.out]; exact HO10.out.mono (Nat.zero_le _), .inr (by rw [HSP.out, HKK.out]; exact HO10.out.mono (Nat.le_succ _)), HB8.out.grown HG10.out (Nat.le_trans (Nat.le_succ _) HS8.out) (fun j hj => Nat.le_trans (Nat.le_succ _) (HO8.out.1.lt j hj).1)⟩
            · have HR9 := Lib.hid (cell_drop HR8.out HAG.out (j + 1) hkl)
              go_wp2_with (at_builtin; first | refine append_ents HO8 _ _ rfl rfl rfl (rs.drop (j + 1)) rfl HM9 HR9 HY9 HL9 HS8 (fun v10 w10 HO10 HG10 HA10 => ?_))
              go_ret2
              exact ⟨v10, rfl, by rw [HSP.out, HKK.out]; exact HO10.out.mono (Nat.zero_le _), .inr (by rw [HSP.out, HKK.out]; exact HO10.out.mono (Nat.le_succ _)), HB8.out.grown HG10.out (Nat.le_trans (Nat.le_succ _) HS8.out) (fun j hj => Nat.le_trans (Nat.le_succ _) (HO8.out.1.lt j hj).1)⟩
        | zero =>
          have HK := Lib.hid ((HeldR.nil (W := wr) (Below.refl wr.heap.size wr)))
          replace HP := Lib.hid (HP.out.below (Below.refl _ _).drew)
          replace HG := Lib.hid (range_belowB HG.out (Below.refl wr.heap.size wr).drew HGL.out)
          replace HGL : Hid (g < wr.drew.heap.size) := Lib.hid HGL.out
          replace HBL := Lib.hid HBL.out.drew
          go_upto_region 6 with fail
          refine wp_region_noPanic ?_
          refine wp_region_held_drew (S := HeldR [] wr) (by kernel_rfl) HK.out.drew (fun hHeld => ?_)
          generalize wr.drew = V at *
          refine wpAnyH_take (i := 0) (v := ?_) rfl (by kernel_rfl) (by kernel_rfl) (by kernel_rfl) (fun _ _ _ h => h) (Or.inl ⟨by rfl, ?_⟩) (by assumption) ?_
          rotate_left
          · (intro w hSw; go_simp; try (with_reducible rfl))
          try simp only [Act.put, List.getElem_toArray, List.getElem_cons_zero, List.setIfInBounds_toArray, List.set_cons_zero, List.set_cons_succ]
          refine wpAnyH_take (i := 1) (v := ?_) rfl (by kernel_rfl) (by kernel_rfl) (by kernel_rfl) (fun _ _ _ h => h) (Or.inl ⟨by rfl, ?_⟩) (by assumption) ?_
          rotate_left
          · (intro w hSw; go_simp; try (with_reducible rfl))
          try simp only [Act.put, List.getElem_toArray, List.getElem_cons_zero, List.getElem_cons_succ, List.setIfInBounds_toArray, List.set_cons_zero, List.set_cons_succ]
          refine wpAnyH_take (i := 2) (v := ?_) rfl (by kernel_rfl) (by kernel_rfl) (by kernel_rfl) (fun _ _ _ h => h) (Or.inl ⟨by rfl, ?_⟩) (by assumption) ?_
          rotate_left
          · (intro w hSw; go_simp; try (with_reducible rfl))
          try simp only [Act.put, List.getElem_toArray, List.getElem_cons_zero, List.getElem_cons_succ, List.setIfInBounds_toArray, List.set_cons_zero, List.set_cons_succ]
          refine wpAnyH_take (i := 3) (v := undef) rfl (by kernel_rfl) (by kernel_rfl) (by kernel_rfl) (fun _ _ _ h => h) (Or.inr ⟨by rfl, rfl⟩) (by assumption) ?_
          try simp only [Act.put, List.getElem_toArray, List.getElem_cons_zero, List.getElem_cons_succ, List.setIfInBounds_toArray, List.set_cons_zero, List.set_cons_succ]
          refine wpAnyH_take (i := 4) (v := undef) rfl (by kernel_rfl) (by kernel_rfl) (by kernel_rfl) (fun _ _ _ h => h) (Or.inr ⟨by rfl, rfl⟩) (by assumption) ?_
          try simp only [Act.put, List.getElem_toArray, List.getElem_cons_zero, List.getElem_cons_succ, List.setIfInBounds_toArray, List.set_cons_zero, List.set_cons_succ]
          refine wpAnyH_take (i := 5) (v := undef) rfl (by kernel_rfl) (by kernel_rfl) (by kernel_rfl) (fun _ _ _ h => h) (Or.inr ⟨by rfl, rfl⟩) (by assumption) ?_
          try simp only [Act.put, List.getElem_toArray, List.getElem_cons_zero, List.getElem_cons_succ, List.setIfInBounds_toArray, List.set_cons_zero, List.set_cons_succ]
          refine wpAnyH_take (i := 6) (v := undef) rfl (by kernel_rfl) (by kernel_rfl) (by kernel_rfl) (fun _ _ _ h => h) (Or.inr ⟨by rfl, rfl⟩) (by assumption) ?_
          try simp only [Act.put, List.getElem_toArray, List.getElem_cons_zero, List.getElem_cons_succ, List.setIfInBounds_toArray, List.set_cons_zero, List.set_cons_succ]
          refine wpAnyH_take (i := 7) (v := undef) rfl (by kernel_rfl) (by kernel_rfl) (by kernel_rfl) (fun _ _ _ h => h) (Or.inr ⟨by rfl, rfl⟩) (by assumption) ?_
          try simp only [Act.put, List.getElem_toArray, List.getElem_cons_zero, List.getElem_cons_succ, List.setIfInBounds_toArray, List.set_cons_zero, List.set_cons_succ]
          refine wpAnyH_take (i := 8) (v := undef) rfl (by kernel_rfl) (by kernel_rfl) (by kernel_rfl) (fun _ _ _ h => h) (Or.inr ⟨by rfl, rfl⟩) (by assumption) ?_
          try simp only [Act.put, List.getElem_toArray, List.getElem_cons_zero, List.getElem_cons_succ, List.setIfInBounds_toArray, List.set_cons_zero, List.set_cons_succ]
          refine wpAnyH_take (i := 9) (v := undef) rfl (by kernel_rfl) (by kernel_rfl) (by kernel_rfl) (fun _ _ _ h => h) (Or.inr ⟨by rfl, rfl⟩) (by assumption) ?_
          try simp only [Act.put, List.getElem_toArray, List.getElem_cons_zero, List.getElem_cons_succ, List.setIfInBounds_toArray, List.set_cons_zero, List.set_cons_succ]
          refine wpAnyH_take (i := 10) (v := undef) rfl (by kernel_rfl) (by kernel_rfl) (by kernel_rfl) (fun _ _ _ h => h) (Or.inr ⟨by rfl, rfl⟩) (by assumption) ?_
          try simp only [Act.put, List.getElem_toArray, List.getElem_cons_zero, List.getElem_cons_succ, List.setIfInBounds_toArray, List.set_cons_zero, List.set_cons_succ]
          refine wpAnyH_take (i := 11) (v := undef) rfl (by kernel_rfl) (by kernel_rfl) (by kernel_rfl) (fun _ _ _ h => h) (Or.inr ⟨by rfl, rfl⟩) (by assumption) ?_
          try simp only [Act.put, List.getElem_toArray, List.getElem_cons_zero, List.getElem_cons_succ, List.setIfInBounds_toArray, List.set_cons_zero, List.set_cons_succ]
          refine wpAnyH_take (i := 12) (v := ?_) rfl (by kernel_rfl) (by kernel_rfl) (by kernel_rfl) (fun _ _ _ h => h) (Or.inl ⟨by rfl, ?_⟩) (by assumption) ?_
          rotate_left
          · (intro w hSw; go_simp; try (with_reducible rfl))
          try simp only [Act.put, List.getElem_toArray, List.getElem_cons_zero, List.getElem_cons_succ, List.setIfInBounds_toArray, List.set_cons_zero, List.set_cons_succ]
          refine wpAnyH_done (by kernel_rfl) ?_ _
          refine NoPanic.normal ?_
          clear hHeld HK
          have HKK : Hid (posE rs f bs (m : Int) rs.length = 0) := Lib.hid (by rw [HPO.out]; rfl)
          have hkl : 0 ≤ rs.length := by omega
          have HN0 := Lib.hid (RowE.nil V (w.heap.size + 1))
          have HM1 : Hid (0 = (rs.take 0).length) := Lib.hid (by rw [List.length_take]; omega)
          have HR1 := Lib.hid (cell_take HG.out 0)
          have HY1 : Hid (AllGood (rs.take 0)) := Lib.hid (fun e he => HAG.out e (List.mem_of_mem_take he))
          have HL1 : Hid (([] : List Ent).length + (rs.take 0).length ≤ 1000) := Lib.hid (by rw [List.length_take]; first | (simp; done) | (simp; omega))
          have HS1 : Hid (w.heap.size + 1 ≤ V.heap.size) := Lib.hid (Nat.succ_le_of_lt HP.out.addr.lt)
          have hki : ((0 : Nat) : Int) ≤ (rs.length : Int) := by omega
          have hkc : ((0 : Nat) : Int) ≤ (cap : Int) := by omega
          go_upto_region 10 with (first | (at_builtin; refine append_ents HN0 _ _ rfl rfl rfl (rs.take 0) rfl HM1 HR1 HY1 HL1 HS1 (fun v6 w6 HO6 HG6 HA6 => ?_)))
          have hb6 : Below V.heap.size V w6 := below_none HG6.out
          have HP6 := Lib.hid (HP.out.below hb6)
          have HR6 := Lib.hid (range_belowB HG.out hb6 HGL.out)
          have HL6 := Lib.hid (Nat.lt_of_lt_of_le HGL.out hb6.size)
          have HB6 := Lib.hid (chain HBL.out hb6)
          have HN6 : Hid (v6.ownBlock ≠ some g) := Lib.hid (by rcases HA6.out with h | h <;> rw [h] <;> intro h2 <;> first | (injection h2 with h3; have := HGL.out; omega) | cases h2)
          clear HN0 HM1 HR1 HY1 HL1 HS1 HG6 HA6 hb6 HP HG HGL HBL
          have HM7 : Hid (1 = [(⟨f, bs, m, x⟩ : Ent)].length) := Lib.hid rfl
          have HY7 : Hid (AllGood [⟨f, bs, m, x⟩]) := Lib.hid (fun e he => by rw [List.mem_singleton.1 he]; exact HEN.out)
          have HL7 : Hid (([] ++ rs.take 0).length + [(⟨f, bs, m, x⟩ : Ent)].length ≤ 1000) := Lib.hid (by rw [List.nil_append, List.length_take]; first | (simp; done) | (simp; omega))
          go_upto_region 11 with (first
            | refine load_pref_g HP6 _ rfl rfl rfl ?_
            | refine build_ent H16 rfl _ _ rfl rfl rfl ?_
            | (refine build_entS H16 rfl _ rfl rfl (fun W7 HW7 => ?_); have HB7 : Hid (Below w6.heap.size w6 W7) := Lib.hid (by rw [HW7.out]; exact (Below.refl _ _).alloc (Nat.le_refl _) _); have HO7 := Lib.hid (HO6.out.below HB7.out); have HR7 : Hid (W7.rangeAt w6.heap.size 0 (flatE [⟨f, bs, m, x⟩])) := Lib.hid (by rw [HW7.out, show flatE [⟨f, bs, m, x⟩] = entL f bs (m : Int) x from List.append_nil _]; exact buildS_new _); have HS7 : Hid (w.heap.size + 1 ≤ W7.heap.size) := Lib.hid (Nat.le_trans (Nat.succ_le_of_lt HP6.out.addr.lt) HB7.out.size))
            | (at_builtin; refine append_ents HO7 _ _ rfl rfl rfl [⟨f, bs, m, x⟩] rfl HM7 HR7 HY7 HL7 HS7 (fun v8 w8 HO8 HG8 HA8 => ?_)))
          have HRr : Hid (W7.rangeAt g 0 (flatE rs)) := Lib.hid (range_belowB HR6.out HB7.out HL6.out)
          have HLr : Hid (g < W7.heap.size) := Lib.hid (Nat.lt_of_lt_of_le HL6.out HB7.out.size)
          have HR8 := Lib.hid (range_far HRr.out HG8.out HLr.out (fun h => HN6.out h.symm))
          have HN8 : Hid (v8.ownBlock ≠ some g) := Lib.hid (by
            rcases HA8.out with h | h <;> rw [h]
            · exact HN6.out
            · intro h2; injection h2 with h3; have := HLr.out; omega)
          have HB8 := Lib.hid ((chain HB6.out HB7.out).grown HG8.out (Nat.le_trans (Nat.le_succ _) HS7.out) (fun j hj => Nat.le_trans (Nat.le_succ _) (HO7.out.1.lt j hj).1))
          have HS8 : Hid (w.heap.size + 1 ≤ w8.heap.size) := Lib.hid (Nat.le_trans HS7.out HG8.out.size)
          clear HP6 HR6 HL6 HB6 HN6 HM7 HY7 HL7 HB7 HR7 HS7 HO7 HG8 HA8 HRr HLr HO6 HW7
          have HM9 : Hid (rs.length - 0 = (rs.drop 0).length) := Lib.hid (by rw [List.length_drop])
          have HY9 : Hid (AllGood (rs.drop 0)) := Lib.hid (fun e he => HAG.out e (List.mem_of_mem_drop he))
          have HL9 : Hid ((([] ++ rs.take 0) ++ [(⟨f, bs, m, x⟩ : Ent)]).length + (rs.drop 0).length ≤ 1000) := Lib.hid (by rw [List.nil_append, List.length_append, List.length_take, List.length_drop]; first | (simp; done) | (simp; omega))
          have HM9f : Hid (rs.length = (rs.drop 0).length) := Lib.hid (by rw [List.drop_zero])
          by_cases hcc : cap = 0
          · have HR9 : Hid (w8.rangeAt g 0 (flatE (rs.drop 0))) := Lib.hid (by rw [List.drop_eq_nil_of_le (by omega)]; intro j u hu; cases hu)
            have HM9z : Hid (0 = (rs.drop 0).length) := Lib.hid (by rw [List.length_drop]; omega)
            subst hcc
            go_wp2_with (at_builtin; first | refine append_ents HO8 _ _ rfl rfl rfl (rs.drop 0) rfl HM9 HR9 HY9 HL9 HS8 (fun v10 w10 HO10 HG10 HA10 => ?_) | refine append_ents HO8 _ _ rfl rfl rfl (rs.drop 0) rfl HM9z HR9 HY9 HL9 HS8 (fun v10 w10 HO10 HG10 HA10 => ?_) | refine append_ents HO8 _ _ rfl rfl rfl (rs.drop 0) rfl HM9f HR9 HY9 HL9 HS8 (fun v10 w10 HO10 HG10 HA10 => ?_))
            go_ret2
            exact ⟨v10, rfl, by rw [HSP.out, HKK.out]; exact HO10.out.mono (Nat.zero_le _), .inr (by rw [HSP.out, HKK.out]; exact HO10.out.mono (Nat.le_succ _)), HB8.out.grown HG10.out (Nat.le_trans (Nat.le_succ _) HS8.out) (fun j hj => Nat.le_trans (Nat.le_succ _) (HO8.out.1.lt j hj).1)⟩
          · have HR9 := Lib.hid (cell_drop HR8.out HAG.out 0 hkl)
            have HR9f : Hid (w8.rangeAt g 0 (flatE (rs.drop 0))) := Lib.hid (by rw [List.drop_zero]; exact HR8.out)
            go_wp2_with (at_builtin; first | refine append_ents HO8 _ _ rfl rfl rfl (rs.drop 0) rfl HM9 HR9 HY9 HL9 HS8 (fun v10 w10 HO10 HG10 HA10 => ?_) | refine append_ents HO8 _ _ rfl rfl rfl (rs.drop 0) rfl HM9f HR9f HY9 HL9 HS8 (fun v10 w10 HO10 HG10 HA10 => ?_))
            go_ret2
            exact ⟨v10, rfl, by rw [HSP.out, HKK.out]; exact HO10.out.mono (Nat.zero_le _), .inr (by rw [HSP.out, HKK.out]; exact HO10.out.mono (Nat.le_succ _)), HB8.out.grown HG10.out (Nat.le_trans (Nat.le_succ _) HS8.out) (fun j hj => Nat.le_trans (Nat.le_succ _) (HO8.out.1.lt j hj).1)⟩
end Go.Proofs.YtgbajagacmfcmaaDoor
/- Contract of the reference's Has of layer 5. -/
namespace Go.Proofs.YtgbajagacmfcmaaDoor
open Go.RowKit
set_option linter.unusedVariables false
set_option maxRecDepth 20000

set_option maxRecDepth 100000 in
set_option maxHeartbeats 1000000 in
theorem refHas_any (f : Int) (ps : List Nat) (n : Nat) (g : Int) (us : List Nat) (w : World) (hp : ps.length = 16) (hu : us.length = 16) (lp : ∀ x ∈ ps, x < 256) (lu : ∀ x ∈ us, x < 256) (hn : n ≤ 1000) :
    Calls Tryd.prog 31 #[prefV f ps (n : Int), addrV g us] w fun e w' => e = .returned (.bool (hasB f ps n g us)) ∧ Below w.heap.size w w' := by
  have HP := Lib.hid hp
  have HU := Lib.hid hu
  obtain ⟨R, eR⟩ : ∃ R, hasB f ps n g us = R := ⟨_, rfl⟩
  rw [eR]
  have HE : Hid (decide (f = g ∧ ∀ i : Nat, i < n → bitN f ps (i : Int) = bitN g us (i : Int)) = R) := Lib.hid (by rw [← eR]; rfl)
  have HC1 := fun W (k : Nat) (hk : k ≤ 1000) => Lib.hid (refBit_any f ps (k : Int) W hp lp (wf_small (by omega)))
  have HC2 := fun W (k : Nat) (hk : k ≤ 1000) => Lib.hid (refBit_any g us (k : Int) W hu lu (wf_small (by omega)))
  obtain ⟨cs, ds, ecs, eds, H1, H2, HB⟩ := pref_addr_boxed f ps (n : Int) g us w hp hu
  rw [ecs, eds]
  clear ecs eds hp hu eR lp lu
  go_enter Tryd.func31, Tryd.ntmps31
  go_upto_region 1 with fail
  generalize ((w.alloc (.cells cs 27)).alloc (.cells ds 25)) = W at *
  have f1 := H1.out.addr.fam
  have f2 := H2.out.fam
  by_cases hfg : f = g
  · subst hfg
    have hd : (f != f) = false := by simp
    obtain ⟨L, hL⟩ : ∃ L, [(w.heap.size, 0, prefL f ps (n : Int)), (w.heap.size, 0, addrL f ps), (w.heap.size + 1, 0, addrL f us)] = L := ⟨_, rfl⟩
    have HK := Lib.hid (show HeldR L w W by rw [← hL]; exact ((HeldR.nil HB.out).addr H2.out).pref H1.out)
    have Mp := Lib.hid (show InP L w.heap.size f ps (n : Int) from ⟨by rw [← hL]; simp, HP.out⟩)
    have Ma := Lib.hid (show InA L w.heap.size f ps from ⟨by rw [← hL]; simp, HP.out⟩)
    have Mt3 := Lib.hid (show InA L (w.heap.size + 1) f us from ⟨by rw [← hL]; simp, HU.out⟩)
    have Cn := Lib.hid (bitsR Mp.out w)
    clear hL H1 H2 HB
    go_wp2_with fail
    go_loopw [5] (fun i wr => ∃ k : Nat, k ≤ n ∧ i = .int .i64 (k : Int) ∧ Hid (HeldR L w wr) ∧ Hid (∀ i : Nat, i < k → bitN f ps (i : Int) = bitN f us (i : Int))) (fun i _ => n - (intOf i).toNat)
    case atStart => exact ⟨0, by omega, rfl, HK, Lib.hid (fun i hi => absurd hi (by omega))⟩
    case round =>
      obtain ⟨k, hk, rfl, HS, HT⟩ := hrel
      clear HK f1 f2
      have hb17 := Cn.out wr HS.out
      by_cases hkn : k < n
      · have hd2 : decide ((k : Int) < (n : Int)) = true := by simp; omega
        have C1 : ∀ w', HeldR L w w' → Hid (Calls Tryd.prog 47 #[addrV f ps, .int .i64 (k : Int)] w' fun e w'' => e = .returned (.int .i64 ((bitN f ps (k : Int) : Nat) : Int)) ∧ Below w'.heap.size w' w'') := fun w' h => HC1 w' k (by omega)
        have C2 : ∀ w', HeldR L w w' → Hid (Calls Tryd.prog 47 #[addrV f us, .int .i64 (k : Int)] w' fun e w'' => e = .returned (.int .i64 ((bitN f us (k : Int) : Nat) : Int)) ∧ Below w'.heap.size w' w'') := fun w' h => HC2 w' k (by omega)
        have HXY : Hid (bitN f ps (k : Int) = bitN f ps (k : Int) ∧ bitN f us (k : Int) = bitN f us (k : Int)) := Lib.hid ⟨rfl, rfl⟩
        obtain ⟨x, hx⟩ : ∃ x, bitN f ps (k : Int) = x := ⟨_, rfl⟩
        obtain ⟨y, hy⟩ : ∃ y, bitN f us (k : Int) = y := ⟨_, rfl⟩
        rw [hx] at C1
        rw [hy] at C2
        have HX := Lib.hid hx
        have HY := Lib.hid hy
        clear hx hy HXY
        go_upto_region 6 with fail
        by_cases hxy : x = y
        · subst hxy
          have hd3 : ((x : Int) != (x : Int)) = false := by simp
          refine wp_region_noPanic ?_
          refine wp_region_held_drew (S := HeldR L w) (by kernel_rfl) HS.out.drew (fun hHeld => ?_)
          refine wpAnyH_take (i := 0) (v := ?_) rfl (by kernel_rfl) (by kernel_rfl) (by kernel_rfl) (fun _ _ _ h => h) (Or.inl ⟨by rfl, ?_⟩) (by assumption) ?_
          rotate_left
          · (intro w hSw; go_simp; try (with_reducible rfl))
          try simp only [Act.put, List.getElem_toArray, List.getElem_cons_zero, List.setIfInBounds_toArray, List.set_cons_zero, List.set_cons_succ]
          refine wpAnyH_take (i := 1) rfl (by kernel_rfl) (by kernel_rfl) (by kernel_rfl) (fun _ _ _ h => h) (yields_addr Ma (by rfl) _ rfl rfl) (by assumption) ?_
          try simp only [Act.put, List.getElem_toArray, List.getElem_cons_zero, List.getElem_cons_succ, List.setIfInBounds_toArray, List.set_cons_zero, List.set_cons_succ]
          refine wpAnyH_take (i := 2) (v := ?_) rfl (by kernel_rfl) (by kernel_rfl) (by kernel_rfl) (fun _ _ _ h => h) (Or.inl ⟨by rfl, ?_⟩) (by assumption) ?_
          rotate_left
          · (intro w hSw; go_simp; try (with_reducible rfl))
          try simp only [Act.put, List.getElem_toArray, List.getElem_cons_zero, List.getElem_cons_succ, List.setIfInBounds_toArray, List.set_cons_zero, List.set_cons_succ]
          refine wpAnyH_take (i := 4) rfl (by kernel_rfl) (by kernel_rfl) (by kernel_rfl) (fun _ _ _ h => h) (yields_addr Mt3 (by rfl) _ rfl rfl) (by assumption) ?_
          try simp only [Act.put, List.getElem_toArray, List.getElem_cons_zero, List.getElem_cons_succ, List.setIfInBounds_toArray, List.set_cons_zero, List.set_cons_succ]
          refine wpAnyH_take (i := 5) (v := ?_) rfl (by kernel_rfl) (by kernel_rfl) (by kernel_rfl) (fun _ _ _ h => h) (Or.inl ⟨by rfl, ?_⟩) (by assumption) ?_
          rotate_left
          · (intro w hSw; go_simp; try (with_reducible rfl))
          try simp only [Act.put, List.getElem_toArray, List.getElem_cons_zero, List.getElem_cons_succ, List.setIfInBounds_toArray, List.set_cons_zero, List.set_cons_succ]
          refine wpAnyH_ready (rs := [3]) (by kernel_rfl) (by simp) ?_
          refine AllReadyH.cons rfl (fun K hK => ?_) AllReadyH.nil
          go_simp
          refine (Calls.heldR (C1 _ (by assumption)).out (by assumption)).mono ?_
          rintro e wr3 ⟨rfl, hS3⟩
          go_wp2_with fail
          refine hK.out _ _ hS3 (fun hHeld => ?_)
          clear hK K
          try simp only [Act.put, List.getElem_toArray, List.getElem_cons_zero, List.getElem_cons_succ, List.setIfInBounds_toArray, List.set_cons_zero, List.set_cons_succ]
          refine wpAnyH_ready (rs := [6]) (by kernel_rfl) (by simp) ?_
          refine AllReadyH.cons rfl (fun K hK => ?_) AllReadyH.nil
          go_simp
          refine (Calls.heldR (C2 _ (by assumption)).out (by assumption)).mono ?_
          rintro e wr6 ⟨rfl, hS6⟩
          go_wp2_with fail
          refine hK.out _ _ hS6 (fun hHeld => ?_)
          clear hK K
          try simp only [Act.put, List.getElem_toArray, List.getElem_cons_zero, List.getElem_cons_succ, List.setIfInBounds_toArray, List.set_cons_zero, List.set_cons_succ]
          refine wpAnyH_take (i := 7) (v := ?_) rfl (by kernel_rfl) (by kernel_rfl) (by kernel_rfl) (fun _ _ _ h => h) (Or.inl ⟨by rfl, ?_⟩) (by assumption) ?_
          rotate_left
          · (intro w hSw; go_simp; try (with_reducible rfl))
          try simp only [Act.put, List.getElem_toArray, List.getElem_cons_zero, List.getElem_cons_succ, List.setIfInBounds_toArray, List.set_cons_zero, List.set_cons_succ]
          refine wpAnyH_done (by kernel_rfl) ?_ _
          refine NoPanic.normal ?_
          go_wp2_with fail
          go_roundw
          case rel => exact ⟨k + 1, by omega, by go_num, Lib.hid hHeld, Lib.hid (fun i hi => by
            by_cases e : i = k
            · subst e; rw [HX.out, HY.out]
            · exact HT.out i (by omega))⟩
          case measure => simp [intOf]; omega
        · have hd3 : ((x : Int) != (y : Int)) = true := by simp; omega
          have HE2 : Hid (false = R) := Lib.hid (by rw [← HE.out]; exact (decide_eq_false (fun h => hxy (by rw [← HX.out, ← HY.out]; exact h.2 k hkn))).symm)
          refine wp_region_noPanic ?_
          refine wp_region_held_drew (S := HeldR L w) (by kernel_rfl) HS.out.drew (fun hHeld => ?_)
          refine wpAnyH_take (i := 0) (v := ?_) rfl (by kernel_rfl) (by kernel_rfl) (by kernel_rfl) (fun _ _ _ h => h) (Or.inl ⟨by rfl, ?_⟩) (by assumption) ?_
          rotate_left
          · (intro w hSw; go_simp; try (with_reducible rfl))
          try simp only [Act.put, List.getElem_toArray, List.getElem_cons_zero, List.setIfInBounds_toArray, List.set_cons_zero, List.set_cons_succ]
          refine wpAnyH_take (i := 1) rfl (by kernel_rfl) (by kernel_rfl) (by kernel_rfl) (fun _ _ _ h => h) (yields_addr Ma (by rfl) _ rfl rfl) (by assumption) ?_
          try simp only [Act.put, List.getElem_toArray, List.getElem_cons_zero, List.getElem_cons_succ, List.setIfInBounds_toArray, List.set_cons_zero, List.set_cons_succ]
          refine wpAnyH_take (i := 2) (v := ?_) rfl (by kernel_rfl) (by kernel_rfl) (by kernel_rfl) (fun _ _ _ h => h) (Or.inl ⟨by rfl, ?_⟩) (by assumption) ?_
          rotate_left
          · (intro w hSw; go_simp; try (with_reducible rfl))
          try simp only [Act.put, List.getElem_toArray, List.getElem_cons_zero, List.getElem_cons_succ, List.setIfInBounds_toArray, List.set_cons_zero, List.set_cons_succ]
          refine wpAnyH_take (i := 4) rfl (by kernel_rfl) (by kernel_rfl) (by kernel_rfl) (fun _ _ _ h => h) (yields_addr Mt3 (by rfl) _ rfl rfl) (by assumption) ?_
          try simp only [Act.put, List.getElem_toArray, List.getElem_cons_zero, List.getElem_cons_succ, List.setIfInBounds_toArray, List.set_cons_zero, List.set_cons_succ]
          refine wpAnyH_take (i := 5) (v := ?_) rfl (by kernel_rfl) (by kernel_rfl) (by kernel_rfl) (fun _ _ _ h => h) (Or.inl ⟨by rfl, ?_⟩) (by assumption) ?_
          rotate_left
          · (intro w hSw; go_simp; try (with_reducible rfl))
          try simp only [Act.put, List.getElem_toArray, List.getElem_cons_zero, List.getElem_cons_succ, List.setIfInBounds_toArray, List.set_cons_zero, List.set_cons_succ]
          refine wpAnyH_ready (rs := [3]) (by kernel_rfl) (by simp) ?_
          refine AllReadyH.cons rfl (fun K hK => ?_) AllReadyH.nil
          go_simp
          refine (Calls.heldR (C1 _ (by assumption)).out (by assumption)).mono ?_
          rintro e wr3 ⟨rfl, hS3⟩
          go_wp2_with fail
          refine hK.out _ _ hS3 (fun hHeld => ?_)
          clear hK K
          try simp only [Act.put, List.getElem_toArray, List.getElem_cons_zero, List.getElem_cons_succ, List.setIfInBounds_toArray, List.set_cons_zero, List.set_cons_succ]
          refine wpAnyH_ready (rs := [6]) (by kernel_rfl) (by simp) ?_
          refine AllReadyH.cons rfl (fun K hK => ?_) AllReadyH.nil
          go_simp
          refine (Calls.heldR (C2 _ (by assumption)).out (by assumption)).mono ?_
          rintro e wr6 ⟨rfl, hS6⟩
          go_wp2_with fail
          refine hK.out _ _ hS6 (fun hHeld => ?_)
          clear hK K
          try simp only [Act.put, List.getElem_toArray, List.getElem_cons_zero, List.getElem_cons_succ, List.setIfInBounds_toArray, List.set_cons_zero, List.set_cons_succ]
          refine wpAnyH_take (i := 7) (v := ?_) rfl (by kernel_rfl) (by kernel_rfl) (by kernel_rfl) (fun _ _ _ h => h) (Or.inl ⟨by rfl, ?_⟩) (by assumption) ?_
          rotate_left
          · (intro w hSw; go_simp; try (with_reducible rfl))
          try simp only [Act.put, List.getElem_toArray, List.getElem_cons_zero, List.getElem_cons_succ, List.setIfInBounds_toArray, List.set_cons_zero, List.set_cons_succ]
          refine wpAnyH_done (by kernel_rfl) ?_ _
          refine NoPanic.normal ?_
          go_wp2_with fail
          go_ret
          exact ⟨by rw [← HE2.out]; rfl, hHeld.bel⟩
      · obtain rfl : k = n := by omega
        have hd2 : decide ((k : Int) < (k : Int)) = false := by simp
        have HE2 : Hid (true = R) := Lib.hid (by rw [← HE.out]; exact (decide_eq_true ⟨by trivial, HT.out⟩).symm)
        go_wp2_with fail
        go_ret
        exact ⟨by rw [← HE2.out]; rfl, HS.out.bel⟩
  · have hd : (f != g) = true := by simp [hfg]
    have HE2 : Hid (false = R) := Lib.hid (by rw [← HE.out]; exact (decide_eq_false (fun h => hfg h.1)).symm)
    go_wp2_with fail
    go_ret
    exact ⟨by rw [← HE2.out]; rfl, HB.out⟩
end Go.Proofs.YtgbajagacmfcmaaDoor
/- Contract of the reference's Find of layer 6. -/
namespace Go.Proofs.YtgbajagacmfcmaaDoor
open Go.RowKit
set_option linter.unusedVariables false
set_option maxRecDepth 20000

/-- The better one of two entries, where the second one has the address. -/
def betterE (g : Int) (us : List Nat) (o : Option Ent) (e : Ent) : Option Ent := if hasB e.f e.b e.n g us = true then (match o with | none => some e | some b => if b.n < e.n then some e else some b) else o
/-- An address's entry. -/
def findE (es : List Ent) (g : Int) (us : List Nat) : Option Ent := es.foldl (betterE g us) none
def entRet (o : Option Ent) : Value := match o with
  | some e => .tuple #[entV e.f e.b (e.n : Int) e.v, .bool true]
  | none => .tuple #[entV 0 (List.replicate 16 0) 0 0, .bool false]
theorem foldl_take {α β : Type} (f : β → α → β) (z : β) (l : List α) (k : Nat) (hk : k < l.length) : (l.take (k + 1)).foldl f z = f ((l.take k).foldl f z) l[k] := by
  rw [List.take_succ_eq_append_getElem hk, List.foldl_append]
  rfl
/-- Which index is the best one so far. -/
def BestI (es : List Ent) (o : Option Ent) (i : Int) (k : Nat) : Prop := (i = -1 ∧ o = none) ∨ ∃ (j : Nat) (h : j < es.length), i = (j : Int) ∧ j < k ∧ o = some es[j]
set_option maxRecDepth 100000 in
set_option maxHeartbeats 2000000 in
theorem refFind_any (v : Value) (es : List Ent) (f : Int) (us : List Nat) (w : World) (base : Nat) (hE : RowE w base v es) (h16 : us.length = 16) (hlt : ∀ x ∈ us, x < 256) :
    Calls Tryd.prog 36 #[v, addrV f us] w fun e w' => e = .returned (entRet (findE es f us)) ∧ Below w.heap.size w w' := by
  obtain ⟨R, eR⟩ : ∃ R, findE es f us = R := ⟨_, rfl⟩
  rw [eR]
  have HR := Lib.hid eR
  have H16 := Lib.hid h16
  have HLT := Lib.hid hlt
  have HLZ : Hid ((List.replicate 16 0).length = 16) := Lib.hid rfl
  have hlen := hE.2.2
  obtain ⟨cs, ecs, H1, HB⟩ := addr_boxed f us w h16
  have HZ := ent_zeroed (w.alloc (.cells cs 25))
  rw [heap_alloc] at HZ
  have HZH := Lib.hid HZ
  have H1a := Lib.hid (H1.out.alloc (.cells zE 69))
  have HBa := Lib.hid (HB.out.alloc HB.out.size (.cells zE 69))
  rw [ecs]
  clear ecs h16 eR HZ H1 HB hlt
  rcases hE.form with ⟨rfl, rfl⟩ | ⟨g, cap, rfl, hg1, hg2, hcap, hcap2, hrg⟩
  · have HN : Hid (R = none) := Lib.hid HR.out.symm
    clear hE
    go_enter Tryd.func36, Tryd.ntmps36
    go_upto_region 1 with fail
    generalize ((w.alloc (.cells cs 25)).alloc (.cells zE 69)) = W at *
    go_wp2_with fail
    go_loop [6, 7] (fun b i => i = .int .i64 0 ∧ b = .int .i64 (-1)) (fun _ _ => 0)
    case atStart => exact ⟨rfl, rfl⟩
    case round =>
      obtain ⟨rfl, rfl⟩ := hrel
      go_wp2_with (first | refine build_ent0 rfl rfl ?_ | refine store_ent HZH _ _ HLZ rfl rfl rfl rfl (fun W HW HP => ?_))
      refine bodyPost_ret (results_ent2 Tryd.results36 rfl HP.out) rfl ⟨by rw [HN.out]; rfl, by rw [HW.out]; exact below_cells (by omega) _ _ _ HBa.out⟩
  · go_enter Tryd.func36, Tryd.ntmps36
    go_upto_region 1 with fail
    generalize ((w.alloc (.cells cs 25)).alloc (.cells zE 69)) = W at *
    obtain ⟨L, hL⟩ : ∃ L, [(w.heap.size, 0, addrL f us), (g, 0, flatE es)] = L := ⟨_, rfl⟩
    have hrg2 : W.rangeAt g 0 (flatE es) := fun j u hu => by rw [HBa.out.cell (p := ⟨g, 0 + j, none⟩) hg2]; exact hrg j u hu
    have HK := Lib.hid (show HeldR L w W by rw [← hL]; exact ((HeldR.nil HBa.out).cons hrg2 (Nat.lt_of_lt_of_le hg2 HBa.out.size)).addr H1a.out)
    have Mt3 := Lib.hid (show InA L w.heap.size f us from ⟨by rw [← hL]; simp, H16.out⟩)
    have HME : Hid (∀ w', HeldR L w w' → w'.rangeAt g 0 (flatE es)) := Lib.hid (fun w' h => h.get (by rw [← hL]; simp))
    have HAG := Lib.hid hE.2.1
    have HRE : Hid ((es.take es.length).foldl (betterE f us) none = R) := Lib.hid (by rw [List.take_length]; exact HR.out)
    have HI0 : Hid (BestI es ((es.take 0).foldl (betterE f us) none) (-1) 0) := Lib.hid (.inl ⟨rfl, rfl⟩)
    clear hL H1a hrg hrg2 hE HR
    go_wp2_with fail
    go_loopw [6, 7] (fun b i wr => ∃ (k : Nat) (z : Int), k ≤ es.length ∧ i = .int .i64 (k : Int) ∧ b = .int .i64 z ∧ Hid (HeldR L w wr) ∧ Hid (EntAt wr (w.heap.size + 1) 0 (List.replicate 16 0) 0 0) ∧ Hid (BestI es ((es.take k).foldl (betterE f us) none) z k)) (fun _ i _ => es.length - (intOf i).toNat)
    case atStart => exact ⟨0, -1, Nat.zero_le _, rfl, rfl, HK, HZH, HI0⟩
    case round =>
      obtain ⟨k, z, hk, rfl, rfl, HS, HZ2, HI⟩ := hrel
      clear HK HI0 HZH
      by_cases hkl : k < es.length
      · have hd : decide ((k : Int) < (es.length : Int)) = true := by simp; omega
        have hdn : decide (k < es.length) = true := by simp; omega
        have hki : (k : Int) < (es.length : Int) := by omega
        obtain ⟨en, hen⟩ : ∃ en, es[k] = en := ⟨_, rfl⟩
        have hgd : en.Good := by rw [← hen]; exact HAG.out _ (List.getElem_mem hkl)
        have Mk := Lib.hid (show InPo L w g (k * 19) en.f en.b (en.n : Int) from ⟨fun w' h => range_pref (by rw [← hen]; exact range_ent (HME.out w' h) HAG.out k hkl), hgd.1.len⟩)
        have Ck := Lib.hid (show CellR L w g (k * 19 + 17) (.int .i64 (en.n : Int)) from fun w' h => by have := cell_bits (range_ent (HME.out w' h) HAG.out k hkl) (by rw [hen]; exact hgd.1.len); rw [hen] at this; exact this)
        have HST : Hid ((es.take (k + 1)).foldl (betterE f us) none = betterE f us ((es.take k).foldl (betterE f us) none) en) := Lib.hid (by rw [foldl_take _ _ _ _ hkl, hen])
        have HNN := bitsN_le en.f
        have hnle := hgd.1.le
        have HHC := fun W => Lib.hid (refHas_any en.f en.b en.n f us W hgd.1.len H16.out hgd.1.lt HLT.out (by omega))
        have HBE : Hid (∀ o, betterE f us o en = if hasB en.f en.b en.n f us = true then (match o with | none => some en | some b => if b.n < en.n then some en else some b) else o) := Lib.hid (fun _ => rfl)
        generalize hasB en.f en.b en.n f us = hb at *
        have C6 : ∀ w', HeldR L w w' → Hid (Calls Tryd.prog 31 #[prefV en.f en.b (en.n : Int), addrV f us] w' fun e w'' => e = .returned (.bool hb) ∧ Below w'.heap.size w' w'') := fun w' h => HHC w'
        have HEK : Hid (es[k] = en) := Lib.hid hen
        clear hen HHC hgd
        generalize (es.take k).foldl (betterE f us) none = o at *
        obtain ⟨o2, ho2⟩ : ∃ o2, (es.take (k + 1)).foldl (betterE f us) none = o2 := ⟨_, rfl⟩
        rw [ho2] at HST
        have HO2 := Lib.hid ho2
        clear ho2
        go_upto_region 5 with fail
        replace HZ2 := Lib.hid (HZ2.out.below (Below.refl _ _).drew)
        refine wp_region_noPanic ?_
        refine wp_region_held_drew (S := HeldR L w) (by kernel_rfl) HS.out.drew (fun hHeld => ?_)
        refine wpAnyH_take (i := 0) (v := ?_) rfl (by kernel_rfl) (by kernel_rfl) (by kernel_rfl) (fun _ _ _ h => h) (Or.inl ⟨by rfl, ?_⟩) (by assumption) ?_
        rotate_left
        · (intro w hSw; go_simp; try (with_reducible rfl))
        try simp only [Act.put, List.getElem_toArray, List.getElem_cons_zero, List.setIfInBounds_toArray, List.set_cons_zero, List.set_cons_succ]
        refine wpAnyH_take (i := 1) (v := ?_) rfl (by kernel_rfl) (by kernel_rfl) (by kernel_rfl) (fun _ _ _ h => h) (Or.inl ⟨by rfl, ?_⟩) (by assumption) ?_
        rotate_left
        · (intro w hSw; go_simp; try (with_reducible rfl))
        try simp only [Act.put, List.getElem_toArray, List.getElem_cons_zero, List.getElem_cons_succ, List.setIfInBounds_toArray, List.set_cons_zero, List.set_cons_succ]
        refine wpAnyH_take (i := 2) (v := ?_) rfl (by kernel_rfl) (by kernel_rfl) (by kernel_rfl) (fun _ _ _ h => h) (Or.inl ⟨by rfl, ?_⟩) (by assumption) ?_
        rotate_left
        · (intro w hSw; go_simp; try (with_reducible rfl))
        try simp only [Act.put, List.getElem_toArray, List.getElem_cons_zero, List.getElem_cons_succ, List.setIfInBounds_toArray, List.set_cons_zero, List.set_cons_succ]
        refine wpAnyH_take (i := 3) (v := ?_) rfl (by kernel_rfl) (by kernel_rfl) (by kernel_rfl) (fun _ _ _ h => h) (Or.inl ⟨by rfl, ?_⟩) (by assumption) ?_
        rotate_left
        · (intro w hSw; go_simp; try (with_reducible rfl))
        try simp only [Act.put, List.getElem_toArray, List.getElem_cons_zero, List.getElem_cons_succ, List.setIfInBounds_toArray, List.set_cons_zero, List.set_cons_succ]
        refine wpAnyH_take (i := 4) rfl (by kernel_rfl) (by kernel_rfl) (by kernel_rfl) (fun _ _ _ h => h) (yields_pref_o Mk (by rfl) _ rfl rfl) (by assumption) ?_
        try simp only [Act.put, List.getElem_toArray, List.getElem_cons_zero, List.getElem_cons_succ, List.setIfInBounds_toArray, List.set_cons_zero, List.set_cons_succ]
        refine wpAnyH_take (i := 5) rfl (by kernel_rfl) (by kernel_rfl) (by kernel_rfl) (fun _ _ _ h => h) (yields_addr Mt3 (by rfl) _ rfl rfl) (by assumption) ?_
        try simp only [Act.put, List.getElem_toArray, List.getElem_cons_zero, List.getElem_cons_succ, List.setIfInBounds_toArray, List.set_cons_zero, List.set_cons_succ]
        refine wpAnyH_ready (rs := [6]) (by kernel_rfl) (by simp) ?_
        refine AllReadyH.cons rfl (fun K hK => ?_) AllReadyH.nil
        go_simp
        refine (C6 _ (by assumption)).out.mono ?_
        rintro e wr6 ⟨rfl, hb6⟩
        replace HZ2 := Lib.hid (HZ2.out.below hb6)
        have hS6 := HeldR.next (by assumption) hb6
        clear hb6
        go_wp2_with fail
        refine hK.out _ _ hS6 (fun hHeld => ?_)
        clear hK K
        try simp only [Act.put, List.getElem_toArray, List.getElem_cons_zero, List.getElem_cons_succ, List.setIfInBounds_toArray, List.set_cons_zero, List.set_cons_succ]
        refine wpAnyH_take (i := 7) (v := ?_) rfl (by kernel_rfl) (by kernel_rfl) (by kernel_rfl) (fun _ _ _ h => h) (Or.inl ⟨by rfl, ?_⟩) (by assumption) ?_
        rotate_left
        · (intro w hSw; go_simp; try (with_reducible rfl))
        try simp only [Act.put, List.getElem_toArray, List.getElem_cons_zero, List.getElem_cons_succ, List.setIfInBounds_toArray, List.set_cons_zero, List.set_cons_succ]
        refine wpAnyH_done (by kernel_rfl) ?_ _
        refine NoPanic.normal ?_
        clear C6
        go_upto_region 6 with fail
        replace HZ2 := Lib.hid (HZ2.out.below (Below.refl _ _).drew)
        cases hb with
        | false =>
          have HO : Hid (o2 = o) := Lib.hid (by rw [HST.out, HBE.out]; rfl)
          refine wp_region_noPanic ?_
          refine wp_region_held_drew (S := HeldR L w) (by kernel_rfl) hHeld.drew (fun hHeld2 => ?_)
          refine wpAnyH_take (i := 0) (v := ?_) rfl (by kernel_rfl) (by kernel_rfl) (by kernel_rfl) (fun _ _ _ h => h) (Or.inl ⟨by rfl, ?_⟩) (by assumption) ?_
          rotate_left
          · (intro w hSw; go_simp; try (with_reducible rfl))
          try simp only [Act.put, List.getElem_toArray, List.getElem_cons_zero, List.setIfInBounds_toArray, List.set_cons_zero, List.set_cons_succ]
          refine wpAnyH_take (i := 1) (v := ?_) rfl (by kernel_rfl) (by kernel_rfl) (by kernel_rfl) (fun _ _ _ h => h) (Or.inl ⟨by rfl, ?_⟩) (by assumption) ?_
          rotate_left
          · (intro w hSw; go_simp; try (with_reducible rfl))
          try simp only [Act.put, List.getElem_toArray, List.getElem_cons_zero, List.getElem_cons_succ, List.setIfInBounds_toArray, List.set_cons_zero, List.set_cons_succ]
          refine wpAnyH_take (i := 2) (v := undef) rfl (by kernel_rfl) (by kernel_rfl) (by kernel_rfl) (fun _ _ _ h => h) (Or.inr ⟨by rfl, rfl⟩) (by assumption) ?_
          try simp only [Act.put, List.getElem_toArray, List.getElem_cons_zero, List.getElem_cons_succ, List.setIfInBounds_toArray, List.set_cons_zero, List.set_cons_succ]
          refine wpAnyH_take (i := 3) (v := undef) rfl (by kernel_rfl) (by kernel_rfl) (by kernel_rfl) (fun _ _ _ h => h) (Or.inr ⟨by rfl, rfl⟩) (by assumption) ?_
          try simp only [Act.put, List.getElem_toArray, List.getElem_cons_zero, List.getElem_cons_succ, List.setIfInBounds_toArray, List.set_cons_zero, List.set_cons_succ]
          refine wpAnyH_take (i := 4) (v := undef) rfl (by kernel_rfl) (by kernel_rfl) (by kernel_rfl) (fun _ _ _ h => h) (Or.inr ⟨by rfl, rfl⟩) (by assumption) ?_
          try simp only [Act.put, List.getElem_toArray, List.getElem_cons_zero, List.getElem_cons_succ, List.setIfInBounds_toArray, List.set_cons_zero, List.set_cons_succ]
          refine wpAnyH_take (i := 5) (v := undef) rfl (by kernel_rfl) (by kernel_rfl) (by kernel_rfl) (fun _ _ _ h => h) (Or.inr ⟨by rfl, rfl⟩) (by assumption) ?_
          try simp only [Act.put, List.getElem_toArray, List.getElem_cons_zero, List.getElem_cons_succ, List.setIfInBounds_toArray, List.set_cons_zero, List.set_cons_succ]
          refine wpAnyH_take (i := 6) (v := undef) rfl (by kernel_rfl) (by kernel_rfl) (by kernel_rfl) (fun _ _ _ h => h) (Or.inr ⟨by rfl, rfl⟩) (by assumption) ?_
          try simp only [Act.put, List.getElem_toArray, List.getElem_cons_zero, List.getElem_cons_succ, List.setIfInBounds_toArray, List.set_cons_zero, List.set_cons_succ]
          refine wpAnyH_take (i := 7) (v := undef) rfl (by kernel_rfl) (by kernel_rfl) (by kernel_rfl) (fun _ _ _ h => h) (Or.inr ⟨by rfl, rfl⟩) (by assumption) ?_
          try simp only [Act.put, List.getElem_toArray, List.getElem_cons_zero, List.getElem_cons_succ, List.setIfInBounds_toArray, List.set_cons_zero, List.set_cons_succ]
          refine wpAnyH_take (i := 8) (v := undef) rfl (by kernel_rfl) (by kernel_rfl) (by kernel_rfl) (fun _ _ _ h => h) (Or.inr ⟨by rfl, rfl⟩) (by assumption) ?_
          try simp only [Act.put, List.getElem_toArray, List.getElem_cons_zero, List.getElem_cons_succ, List.setIfInBounds_toArray, List.set_cons_zero, List.set_cons_succ]
          refine wpAnyH_take (i := 9) (v := undef) rfl (by kernel_rfl) (by kernel_rfl) (by kernel_rfl) (fun _ _ _ h => h) (Or.inr ⟨by rfl, rfl⟩) (by assumption) ?_
          try simp only [Act.put, List.getElem_toArray, List.getElem_cons_zero, List.getElem_cons_succ, List.setIfInBounds_toArray, List.set_cons_zero, List.set_cons_succ]
          refine wpAnyH_take (i := 10) (v := undef) rfl (by kernel_rfl) (by kernel_rfl) (by kernel_rfl) (fun _ _ _ h => h) (Or.inr ⟨by rfl, rfl⟩) (by assumption) ?_
          try simp only [Act.put, List.getElem_toArray, List.getElem_cons_zero, List.getElem_cons_succ, List.setIfInBounds_toArray, List.set_cons_zero, List.set_cons_succ]
          refine wpAnyH_take (i := 11) (v := undef) rfl (by kernel_rfl) (by kernel_rfl) (by kernel_rfl) (fun _ _ _ h => h) (Or.inr ⟨by rfl, rfl⟩) (by assumption) ?_
          try simp only [Act.put, List.getElem_toArray, List.getElem_cons_zero, List.getElem_cons_succ, List.setIfInBounds_toArray, List.set_cons_zero, List.set_cons_succ]
          refine wpAnyH_take (i := 12) (v := undef) rfl (by kernel_rfl) (by kernel_rfl) (by kernel_rfl) (fun _ _ _ h => h) (Or.inr ⟨by rfl, rfl⟩) (by assumption) ?_
          try simp only [Act.put, List.getElem_toArray, List.getElem_cons_zero, List.getElem_cons_succ, List.setIfInBounds_toArray, List.set_cons_zero, List.set_cons_succ]
          refine wpAnyH_take (i := 13) (v := undef) rfl (by kernel_rfl) (by kernel_rfl) (by kernel_rfl) (fun _ _ _ h => h) (Or.inr ⟨by rfl, rfl⟩) (by assumption) ?_
          try simp only [Act.put, List.getElem_toArray, List.getElem_cons_zero, List.getElem_cons_succ, List.setIfInBounds_toArray, List.set_cons_zero, List.set_cons_succ]
          refine wpAnyH_take (i := 14) (v := undef) rfl (by kernel_rfl) (by kernel_rfl) (by kernel_rfl) (fun _ _ _ h => h) (Or.inr ⟨by rfl, rfl⟩) (by assumption) ?_
          try simp only [Act.put, List.getElem_toArray, List.getElem_cons_zero, List.getElem_cons_succ, List.setIfInBounds_toArray, List.set_cons_zero, List.set_cons_succ]
          refine wpAnyH_take (i := 15) (v := undef) rfl (by kernel_rfl) (by kernel_rfl) (by kernel_rfl) (fun _ _ _ h => h) (Or.inr ⟨by rfl, rfl⟩) (by assumption) ?_
          try simp only [Act.put, List.getElem_toArray, List.getElem_cons_zero, List.getElem_cons_succ, List.setIfInBounds_toArray, List.set_cons_zero, List.set_cons_succ]
          refine wpAnyH_take (i := 16) (v := undef) rfl (by kernel_rfl) (by kernel_rfl) (by kernel_rfl) (fun _ _ _ h => h) (Or.inr ⟨by rfl, rfl⟩) (by assumption) ?_
          try simp only [Act.put, List.getElem_toArray, List.getElem_cons_zero, List.getElem_cons_succ, List.setIfInBounds_toArray, List.set_cons_zero, List.set_cons_succ]
          refine wpAnyH_take (i := 17) (v := undef) rfl (by kernel_rfl) (by kernel_rfl) (by kernel_rfl) (fun _ _ _ h => h) (Or.inr ⟨by rfl, rfl⟩) (by assumption) ?_
          try simp only [Act.put, List.getElem_toArray, List.getElem_cons_zero, List.getElem_cons_succ, List.setIfInBounds_toArray, List.set_cons_zero, List.set_cons_succ]
          refine wpAnyH_take (i := 18) (v := undef) rfl (by kernel_rfl) (by kernel_rfl) (by kernel_rfl) (fun _ _ _ h => h) (Or.inr ⟨by rfl, rfl⟩) (by assumption) ?_
          try simp only [Act.put, List.getElem_toArray, List.getElem_cons_zero, List.getElem_cons_succ, List.setIfInBounds_toArray, List.set_cons_zero, List.set_cons_succ]
          refine wpAnyH_take (i := 19) (v := ?_) rfl (by kernel_rfl) (by kernel_rfl) (by kernel_rfl) (fun _ _ _ h => h) (Or.inl ⟨by rfl, ?_⟩) (by assumption) ?_
          rotate_left
          · (intro w hSw; go_simp; try (with_reducible rfl))
          try simp only [Act.put, List.getElem_toArray, List.getElem_cons_zero, List.getElem_cons_succ, List.setIfInBounds_toArray, List.set_cons_zero, List.set_cons_succ]
          refine wpAnyH_done (by kernel_rfl) ?_ _
          refine NoPanic.normal ?_
          go_wp2_with fail
          go_roundw
          case rel => exact ⟨k + 1, z, by omega, by go_num, rfl, Lib.hid hHeld2, HZ2, Lib.hid (by
            rw [HO2.out, HO.out]
            rcases HI.out with h | ⟨j, hj, h1, h2, h3⟩
            · exact .inl h
            · exact .inr ⟨j, hj, h1, by omega, h3⟩)⟩
          case measure => simp [intOf]; omega
        | true =>
          rcases HI.out with ⟨hz, ho⟩ | ⟨j, hj, hz, hjk, ho⟩
          · subst hz
            have HO : Hid (o2 = some en) := Lib.hid (by rw [HST.out, HBE.out, ho]; rfl)
            clear ho HI
            refine wp_region_noPanic ?_
            refine wp_region_held_drew (S := HeldR L w) (by kernel_rfl) hHeld.drew (fun hHeld2 => ?_)
            refine wpAnyH_take (i := 0) (v := ?_) rfl (by kernel_rfl) (by kernel_rfl) (by kernel_rfl) (fun _ _ _ h => h) (Or.inl ⟨by rfl, ?_⟩) (by assumption) ?_
            rotate_left
            · (intro w hSw; go_simp; try (with_reducible rfl))
            try simp only [Act.put, List.getElem_toArray, List.getElem_cons_zero, List.setIfInBounds_toArray, List.set_cons_zero, List.set_cons_succ]
            refine wpAnyH_take (i := 1) (v := ?_) rfl (by kernel_rfl) (by kernel_rfl) (by kernel_rfl) (fun _ _ _ h => h) (Or.inl ⟨by rfl, ?_⟩) (by assumption) ?_
            rotate_left
            · (intro w hSw; go_simp; try (with_reducible rfl))
            try simp only [Act.put, List.getElem_toArray, List.getElem_cons_zero, List.getElem_cons_succ, List.setIfInBounds_toArray, List.set_cons_zero, List.set_cons_succ]
            refine wpAnyH_take (i := 2) (v := ?_) rfl (by kernel_rfl) (by kernel_rfl) (by kernel_rfl) (fun _ _ _ h => h) (Or.inl ⟨by rfl, ?_⟩) (by assumption) ?_
            rotate_left
            · (intro w hSw; go_simp; try (with_reducible rfl))
            try simp only [Act.put, List.getElem_toArray, List.getElem_cons_zero, List.getElem_cons_succ, List.setIfInBounds_toArray, List.set_cons_zero, List.set_cons_succ]
            refine wpAnyH_take (i := 3) (v := ?_) rfl (by kernel_rfl) (by kernel_rfl) (by kernel_rfl) (fun _ _ _ h => h) (Or.inl ⟨by rfl, ?_⟩) (by assumption) ?_
            rotate_left
            · (intro w hSw; go_simp; try (with_reducible rfl))
            try simp only [Act.put, List.getElem_toArray, List.getElem_cons_zero, List.getElem_cons_succ, List.setIfInBounds_toArray, List.set_cons_zero, List.set_cons_succ]
            refine wpAnyH_take (i := 4) (v := ?_) rfl (by kernel_rfl) (by kernel_rfl) (by kernel_rfl) (fun _ _ _ h => h) (Or.inl ⟨by rfl, ?_⟩) (by assumption) ?_
            rotate_left
            · (intro w hSw; go_simp; try (with_reducible rfl))
            try simp only [Act.put, List.getElem_toArray, List.getElem_cons_zero, List.getElem_cons_succ, List.setIfInBounds_toArray, List.set_cons_zero, List.set_cons_succ]
            refine wpAnyH_take (i := 5) (v := undef) rfl (by kernel_rfl) (by kernel_rfl) (by kernel_rfl) (fun _ _ _ h => h) (Or.inr ⟨by rfl, rfl⟩) (by assumption) ?_
            try simp only [Act.put, List.getElem_toArray, List.getElem_cons_zero, List.getElem_cons_succ, List.setIfInBounds_toArray, List.set_cons_zero, List.set_cons_succ]
            refine wpAnyH_take (i := 6) (v := undef) rfl (by kernel_rfl) (by kernel_rfl) (by kernel_rfl) (fun _ _ _ h => h) (Or.inr ⟨by rfl, rfl⟩) (by assumption) ?_
            try simp only [Act.put, List.getElem_toArray, List.getElem_cons_zero, List.getElem_cons_succ, List.setIfInBounds_toArray, List.set_cons_zero, List.set_cons_succ]
            refine wpAnyH_take (i := 7) (v := undef) rfl (by kernel_rfl) (by kernel_rfl) (by kernel_rfl) (fun _ _ _ h => h) (Or.inr ⟨by rfl, rfl⟩) (by assumption) ?_
            try simp only [Act.put, List.getElem_toArray, List.getElem_cons_zero, List.getElem_cons_succ, List.setIfInBounds_toArray, List.set_cons_zero, List.set_cons_succ]
            refine wpAnyH_take (i := 8) (v := undef) rfl (by kernel_rfl) (by kernel_rfl) (by kernel_rfl) (fun _ _ _ h => h) (Or.inr ⟨by rfl, rfl⟩) (by assumption) ?_
            try simp only [Act.put, List.getElem_toArray, List.getElem_cons_zero, List.getElem_cons_succ, List.setIfInBounds_toArray, List.set_cons_zero, List.set_cons_succ]
            refine wpAnyH_take (i := 9) (v := undef) rfl (by kernel_rfl) (by kernel_rfl) (by kernel_rfl) (fun _ _ _ h => h) (Or.inr ⟨by rfl, rfl⟩) (by assumption) ?_
            try simp only [Act.put, List.getElem_toArray, List.getElem_cons_zero, List.getElem_cons_succ, List.setIfInBounds_toArray, List.set_cons_zero, List.set_cons_succ]
            refine wpAnyH_take (i := 10) (v := undef) rfl (by kernel_rfl) (by kernel_rfl) (by kernel_rfl) (fun _ _ _ h => h) (Or.inr ⟨by rfl, rfl⟩) (by assumption) ?_
            try simp only [Act.put, List.getElem_toArray, List.getElem_cons_zero, List.getElem_cons_succ, List.setIfInBounds_toArray, List.set_cons_zero, List.set_cons_succ]
            refine wpAnyH_take (i := 11) (v := undef) rfl (by kernel_rfl) (by kernel_rfl) (by kernel_rfl) (fun _ _ _ h => h) (Or.inr ⟨by rfl, rfl⟩) (by assumption) ?_
            try simp only [Act.put, List.getElem_toArray, List.getElem_cons_zero, List.getElem_cons_succ, List.setIfInBounds_toArray, List.set_cons_zero, List.set_cons_succ]
            refine wpAnyH_take (i := 12) (v := undef) rfl (by kernel_rfl) (by kernel_rfl) (by kernel_rfl) (fun _ _ _ h => h) (Or.inr ⟨by rfl, rfl⟩) (by assumption) ?_
            try simp only [Act.put, List.getElem_toArray, List.getElem_cons_zero, List.getElem_cons_succ, List.setIfInBounds_toArray, List.set_cons_zero, List.set_cons_succ]
            refine wpAnyH_take (i := 13) (v := undef) rfl (by kernel_rfl) (by kernel_rfl) (by kernel_rfl) (fun _ _ _ h => h) (Or.inr ⟨by rfl, rfl⟩) (by assumption) ?_
            try simp only [Act.put, List.getElem_toArray, List.getElem_cons_zero, List.getElem_cons_succ, List.setIfInBounds_toArray, List.set_cons_zero, List.set_cons_succ]
            refine wpAnyH_take (i := 14) (v := undef) rfl (by kernel_rfl) (by kernel_rfl) (by kernel_rfl) (fun _ _ _ h => h) (Or.inr ⟨by rfl, rfl⟩) (by assumption) ?_
            try simp only [Act.put, List.getElem_toArray, List.getElem_cons_zero, List.getElem_cons_succ, List.setIfInBounds_toArray, List.set_cons_zero, List.set_cons_succ]
            refine wpAnyH_take (i := 15) (v := undef) rfl (by kernel_rfl) (by kernel_rfl) (by kernel_rfl) (fun _ _ _ h => h) (Or.inr ⟨by rfl, rfl⟩) (by assumption) ?_
            try simp only [Act.put, List.getElem_toArray, List.getElem_cons_zero, List.getElem_cons_succ, List.setIfInBounds_toArray, List.set_cons_zero, List.set_cons_succ]
            refine wpAnyH_take (i := 16) (v := undef) rfl (by kernel_rfl) (by kernel_rfl) (by kernel_rfl) (fun _ _ _ h => h) (Or.inr ⟨by rfl, rfl⟩) (by assumption) ?_
            try simp only [Act.put, List.getElem_toArray, List.getElem_cons_zero, List.getElem_cons_succ, List.setIfInBounds_toArray, List.set_cons_zero, List.set_cons_succ]
            refine wpAnyH_take (i := 17) (v := undef) rfl (by kernel_rfl) (by kernel_rfl) (by kernel_rfl) (fun _ _ _ h => h) (Or.inr ⟨by rfl, rfl⟩) (by assumption) ?_
            try simp only [Act.put, List.getElem_toArray, List.getElem_cons_zero, List.getElem_cons_succ, List.setIfInBounds_toArray, List.set_cons_zero, List.set_cons_succ]
            refine wpAnyH_take (i := 18) (v := ?_) rfl (by kernel_rfl) (by kernel_rfl) (by kernel_rfl) (fun _ _ _ h => h) (Or.inl ⟨by rfl, ?_⟩) (by assumption) ?_
            rotate_left
            · (intro w hSw; go_simp; try (with_reducible rfl))
            try simp only [Act.put, List.getElem_toArray, List.getElem_cons_zero, List.getElem_cons_succ, List.setIfInBounds_toArray, List.set_cons_zero, List.set_cons_succ]
            refine wpAnyH_take (i := 19) (v := ?_) rfl (by kernel_rfl) (by kernel_rfl) (by kernel_rfl) (fun _ _ _ h => h) (Or.inl ⟨by rfl, ?_⟩) (by assumption) ?_
            rotate_left
            · (intro w hSw; go_simp; try (with_reducible rfl))
            try simp only [Act.put, List.getElem_toArray, List.getElem_cons_zero, List.getElem_cons_succ, List.setIfInBounds_toArray, List.set_cons_zero, List.set_cons_succ]
            refine wpAnyH_done (by kernel_rfl) ?_ _
            refine NoPanic.normal ?_
            go_wp2_with fail
            go_roundw
            case rel => exact ⟨k + 1, (k : Int), by omega, by go_num, rfl, Lib.hid hHeld2, HZ2, Lib.hid (by rw [HO2.out, HO.out]; exact .inr ⟨k, hkl, rfl, by omega, by rw [HEK.out]⟩)⟩
            case measure => simp [intOf]; omega
          · subst hz
            obtain ⟨ej, hej⟩ : ∃ ej, es[j] = ej := ⟨_, rfl⟩
            have hgj : ej.b.length = 16 := by rw [← hej]; exact (HAG.out _ (List.getElem_mem hj)).1.len
            have Cj := Lib.hid (show CellR L w g (j * 19 + 17) (.int .i64 (ej.n : Int)) from fun w' h => by have := cell_bits (range_ent (HME.out w' h) HAG.out j hj) (by rw [hej]; exact hgj); rw [hej] at this; exact this)
            have hji : (j : Int) < (es.length : Int) := by omega
            have hj0 : decide ((j : Int) < 0) = false := by simp
            have HEJ := Lib.hid hej
            have HOJ : Hid (o = some ej) := Lib.hid (by rw [ho, hej])
            clear ho HI hej hgj
            by_cases hlt : ej.n < en.n
            · have hd3 : decide ((ej.n : Int) < (en.n : Int)) = true := by simp; omega
              have hd3n : decide (ej.n < en.n) = true := by simp; omega
              have HO : Hid (o2 = some en) := Lib.hid (by rw [HST.out, HBE.out, HOJ.out]; simp [hlt])
              refine wp_region_noPanic ?_
              refine wp_region_held_drew (S := HeldR L w) (by kernel_rfl) hHeld.drew (fun hHeld2 => ?_)
              refine wpAnyH_take (i := 0) (v := ?_) rfl (by kernel_rfl) (by kernel_rfl) (by kernel_rfl) (fun _ _ _ h => h) (Or.inl ⟨by rfl, ?_⟩) (by assumption) ?_
              rotate_left
              · (intro w hSw; go_simp; try (with_reducible rfl))
              try simp only [Act.put, List.getElem_toArray, List.getElem_cons_zero, List.setIfInBounds_toArray, List.set_cons_zero, List.set_cons_succ]
              refine wpAnyH_take (i := 1) (v := ?_) rfl (by kernel_rfl) (by kernel_rfl) (by kernel_rfl) (fun _ _ _ h => h) (Or.inl ⟨by rfl, ?_⟩) (by assumption) ?_
              rotate_left
              · (intro w hSw; go_simp; try (with_reducible rfl))
              try simp only [Act.put, List.getElem_toArray, List.getElem_cons_zero, List.getElem_cons_succ, List.setIfInBounds_toArray, List.set_cons_zero, List.set_cons_succ]
              refine wpAnyH_take (i := 2) (v := ?_) rfl (by kernel_rfl) (by kernel_rfl) (by kernel_rfl) (fun _ _ _ h => h) (Or.inl ⟨by rfl, ?_⟩) (by assumption) ?_
              rotate_left
              · (intro w hSw; go_simp; try (with_reducible rfl))
              try simp only [Act.put, List.getElem_toArray, List.getElem_cons_zero, List.getElem_cons_succ, List.setIfInBounds_toArray, List.set_cons_zero, List.set_cons_succ]
              refine wpAnyH_take (i := 3) (v := ?_) rfl (by kernel_rfl) (by kernel_rfl) (by kernel_rfl) (fun _ _ _ h => h) (Or.inl ⟨by rfl, ?_⟩) (by assumption) ?_
              rotate_left
              · (intro w hSw; go_simp; try (with_reducible rfl))
              try simp only [Act.put, List.getElem_toArray, List.getElem_cons_zero, List.getElem_cons_succ, List.setIfInBounds_toArray, List.set_cons_zero, List.set_cons_succ]
              refine wpAnyH_take (i := 4) (v := ?_) rfl (by kernel_rfl) (by kernel_rfl) (by kernel_rfl) (fun _ _ _ h => h) (Or.inl ⟨by rfl, ?_⟩) (by assumption) ?_
              rotate_left
              · (intro w hSw; go_simp; try (with_reducible rfl))
              try simp only [Act.put, List.getElem_toArray, List.getElem_cons_zero, List.getElem_cons_succ, List.setIfInBounds_toArray, List.set_cons_zero, List.set_cons_succ]
              refine wpAnyH_take (i := 5) (v := ?_) rfl (by kernel_rfl) (by kernel_rfl) (by kernel_rfl) (fun _ _ _ h => h) (Or.inl ⟨by rfl, ?_⟩) (by assumption) ?_
              rotate_left
              · (intro w hSw; go_simp; try (with_reducible rfl))
              try simp only [Act.put, List.getElem_toArray, List.getElem_cons_zero, List.getElem_cons_succ, List.setIfInBounds_toArray, List.set_cons_zero, List.set_cons_succ]
              refine wpAnyH_take (i := 6) (v := ?_) rfl (by kernel_rfl) (by kernel_rfl) (by kernel_rfl) (fun _ _ _ h => h) (Or.inl ⟨by rfl, ?_⟩) (by assumption) ?_
              rotate_left
              · (intro w hSw; go_simp; try (with_reducible rfl))
              try simp only [Act.put, List.getElem_toArray, List.getElem_cons_zero, List.getElem_cons_succ, List.setIfInBounds_toArray, List.set_cons_zero, List.set_cons_succ]
              refine wpAnyH_take (i := 7) (v := ?_) rfl (by kernel_rfl) (by kernel_rfl) (by kernel_rfl) (fun _ _ _ h => h) (Or.inl ⟨by rfl, ?_⟩) (by assumption) ?_
              rotate_left
              · (intro w hSw; go_simp; try (with_reducible rfl))
              try simp only [Act.put, List.getElem_toArray, List.getElem_cons_zero, List.getElem_cons_succ, List.setIfInBounds_toArray, List.set_cons_zero, List.set_cons_succ]
              refine wpAnyH_take (i := 8) (v := ?_) rfl (by kernel_rfl) (by kernel_rfl) (by kernel_rfl) (fun _ _ _ h => h) (Or.inl ⟨by rfl, ?_⟩) (by assumption) ?_
              rotate_left
              · (intro w hSw; go_simp; try (with_reducible rfl))
              try simp only [Act.put, List.getElem_toArray, List.getElem_cons_zero, List.getElem_cons_succ, List.setIfInBounds_toArray, List.set_cons_zero, List.set_cons_succ]
              refine wpAnyH_take (i := 9) (v := ?_) rfl (by kernel_rfl) (by kernel_rfl) (by kernel_rfl) (fun _ _ _ h => h) (Or.inl ⟨by rfl, ?_⟩) (by assumption) ?_
              rotate_left
              · (intro w hSw; go_simp; try (with_reducible rfl))
              try simp only [Act.put, List.getElem_toArray, List.getElem_cons_zero, List.getElem_cons_succ, List.setIfInBounds_toArray, List.set_cons_zero, List.set_cons_succ]
              refine wpAnyH_take (i := 10) (v := ?_) rfl (by kernel_rfl) (by kernel_rfl) (by kernel_rfl) (fun _ _ _ h => h) (Or.inl ⟨by rfl, ?_⟩) (by assumption) ?_
              rotate_left
              · (intro w hSw; have hc0 := Ck.out w hSw; go_simp; try (with_reducible rfl))
              try simp only [Act.put, List.getElem_toArray, List.getElem_cons_zero, List.getElem_cons_succ, List.setIfInBounds_toArray, List.set_cons_zero, List.set_cons_succ]
              refine wpAnyH_take (i := 11) (v := ?_) rfl (by kernel_rfl) (by kernel_rfl) (by kernel_rfl) (fun _ _ _ h => h) (Or.inl ⟨by rfl, ?_⟩) (by assumption) ?_
              rotate_left
              · (intro w hSw; go_simp; try (with_reducible rfl))
              try simp only [Act.put, List.getElem_toArray, List.getElem_cons_zero, List.getElem_cons_succ, List.setIfInBounds_toArray, List.set_cons_zero, List.set_cons_succ]
              refine wpAnyH_take (i := 12) (v := ?_) rfl (by kernel_rfl) (by kernel_rfl) (by kernel_rfl) (fun _ _ _ h => h) (Or.inl ⟨by rfl, ?_⟩) (by assumption) ?_
              rotate_left
              · (intro w hSw; go_simp; try (with_reducible rfl))
              try simp only [Act.put, List.getElem_toArray, List.getElem_cons_zero, List.getElem_cons_succ, List.setIfInBounds_toArray, List.set_cons_zero, List.set_cons_succ]
              refine wpAnyH_take (i := 13) (v := ?_) rfl (by kernel_rfl) (by kernel_rfl) (by kernel_rfl) (fun _ _ _ h => h) (Or.inl ⟨by rfl, ?_⟩) (by assumption) ?_
              rotate_left
              · (intro w hSw; go_simp; try (with_reducible rfl))
              try simp only [Act.put, List.getElem_toArray, List.getElem_cons_zero, List.getElem_cons_succ, List.setIfInBounds_toArray, List.set_cons_zero, List.set_cons_succ]
              refine wpAnyH_take (i := 14) (v := ?_) rfl (by kernel_rfl) (by kernel_rfl) (by kernel_rfl) (fun _ _ _ h => h) (Or.inl ⟨by rfl, ?_⟩) (by assumption) ?_
              rotate_left
              · (intro w hSw; go_simp; try (with_reducible rfl))
              try simp only [Act.put, List.getElem_toArray, List.getElem_cons_zero, List.getElem_cons_succ, List.setIfInBounds_toArray, List.set_cons_zero, List.set_cons_succ]
              refine wpAnyH_take (i := 15) (v := ?_) rfl (by kernel_rfl) (by kernel_rfl) (by kernel_rfl) (fun _ _ _ h => h) (Or.inl ⟨by rfl, ?_⟩) (by assumption) ?_
              rotate_left
              · (intro w hSw; go_simp; try (with_reducible rfl))
              try simp only [Act.put, List.getElem_toArray, List.getElem_cons_zero, List.getElem_cons_succ, List.setIfInBounds_toArray, List.set_cons_zero, List.set_cons_succ]
              refine wpAnyH_take (i := 16) (v := ?_) rfl (by kernel_rfl) (by kernel_rfl) (by kernel_rfl) (fun _ _ _ h => h) (Or.inl ⟨by rfl, ?_⟩) (by assumption) ?_
              rotate_left
              · (intro w hSw; have hc0 := Cj.out w hSw; go_simp; try (with_reducible rfl))
              try simp only [Act.put, List.getElem_toArray, List.getElem_cons_zero, List.getElem_cons_succ, List.setIfInBounds_toArray, List.set_cons_zero, List.set_cons_succ]
              refine wpAnyH_take (i := 17) (v := ?_) rfl (by kernel_rfl) (by kernel_rfl) (by kernel_rfl) (fun _ _ _ h => h) (Or.inl ⟨by rfl, ?_⟩) (by assumption) ?_
              rotate_left
              · (intro w hSw; go_simp; try (with_reducible rfl))
              try simp only [Act.put, List.getElem_toArray, List.getElem_cons_zero, List.getElem_cons_succ, List.setIfInBounds_toArray, List.set_cons_zero, List.set_cons_succ]
              refine wpAnyH_take (i := 18) (v := ?_) rfl (by kernel_rfl) (by kernel_rfl) (by kernel_rfl) (fun _ _ _ h => h) (Or.inl ⟨by rfl, ?_⟩) (by assumption) ?_
              rotate_left
              · (intro w hSw; go_simp; try (with_reducible rfl))
              try simp only [Act.put, List.getElem_toArray, List.getElem_cons_zero, List.getElem_cons_succ, List.setIfInBounds_toArray, List.set_cons_zero, List.set_cons_succ]
              refine wpAnyH_take (i := 19) (v := ?_) rfl (by kernel_rfl) (by kernel_rfl) (by kernel_rfl) (fun _ _ _ h => h) (Or.inl ⟨by rfl, ?_⟩) (by assumption) ?_
              rotate_left
              · (intro w hSw; go_simp; try (with_reducible rfl))
              try simp only [Act.put, List.getElem_toArray, List.getElem_cons_zero, List.getElem_cons_succ, List.setIfInBounds_toArray, List.set_cons_zero, List.set_cons_succ]
              refine wpAnyH_done (by kernel_rfl) ?_ _
              refine NoPanic.normal ?_
              go_wp2_with fail
              go_roundw
              case rel => exact ⟨k + 1, (k : Int), by omega, by go_num, rfl, Lib.hid hHeld2, HZ2, Lib.hid (by rw [HO2.out, HO.out]; exact .inr ⟨k, hkl, rfl, by omega, by rw [HEK.out]⟩)⟩
              case measure => simp [intOf]; omega
            · have hd3 : decide ((ej.n : Int) < (en.n : Int)) = false := by simp; omega
              have hd3n : decide (ej.n < en.n) = false := by simp; omega
              have HO : Hid (o2 = some ej) := Lib.hid (by rw [HST.out, HBE.out, HOJ.out]; simp [hlt])
              refine wp_region_noPanic ?_
              refine wp_region_held_drew (S := HeldR L w) (by kernel_rfl) hHeld.drew (fun hHeld2 => ?_)
              refine wpAnyH_take (i := 0) (v := ?_) rfl (by kernel_rfl) (by kernel_rfl) (by kernel_rfl) (fun _ _ _ h => h) (Or.inl ⟨by rfl, ?_⟩) (by assumption) ?_
              rotate_left
              · (intro w hSw; go_simp; try (with_reducible rfl))
              try simp only [Act.put, List.getElem_toArray, List.getElem_cons_zero, List.setIfInBounds_toArray, List.set_cons_zero, List.set_cons_succ]
              refine wpAnyH_take (i := 1) (v := ?_) rfl (by kernel_rfl) (by kernel_rfl) (by kernel_rfl) (fun _ _ _ h => h) (Or.inl ⟨by rfl, ?_⟩) (by assumption) ?_
              rotate_left
              · (intro w hSw; go_simp; try (with_reducible rfl))
              try simp only [Act.put, List.getElem_toArray, List.getElem_cons_zero, List.getElem_cons_succ, List.setIfInBounds_toArray, List.set_cons_zero, List.set_cons_succ]
              refine wpAnyH_take (i := 2) (v := ?_) rfl (by kernel_rfl) (by kernel_rfl) (by kernel_rfl) (fun _ _ _ h => h) (Or.inl ⟨by rfl, ?_⟩) (by assumption) ?_
              rotate_left
              · (intro w hSw; go_simp; try (with_reducible rfl))
              try simp only [Act.put, List.getElem_toArray, List.getElem_cons_zero, List.getElem_cons_succ, List.setIfInBounds_toArray, List.set_cons_zero, List.set_cons_succ]
              refine wpAnyH_take (i := 3) (v := ?_) rfl (by kernel_rfl) (by kernel_rfl) (by kernel_rfl) (fun _ _ _ h => h) (Or.inl ⟨by rfl, ?_⟩) (by assumption) ?_
              rotate_left
              · (intro w hSw; go_simp; try (with_reducible rfl))
              try simp only [Act.put, List.getElem_toArray, List.getElem_cons_zero, List.getElem_cons_succ, List.setIfInBounds_toArray, List.set_cons_zero, List.set_cons_succ]
              refine wpAnyH_take (i := 4) (v := ?_) rfl (by kernel_rfl) (by kernel_rfl) (by kernel_rfl) (fun _ _ _ h => h) (Or.inl ⟨by rfl, ?_⟩) (by assumption) ?_
              rotate_left
              · (intro w hSw; go_simp; try (with_reducible rfl))
              try simp only [Act.put, List.getElem_toArray, List.getElem_cons_zero, List.getElem_cons_succ, List.setIfInBounds_toArray, List.set_cons_zero, List.set_cons_succ]
              refine wpAnyH_take (i := 5) (v := ?_) rfl (by kernel_rfl) (by kernel_rfl) (by kernel_rfl) (fun _ _ _ h => h) (Or.inl ⟨by rfl, ?_⟩) (by assumption) ?_
              rotate_left
              · (intro w hSw; go_simp; try (with_reducible rfl))
              try simp only [Act.put, List.getElem_toArray, List.getElem_cons_zero, List.getElem_cons_succ, List.setIfInBounds_toArray, List.set_cons_zero, List.set_cons_succ]
              refine wpAnyH_take (i := 6) (v := ?_) rfl (by kernel_rfl) (by kernel_rfl) (by kernel_rfl) (fun _ _ _ h => h) (Or.inl ⟨by rfl, ?_⟩) (by assumption) ?_
              rotate_left
              · (intro w hSw; go_simp; try (with_reducible rfl))
              try simp only [Act.put, List.getElem_toArray, List.getElem_cons_zero, List.getElem_cons_succ, List.setIfInBounds_toArray, List.set_cons_zero, List.set_cons_succ]
              refine wpAnyH_take (i := 7) (v := ?_) rfl (by kernel_rfl) (by kernel_rfl) (by kernel_rfl) (fun _ _ _ h => h) (Or.inl ⟨by rfl, ?_⟩) (by assumption) ?_
              rotate_left
              · (intro w hSw; go_simp; try (with_reducible rfl))
              try simp only [Act.put, List.getElem_toArray, List.getElem_cons_zero, List.getElem_cons_succ, List.setIfInBounds_toArray, List.set_cons_zero, List.set_cons_succ]
              refine wpAnyH_take (i := 8) (v := ?_) rfl (by kernel_rfl) (by kernel_rfl) (by kernel_rfl) (fun _ _ _ h => h) (Or.inl ⟨by rfl, ?_⟩) (by assumption) ?_
              rotate_left
              · (intro w hSw; go_simp; try (with_reducible rfl))
              try simp only [Act.put, List.getElem_toArray, List.getElem_cons_zero, List.getElem_cons_succ, List.setIfInBounds_toArray, List.set_cons_zero, List.set_cons_succ]
              refine wpAnyH_take (i := 9) (v := ?_) rfl (by kernel_rfl) (by kernel_rfl) (by kernel_rfl) (fun _ _ _ h => h) (Or.inl ⟨by rfl, ?_⟩) (by assumption) ?_
              rotate_left
              · (intro w hSw; go_simp; try (with_reducible rfl))
              try simp only [Act.put, List.getElem_toArray, List.getElem_cons_zero, List.getElem_cons_succ, List.setIfInBounds_toArray, List.set_cons_zero, List.set_cons_succ]
              refine wpAnyH_take (i := 10) (v := ?_) rfl (by kernel_rfl) (by kernel_rfl) (by kernel_rfl) (fun _ _ _ h => h) (Or.inl ⟨by rfl, ?_⟩) (by assumption) ?_
              rotate_left
              · (intro w hSw; have hc0 := Ck.out w hSw; go_simp; try (with_reducible rfl))
              try simp only [Act.put, List.getElem_toArray, List.getElem_cons_zero, List.getElem_cons_succ, List.setIfInBounds_toArray, List.set_cons_zero, List.set_cons_succ]
              refine wpAnyH_take (i := 11) (v := ?_) rfl (by kernel_rfl) (by kernel_rfl) (by kernel_rfl) (fun _ _ _ h => h) (Or.inl ⟨by rfl, ?_⟩) (by assumption) ?_
              rotate_left
              · (intro w hSw; go_simp; try (with_reducible rfl))
              try simp only [Act.put, List.getElem_toArray, List.getElem_cons_zero, List.getElem_cons_succ, List.setIfInBounds_toArray, List.set_cons_zero, List.set_cons_succ]
              refine wpAnyH_take (i := 12) (v := ?_) rfl (by kernel_rfl) (by kernel_rfl) (by kernel_rfl) (fun _ _ _ h => h) (Or.inl ⟨by rfl, ?_⟩) (by assumption) ?_
              rotate_left
              · (intro w hSw; go_simp; try (with_reducible rfl))
              try simp only [Act.put, List.getElem_toArray, List.getElem_cons_zero, List.getElem_cons_succ, List.setIfInBounds_toArray, List.set_cons_zero, List.set_cons_succ]
              refine wpAnyH_take (i := 13) (v := ?_) rfl (by kernel_rfl) (by kernel_rfl) (by kernel_rfl) (fun _ _ _ h => h) (Or.inl ⟨by rfl, ?_⟩) (by assumption) ?_
              rotate_left
              · (intro w hSw; go_simp; try (with_reducible rfl))
              try simp only [Act.put, List.getElem_toArray, List.getElem_cons_zero, List.getElem_cons_succ, List.setIfInBounds_toArray, List.set_cons_zero, List.set_cons_succ]
              refine wpAnyH_take (i := 14) (v := ?_) rfl (by kernel_rfl) (by kernel_rfl) (by kernel_rfl) (fun _ _ _ h => h) (Or.inl ⟨by rfl, ?_⟩) (by assumption) ?_
              rotate_left
              · (intro w hSw; go_simp; try (with_reducible rfl))
              try simp only [Act.put, List.getElem_toArray, List.getElem_cons_zero, List.getElem_cons_succ, List.setIfInBounds_toArray, List.set_cons_zero, List.set_cons_succ]
              refine wpAnyH_take (i := 15) (v := ?_) rfl (by kernel_rfl) (by kernel_rfl) (by kernel_rfl) (fun _ _ _ h => h) (Or.inl ⟨by rfl, ?_⟩) (by assumption) ?_
              rotate_left
              · (intro w hSw; go_simp; try (with_reducible rfl))
              try simp only [Act.put, List.getElem_toArray, List.getElem_cons_zero, List.getElem_cons_succ, List.setIfInBounds_toArray, List.set_cons_zero, List.set_cons_succ]
              refine wpAnyH_take (i := 16) (v := ?_) rfl (by kernel_rfl) (by kernel_rfl) (by kernel_rfl) (fun _ _ _ h => h) (Or.inl ⟨by rfl, ?_⟩) (by assumption) ?_
              rotate_left
              · (intro w hSw; have hc0 := Cj.out w hSw; go_simp; try (with_reducible rfl))
              try simp only [Act.put, List.getElem_toArray, List.getElem_cons_zero, List.getElem_cons_succ, List.setIfInBounds_toArray, List.set_cons_zero, List.set_cons_succ]
              refine wpAnyH_take (i := 17) (v := ?_) rfl (by kernel_rfl) (by kernel_rfl) (by kernel_rfl) (fun _ _ _ h => h) (Or.inl ⟨by rfl, ?_⟩) (by assumption) ?_
              rotate_left
              · (intro w hSw; go_simp; try (with_reducible rfl))
              try simp only [Act.put, List.getElem_toArray, List.getElem_cons_zero, List.getElem_cons_succ, List.setIfInBounds_toArray, List.set_cons_zero, List.set_cons_succ]
              refine wpAnyH_take (i := 18) (v := ?_) rfl (by kernel_rfl) (by kernel_rfl) (by kernel_rfl) (fun _ _ _ h => h) (Or.inl ⟨by rfl, ?_⟩) (by assumption) ?_
              rotate_left
              · (intro w hSw; go_simp; try (with_reducible rfl))
              try simp only [Act.put, List.getElem_toArray, List.getElem_cons_zero, List.getElem_cons_succ, List.setIfInBounds_toArray, List.set_cons_zero, List.set_cons_succ]
              refine wpAnyH_take (i := 19) (v := ?_) rfl (by kernel_rfl) (by kernel_rfl) (by kernel_rfl) (fun _ _ _ h => h) (Or.inl ⟨by rfl, ?_⟩) (by assumption) ?_
              rotate_left
              · (intro w hSw; go_simp; try (with_reducible rfl))
              try simp only [Act.put, List.getElem_toArray, List.getElem_cons_zero, List.getElem_cons_succ, List.setIfInBounds_toArray, List.set_cons_zero, List.set_cons_succ]
              refine wpAnyH_done (by kernel_rfl) ?_ _
              refine NoPanic.normal ?_
              go_wp2_with fail
              go_roundw
              case rel => exact ⟨k + 1, (j : Int), by omega, by go_num, rfl, Lib.hid hHeld2, HZ2, Lib.hid (by rw [HO2.out, HO.out]; exact .inr ⟨j, hj, rfl, by omega, by rw [HEJ.out]⟩)⟩
              case measure => simp [intOf]; omega
      · obtain rfl : k = es.length := by omega
        have hd : decide ((es.length : Int) < (es.length : Int)) = false := by simp
        rw [HRE.out] at HI
        rcases HI.out with ⟨hz, ho⟩ | ⟨j, hj, hz, hjk, ho⟩
        · subst hz
          have HN := Lib.hid ho
          clear ho HI
          go_wp2_with (first | refine build_ent0 rfl rfl ?_ | refine store_ent HZ2 _ _ HLZ rfl rfl rfl rfl (fun W HW HP => ?_))
          refine bodyPost_ret (results_ent2 Tryd.results36 rfl HP.out) rfl ⟨by rw [HN.out]; rfl, by rw [HW.out]; exact below_cells (by omega) _ _ _ HS.out.bel⟩
        · subst hz
          obtain ⟨ej, hej⟩ : ∃ ej, es[j] = ej := ⟨_, rfl⟩
          have HLJ : Hid (ej.b.length = 16) := Lib.hid (by rw [← hej]; exact (HAG.out _ (List.getElem_mem hj)).1.len)
          have HRJ : Hid (wr.rangeAt g (j * 19) (entL ej.f ej.b (ej.n : Int) ej.v)) := Lib.hid (by have := range_ent (HME.out _ HS.out) HAG.out j hj; rw [hej] at this; exact this)
          have HN : Hid (R = some ej) := Lib.hid (by rw [ho, hej])
          have hji : (j : Int) < (es.length : Int) := by omega
          have hj0 : decide ((j : Int) < 0) = false := by simp
          clear ho HI hej
          go_wp2_with (first | refine load_ent_o HLJ HRJ _ rfl rfl rfl ?_ | refine store_ent HZ2 _ _ HLJ rfl rfl rfl rfl (fun W HW HP => ?_))
          refine bodyPost_ret (results_ent2 Tryd.results36 rfl HP.out) rfl ⟨by rw [HN.out]; rfl, by rw [HW.out]; exact below_cells (by omega) _ _ _ HS.out.bel⟩
end Go.Proofs.YtgbajagacmfcmaaDoor
/- Contract of the reference's Get of layer 6. -/
namespace Go.Proofs.YtgbajagacmfcmaaDoor
open Go.RowKit
set_option linter.unusedVariables false
set_option maxRecDepth 20000

/-- The value of a prefix. -/
def getE (es : List Ent) (f : Int) (bs : List Nat) (n : Int) : Option Int := (es.find? (isEnt f bs n)).map Ent.v
def getRet (o : Option Int) : Value := .tuple #[.int .i64 (o.getD 0), .bool o.isSome]
end Go.Proofs.YtgbajagacmfcmaaDoor
/- Plain facts on what is found in a row of entries, and on rows that are set. -/
namespace Go.Proofs.YtgbajagacmfcmaaDoor
open Go.RowKit
set_option linter.unusedVariables false
set_option maxRecDepth 20000

/-- The best one of those that have come. -/
def Best (g : Int) (us : List Nat) (o : Option Ent) (l : List Ent) : Prop :=
  (o = none → ∀ e ∈ l, hasB e.f e.b e.n g us = false) ∧ (∀ b, o = some b → b ∈ l ∧ hasB b.f b.b b.n g us = true ∧ ∀ e ∈ l, hasB e.f e.b e.n g us = true → e.n ≤ b.n)
theorem best_step {g : Int} {us : List Nat} {o : Option Ent} {l : List Ent} (h : Best g us o l) (e : Ent) : Best g us (betterE g us o e) (l ++ [e]) := by
  unfold betterE
  cases hb : hasB e.f e.b e.n g us with
  | false =>
    rw [if_neg (by decide)]
    refine ⟨fun ho x hx => ?_, fun b hbo => ?_⟩
    · rcases List.mem_append.1 hx with hx | hx
      · exact h.1 ho x hx
      · rw [List.mem_singleton.1 hx]; exact hb
    · obtain ⟨h1, h2, h3⟩ := h.2 b hbo
      refine ⟨List.mem_append_left _ h1, h2, fun x hx hh => ?_⟩
      rcases List.mem_append.1 hx with hx | hx
      · exact h3 x hx hh
      · rw [List.mem_singleton.1 hx, hb] at hh; cases hh
  | true =>
    rw [if_pos rfl]
    cases o with
    | none =>
      refine ⟨fun ho => (by cases ho), fun b hbo => ?_⟩
      obtain rfl : e = b := Option.some.inj hbo
      refine ⟨by simp, hb, fun x hx hh => ?_⟩
      rcases List.mem_append.1 hx with hx | hx
      · rw [h.1 rfl x hx] at hh; cases hh
      · rw [List.mem_singleton.1 hx]; exact Nat.le_refl _
    | some c =>
      obtain ⟨h1, h2, h3⟩ := h.2 c rfl
      show Best g us (if c.n < e.n then some e else some c) (l ++ [e])
      by_cases hc : c.n < e.n
      · rw [if_pos hc]
        refine ⟨fun ho => (by cases ho), fun b hbo => ?_⟩
        obtain rfl : e = b := Option.some.inj hbo
        refine ⟨by simp, hb, fun x hx hh => ?_⟩
        rcases List.mem_append.1 hx with hx | hx
        · have := h3 x hx hh; omega
        · rw [List.mem_singleton.1 hx]; exact Nat.le_refl _
      · rw [if_neg hc]
        refine ⟨fun ho => (by cases ho), fun b hbo => ?_⟩
        obtain rfl : c = b := Option.some.inj hbo
        refine ⟨List.mem_append_left _ h1, h2, fun x hx hh => ?_⟩
        rcases List.mem_append.1 hx with hx | hx
        · exact h3 x hx hh
        · rw [List.mem_singleton.1 hx]; omega
theorem best_fold {g : Int} {us : List Nat} : ∀ (l pre : List Ent) (o : Option Ent), Best g us o pre → Best g us (l.foldl (betterE g us) o) (pre ++ l)
  | [], pre, o, h => by rw [List.append_nil]; exact h
  | e :: l, pre, o, h => by
    have := best_fold l (pre ++ [e]) (betterE g us o e) (best_step h e)
    rw [List.append_assoc] at this
    exact this
/-- What is found has the address, and no longer one has it. -/
theorem findE_best (es : List Ent) (g : Int) (us : List Nat) : Best g us (findE es g us) es := by
  have := best_fold es [] none (g := g) (us := us) ⟨fun _ e h => (by cases h), fun b h => (by cases h)⟩
  rw [List.nil_append] at this
  exact this
theorem insE_len (rest : List Ent) (e : Ent) : (insE rest e).length = rest.length + 1 := by
  unfold insE
  have := posE_le rest e.f e.b (e.n : Int) rest.length
  rw [List.length_append, List.length_append, List.length_take, List.length_drop, List.length_singleton]
  omega
theorem setE_len (es : List Ent) (f : Int) (bs : List Nat) (n v : Int) : (setE es f bs n v).length ≤ es.length + 1 := by
  unfold setE
  split
  · rw [insE_len]
    have := dropE_len es f bs n
    omega
  · omega
end Go.Proofs.YtgbajagacmfcmaaDoor
/- The pieces of a text, read off its bytes: what a text is cut into, whatever it was put together of. -/
namespace Go.Proofs.YtgbajagacmfcmaaDoor
open Go.RowKit
set_option linter.unusedVariables false
set_option maxRecDepth 20000

/-- Bytes, as a text. -/
def ofL (l : List UInt8) : ByteArray := ⟨l.toArray⟩
theorem ofL_data (l : List UInt8) : (ofL l).data.toList = l := by simp [ofL]
theorem ofL_size (l : List UInt8) : (ofL l).size = l.length := by simp [ofL, ByteArray.size]
theorem ofL_append (l m : List UInt8) : ofL l ++ ofL m = ofL (l ++ m) := bytes_ext (by rw [data_append, ofL_data, ofL_data, ofL_data])
theorem eq_ofL {s : ByteArray} {l : List UInt8} (h : s.data.toList = l) : s = ofL l := bytes_ext (by rw [h, ofL_data])

def cutL (sep : Nat) : List UInt8 → List (List UInt8)
  | [] => [[]]
  | c :: l => if c.toNat = sep then [] :: cutL sep l else
    match cutL sep l with
    | [] => [[c]]
    | x :: r => (c :: x) :: r
theorem cutL_none (sep : Nat) : ∀ l : List UInt8, (∀ c ∈ l, c.toNat ≠ sep) → cutL sep l = [l]
  | [], _ => rfl
  | c :: l, h => by
    rw [cutL, if_neg (h c (by simp)), cutL_none sep l (fun x hx => h x (by simp [hx]))]
theorem cutL_first (sep : Nat) (c : UInt8) (hc : c.toNat = sep) (r : List UInt8) : ∀ l : List UInt8, (∀ c ∈ l, c.toNat ≠ sep) → cutL sep (l ++ c :: r) = l :: cutL sep r
  | [], _ => by rw [List.nil_append, cutL, if_pos hc]
  | x :: l, h => by
    rw [List.cons_append, cutL, if_neg (h x (by simp)), cutL_first sep c hc r l (fun x hx => h x (by simp [hx]))]

theorem sp_cut (s : ByteArray) (sep : Nat) : ∀ k, k ≤ s.size →
    cutL sep s.data.toList = (sp s sep k).1.map (fun p => p.data.toList) ++ cutL sep (s.data.toList.drop (sp s sep k).2) ∧ ∀ j (hj : j < s.size), (sp s sep k).2 ≤ j → j < k → (s[j]).toNat ≠ sep
  | 0, _ => ⟨by simp [sp], fun j _ _ h => by omega⟩
  | k + 1, hk => by
    obtain ⟨h1, h2⟩ := sp_cut s sep k (by omega)
    have hle := sp_le s sep k
    have hkl : k < s.data.toList.length := by simp; omega
    by_cases hit : (s[k]).toNat = sep
    · rw [sp_hit s sep k (by omega) hit]
      refine ⟨?_, fun j _ h3 h4 => by simp at h3; omega⟩
      rw [h1]
      have e : s.data.toList.drop (sp s sep k).2 = (s.extract (sp s sep k).2 k).data.toList ++ s[k] :: s.data.toList.drop (k + 1) := by
        rw [data_extract]
        have e1 : s.data.toList.drop k = s[k] :: s.data.toList.drop (k + 1) := by
          rw [List.drop_eq_getElem_cons hkl]; rfl
        rw [← e1]
        have e2 : s.data.toList.drop k = (s.data.toList.drop (sp s sep k).2).drop (k - (sp s sep k).2) := by
          rw [List.drop_drop]; congr 1; omega
        rw [e2, List.take_append_drop]
      rw [e, cutL_first sep _ hit _ _ ?_]
      · simp
      · intro c hc
        rw [data_extract] at hc
        obtain ⟨i, hi, rfl⟩ := List.getElem_of_mem hc
        have hi2 : i < k - (sp s sep k).2 := by simp at hi; omega
        have := h2 ((sp s sep k).2 + i) (by omega) (by omega) (by omega)
        rw [getElem_data] at this
        simpa using this
    · rw [sp_miss s sep k (by omega) hit]
      refine ⟨h1, fun j hj h3 h4 => ?_⟩
      by_cases hjk : j = k
      · subst hjk; exact hit
      · exact h2 j hj h3 (by omega)
theorem pieces_cut (s : ByteArray) (sep : Nat) : pieces s sep = (cutL sep s.data.toList).map ofL := by
  obtain ⟨h1, h2⟩ := sp_cut s sep s.size (Nat.le_refl _)
  have hle := sp_le s sep s.size
  have e : (s.extract (sp s sep s.size).2 s.size).data.toList = s.data.toList.drop (sp s sep s.size).2 := by
    rw [data_extract]
    apply List.take_of_length_le
    simp
  have h3 : cutL sep (s.data.toList.drop (sp s sep s.size).2) = [s.data.toList.drop (sp s sep s.size).2] := by
    apply cutL_none
    intro c hc
    obtain ⟨i, hi, rfl⟩ := List.getElem_of_mem hc
    have hi2 : (sp s sep s.size).2 + i < s.size := by simp at hi; omega
    have := h2 ((sp s sep s.size).2 + i) hi2 (by omega) hi2
    rw [getElem_data] at this
    simpa using this
  rw [h1, h3, List.map_append, List.map_map]
  unfold pieces
  have e2 : (ofL ∘ fun p : ByteArray => p.data.toList) = id := by
    funext p
    simp [ofL]
  rw [e2, List.map_id]
  congr 1
  simp only [List.map_cons, List.map_nil]
  rw [← e, ← eq_ofL rfl]
theorem pieces_ofL (l : List UInt8) (sep : Nat) : pieces (ofL l) sep = (cutL sep l).map ofL := by rw [pieces_cut, ofL_data]
end Go.Proofs.YtgbajagacmfcmaaDoor

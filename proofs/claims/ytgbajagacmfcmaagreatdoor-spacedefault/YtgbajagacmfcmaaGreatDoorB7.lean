/- Texts that belong together, one behind the other: TabIns, TabGrow, TabPlace, CidrSet, AddrBitsOwn, AddrBit, CidrMask, CidrMayOwn, TabOwn, TabSet, TabNew, OpenEnts, TabFindMath, RangeKit. -/
import Derived.Test.YtgbajagacmfcmaaGreatDoorB6
import Derived.Shelf.Abstract
import Derived.RangeFuncCalls
import Derived.RangeFuncSeq
import Derived.RangeFuncIn
import Derived.OrdersIn
import Derived.TacticsIn
import Derived.Deep.RegionHeld3
/- Contract of slices.Insert of one entry. -/
namespace Go.Proofs.YtgbajagacmfcmaaGreatDoor
open Go.RowKit
set_option linter.unusedVariables false
set_option maxRecDepth 20000

theorem flatE_single (e : Ent) : flatE [e] = e.L := by simp [flatE]
theorem good_single {e : Ent} (h : e.Good) : AllGood [e] := fun x hx => by rw [List.mem_singleton.1 hx]; exact h
/-- What an insertion leaves. -/
def InsE (v : Value) (es : List Ent) (w : World) (e : Ending) (w' : World) : Prop := ∃ v', e = .returned v' ∧ RowT w' 0 v' es ∧ Foot (blkL v) (blkL v') w w'
set_option maxRecDepth 100000 in
set_option maxHeartbeats 1000000 in
theorem insert_end (v : Value) (es : List Ent) (e : Ent) (vb vc : Nat) (w : World) (hR : RowT w 0 v es) (he : e.Good) (hle : es.length ≤ 999) (hv : w.rangeAt vb 0 e.L) :
    Calls Tryz.prog 57 #[v, .int .i64 (es.length : Int), .slice (some ⟨vb, 0, none⟩) 1 vc] w (InsE v (es ++ [e]) w) := by
  have HR := Lib.hid hR
  have HM : Hid (1 = [e].length) := Lib.hid rfl
  have HV : Hid (w.rangeAt vb 0 (flatE [e])) := Lib.hid (by rw [flatE_single]; exact hv)
  have HY := Lib.hid (good_single he)
  have HL : Hid (es.length + [e].length ≤ 1000) := Lib.hid (by simp; omega)
  have HB : Hid (0 ≤ w.heap.size) := Lib.hid (Nat.zero_le _)
  have HFO : Hid (∀ v' w', w.grownBy w' v.ownBlock → (v'.ownBlock = v.ownBlock ∨ v'.ownBlock = some w.heap.size) → Foot (blkL v) (blkL v') w w') := Lib.hid (fun v' w' hg ho => ⟨hg.os, hg.tape, hg.output, hg.size, fun k hk hn => hg.block k hk (fun e => hn (by unfold blkL; rw [← e]; simp)), fun k hk => by
    unfold blkL at hk ⊢
    rcases ho with e | e
    · rw [e] at hk; exact .inl hk
    · rw [e] at hk; simp at hk; exact .inr (by omega)⟩)
  rcases hR.form with ⟨rfl, rfl⟩ | ⟨g, cap, rfl, _, hg, hc, hmx, hrg⟩
  · clear hR hv he
    go_enter Tryz.func57, Tryz.ntmps57
    go_wp2_with (refine append_entsT HR _ _ rfl rfl rfl [e] rfl HM HV HY HL HB (fun v' w' H1 H2 H3 => ?_))
    go_ret
    exact ⟨v', rfl, H1.out, HFO.out _ _ H2.out H3.out⟩
  · clear hR hv he hrg
    have hm : maxLen ≤ 9223372036854775807 := by unfold maxLen; omega
    obtain ⟨N, hN⟩ : ∃ N, es.length = N := ⟨_, rfl⟩
    rw [hN] at HR HL HFO hc hle ⊢
    have HR2 : Hid (RowT w 0 (.slice (some ⟨g, 0, none⟩) N cap) es) := HR
    have hd : ((N : Int) == (N : Int)) = true := by simp
    have HN := Lib.hid hN
    clear hN HR
    have HL2 : Hid (es.length + [e].length ≤ 1000) := Lib.hid (by rw [HN.out]; exact HL.out)
    by_cases hcp : cap = N
    · subst hcp
      go_enter Tryz.func57, Tryz.ntmps57
      go_wp2_with (refine append_entsT HR2 _ _ rfl rfl rfl [e] rfl HM HV HY HL2 HB (fun v' w' H1 H2 H3 => ?_))
      go_ret
      exact ⟨v', rfl, H1.out, HFO.out _ _ H2.out H3.out⟩
    · go_enter Tryz.func57, Tryz.ntmps57
      go_wp2_with (refine append_entsT HR2 _ _ rfl rfl rfl [e] rfl HM HV HY HL2 HB (fun v' w' H1 H2 H3 => ?_))
      go_ret
      exact ⟨v', rfl, H1.out, HFO.out _ _ H2.out H3.out⟩
theorem sizeT (w : World) : (Go.sizeOf 47).run Tryz.prog w = .ok 19 w := by
  obtain ⟨i0, hi0, hz0, hz1, hz2⟩ := info_parts infoT
  simp [Go.sizeOf, typeInfo, hi0, hz1]
/-- A fresh argument does not overlap a row. -/
theorem overlaps_no (w : World) (g vb vc o lb cb c1 c2 : Nat) (hne : vb ≠ g) (hv : Blk w vb c1) (hg : Blk w g c2) (h2 : c2 ≠ 0) :
    (callFunc 69 #[.slice (some ⟨vb, 0, none⟩) 1 vc, .slice (some ⟨g, o, none⟩) lb cb]).run Tryz.prog w = .ok (.value (.bool false)) w := by
  obtain ⟨cur1, a1, a2⟩ := hv
  obtain ⟨cur2, b1, b2⟩ := hg
  rw [run_callFunc_extern Tryz.func69 (by kernel_rfl) (by kernel_rfl) (by kernel_rfl) (e := Extern.SlicesOverlaps.overlaps #[33, 33] #[4]) (by kernel_rfl),
    Lib.run_overlaps_apart w 33 4 47 Tryz.underlying33 19 sizeT ⟨vb, 0, none⟩ ⟨g, o, none⟩ 1 vc lb cb hne 47 47 cur1.size cur2.size (by simp [World.shape?, a1]) (by simp [World.shape?, b1]) (by omega) (by simp [World.frozen?, a1]) (by simp [World.frozen?, a1])]
  rfl
set_option maxRecDepth 100000 in
set_option maxHeartbeats 1000000 in
theorem insert_shift (g cap : Nat) (es : List Ent) (i : Nat) (e : Ent) (vb vc : Nat) (w : World) (hb : Blk w g (cap * 19)) (hc : es.length + 1 ≤ cap) (hm : cap ≤ maxLen) (hr : w.rangeAt g 0 (flatE es)) (hg : AllGood es) (hle : es.length ≤ 999) (hi : i < es.length) (he : e.Good) (hv : w.rangeAt vb 0 e.L) (hvb : Blk w vb 19) (hne : vb ≠ g) :
    Calls Tryz.prog 57 #[.slice (some ⟨g, 0, none⟩) es.length cap, .int .i64 (i : Int), .slice (some ⟨vb, 0, none⟩) 1 vc] w (InsE (.slice (some ⟨g, 0, none⟩) es.length cap) (es.take i ++ [e] ++ es.drop i) w) := by
  have hlen : (es.take i ++ [e] ++ es.drop i).length = es.length + 1 := by simp; omega
  have hgd : AllGood (es.drop i) := fun e he => hg e (List.mem_of_mem_drop he)
  have hgt : AllGood (es.take i) := fun e he => hg e (List.mem_of_mem_take he)
  have hfl : (flatE (es.drop i)).length = (es.length - i) * 19 := by rw [flatE_len _ hgd, List.length_drop]
  have hft : (flatE (es.take i)).length = i * 19 := by rw [flatE_len _ hgt, List.length_take, Nat.min_eq_left (by omega)]
  have heL : e.L.length = 19 := Ent.L_len e he.1.len
  have heO : ∀ u ∈ e.L, u.oneCell' = true := by have := flatE_one [e] (good_single he); rw [flatE_single] at this; exact this
  have hbD : Blk w.drew g (cap * 19) := hb
  have HFIN : Hid (RowT ((w.drew.setCells g ((i + 1) * 19) (flatE (es.drop i))).setCells g (i * 19) e.L) 0 (.slice (some ⟨g, 0, none⟩) (es.length + 1) cap) (es.take i ++ [e] ++ es.drop i)) := Lib.hid (by
    have := rowT_of (w := (w.drew.setCells g ((i + 1) * 19) (flatE (es.drop i))).setCells g (i * 19) e.L) (g := g) (cap := cap) (es := es.take i ++ [e] ++ es.drop i) (Blk.setCells g _ _ _ (Blk.setCells g _ _ _ hbD)) (by omega) hm ?_ (fun x hx => by
      rcases List.mem_append.1 hx with hx | hx
      · rcases List.mem_append.1 hx with hx | hx
        · exact hgt x hx
        · rw [List.mem_singleton.1 hx]; exact he
      · exact hgd x hx) (by omega)
    · rw [hlen] at this; exact this
    · have h1 : w.drew.rangeAt g 0 (flatE (es.take i)) := cell_take hr i
      have h2 := World.rangeAt_setCells_same w.drew g ((i + 1) * 19) (flatE (es.drop i)) (hbD.there _ _ (by rw [hfl]; omega))
      have h3 := World.rangeAt_setCells_apart h1 g ((i + 1) * 19) (flatE (es.drop i)) (.inr (.inl (by rw [hft]; omega)))
      have h4 := World.rangeAt_setCells_apart h3 g (i * 19) e.L (.inr (.inl (by rw [hft]; omega)))
      have h5 := World.rangeAt_setCells_apart h2 g (i * 19) e.L (.inr (.inr (by rw [heL]; omega)))
      have h6 := World.rangeAt_setCells_same (w.drew.setCells g ((i + 1) * 19) (flatE (es.drop i))) g (i * 19) e.L (Blk.there (Blk.setCells g _ _ _ hbD) _ _ (by rw [heL]; omega))
      rw [flatE_append, flatE_append, flatE_single]
      refine range_append (range_append h4 (by rw [hft, Nat.zero_add]; exact h6)) ?_
      rw [List.length_append, hft, heL, show 0 + (i * 19 + 19) = (i + 1) * 19 by omega]
      exact h5)
  have HFT : Hid (Foot [g] [g] w ((w.drew.setCells g ((i + 1) * 19) (flatE (es.drop i))).setCells g (i * 19) e.L)) := Lib.hid (((Foot.ofBelow [g] (Below.refl _ _).drew).trans (foot_cells g _ _)).trans (foot_cells g _ _))
  have HC1 : ∀ ty dl dc sl sc, Hid (es.length - i = Nat.min sl dl → (Builtin.copy_ #[33, 33] ty #[.slice (some ⟨g, (i + 1) * 19, none⟩) dl dc, .slice (some ⟨g, i * 19, none⟩) sl sc]).run Tryz.prog w.drew = .ok (goInt ((es.length - i : Nat) : Int)) (w.drew.setCells g ((i + 1) * 19) (flatE (es.drop i)))) := fun ty dl dc sl sc => Lib.hid (fun hmin =>
    copyT w.drew ty g ((i + 1) * 19) dl dc ⟨g, i * 19, none⟩ sl sc (es.length - i) (flatE (es.drop i)) hmin hfl (fun j v hj => by rw [Addr.add_mid]; exact cell_drop hr hg i (by omega) j v hj) (hbD.there _ _ (by omega)) (flatE_one _ hgd))
  have HC2 : ∀ ty dl dc, Hid (1 = Nat.min 1 dl → (Builtin.copy_ #[33, 33] ty #[.slice (some ⟨g, i * 19, none⟩) dl dc, .slice (some ⟨vb, 0, none⟩) 1 vc]).run Tryz.prog (w.drew.setCells g ((i + 1) * 19) (flatE (es.drop i))) = .ok (goInt ((1 : Nat) : Int)) ((w.drew.setCells g ((i + 1) * 19) (flatE (es.drop i))).setCells g (i * 19) e.L)) := fun ty dl dc => Lib.hid (fun hmin =>
    copyT _ ty g (i * 19) dl dc ⟨vb, 0, none⟩ 1 vc 1 e.L hmin (by rw [heL]) (fun j v hj => by rw [Addr.add_mid]; exact World.rangeAt_setCells_apart (w := w.drew) hv g _ _ (.inl hne) j v hj) (Blk.there (Blk.setCells g _ _ _ hbD) _ _ (by omega)) heO)
  have hov : ∀ lb cb, (callFunc 69 #[.slice (some ⟨vb, 0, none⟩) 1 vc, .slice (some ⟨g, (i + 1) * 19, none⟩) lb cb]).run Tryz.prog w = .ok (.value (.bool false)) w := fun lb cb => overlaps_no w g vb vc _ lb cb _ _ hne hvb hb (by omega)
  generalize flatE (es.drop i) = ds at *
  generalize (es.take i ++ [e] ++ es.drop i) = R at *
  generalize e.L = el at *
  clear hr hg hgd hgt hft hlen hb hbD hv hvb he
  generalize es.length = N at *
  have hmx : maxLen ≤ 9223372036854775807 := by unfold maxLen; omega
  have hd1 : ((i : Int) == (N : Int)) = false := by simp; omega
  have hd2 : decide ((cap : Int) < (N : Int) + 1) = false := by simp; omega
  have hb1 : (i : Int) ≤ (N : Int) := by omega
  have hb2 : (N : Int) + 1 ≤ (cap : Int) := by omega
  have hb3 : (i : Int) + 1 ≤ (N : Int) + 1 := by omega
  have hb4 : (0 : Int) ≤ (i : Int) + 1 := by omega
  have hb5 : (0 : Int) ≤ (N : Int) + 1 := by omega
  have hb6 : (i : Int) ≤ (N : Int) + 1 := by omega
  have ht1 : ((i : Int) + 1).toNat = i + 1 := by omega
  have ht2 : ((N : Int) + 1).toNat = N + 1 := by omega
  have hw1 : IntKind.i64.wrap ((i : Int) + 1) = (i : Int) + 1 := by rw [IntKind.wrap_i64]; omega
  have hw2 : IntKind.i64.wrap ((N : Int) + 1) = (N : Int) + 1 := by rw [IntKind.wrap_i64]; omega
  have hc1 : ¬ (cap = i) := by omega
  have hc2 : ¬ (cap = i + 1) := by omega
  go_enter Tryz.func57, Tryz.ntmps57
  go_upto_region 15 with (simp only [hov])
  refine wp_region_noPanic ?_
  refine wp_region_held_drew (S := fun _ => True) (by kernel_rfl) trivial (fun hHeld => ?_)
  refine wpAnyH_take (i := 0) (v := ?_) rfl (by kernel_rfl) (by kernel_rfl) (by kernel_rfl) (fun _ _ _ h => h) (Or.inl ⟨by rfl, ?_⟩) (by assumption) ?_
  rotate_left
  · (intro w hSw; go_simp; try (with_reducible rfl))
  try simp only [Act.put, List.getElem_toArray, List.getElem_cons_zero, List.setIfInBounds_toArray, List.set_cons_zero, List.set_cons_succ]
  refine wpAnyH_take (i := 1) (v := ?_) rfl (by kernel_rfl) (by kernel_rfl) (by kernel_rfl) (fun _ _ _ h => h) (Or.inl ⟨by rfl, ?_⟩) (by assumption) ?_
  rotate_left
  · (intro w hSw; go_simp; try (with_reducible rfl))
  try simp only [Act.put, List.getElem_toArray, List.getElem_cons_zero, List.getElem_cons_succ, List.setIfInBounds_toArray, List.set_cons_zero, List.set_cons_succ]
  refine wpAnyH_take (i := 2) (v := ?_) rfl (by kernel_rfl) (by kernel_rfl) (by kernel_rfl) (fun _ _ _ h => h) (Or.inl ⟨by rfl, ?_⟩) (by assumption) ?_
  rotate_left
  · (intro w hSw; go_simp; try (with_reducible rfl))
  try simp only [Act.put, List.getElem_toArray, List.getElem_cons_zero, List.getElem_cons_succ, List.setIfInBounds_toArray, List.set_cons_zero, List.set_cons_succ]
  refine wpAnyH_take (i := 3) (v := ?_) rfl (by kernel_rfl) (by kernel_rfl) (by kernel_rfl) (fun _ _ _ h => h) (Or.inl ⟨by rfl, ?_⟩) (by assumption) ?_
  rotate_left
  · (intro w hSw; go_simp; try (with_reducible rfl))
  try simp only [Act.put, List.getElem_toArray, List.getElem_cons_zero, List.getElem_cons_succ, List.setIfInBounds_toArray, List.set_cons_zero, List.set_cons_succ]
  refine wpAnyH_take (i := 4) (v := ?_) rfl (by kernel_rfl) (by kernel_rfl) (by kernel_rfl) (fun _ _ _ h => h) (Or.inl ⟨by rfl, ?_⟩) (by assumption) ?_
  rotate_left
  · (intro w hSw; go_simp; try (with_reducible rfl))
  try simp only [Act.put, List.getElem_toArray, List.getElem_cons_zero, List.getElem_cons_succ, List.setIfInBounds_toArray, List.set_cons_zero, List.set_cons_succ]
  refine wpAnyH_take (i := 5) (v := ?_) rfl (by kernel_rfl) (by kernel_rfl) (by kernel_rfl) (fun _ _ _ h => h) (Or.inl ⟨by rfl, ?_⟩) (by assumption) ?_
  rotate_left
  · (intro w hSw; go_simp; try (with_reducible rfl))
  try simp only [Act.put, List.getElem_toArray, List.getElem_cons_zero, List.getElem_cons_succ, List.setIfInBounds_toArray, List.set_cons_zero, List.set_cons_succ]
  refine wpAnyH_take (i := 6) (v := ?_) rfl (by kernel_rfl) (by kernel_rfl) (by kernel_rfl) (fun _ _ _ h => h) (Or.inl ⟨by rfl, ?_⟩) (by assumption) ?_
  rotate_left
  · (intro w hSw; go_simp; try (with_reducible rfl))
  try simp only [Act.put, List.getElem_toArray, List.getElem_cons_zero, List.getElem_cons_succ, List.setIfInBounds_toArray, List.set_cons_zero, List.set_cons_succ]
  refine wpAnyH_take (i := 7) (v := ?_) rfl (by kernel_rfl) (by kernel_rfl) (by kernel_rfl) (fun _ _ _ h => h) (Or.inl ⟨by rfl, ?_⟩) (by assumption) ?_
  rotate_left
  · (intro w hSw; go_simp; try (with_reducible rfl))
  try simp only [Act.put, List.getElem_toArray, List.getElem_cons_zero, List.getElem_cons_succ, List.setIfInBounds_toArray, List.set_cons_zero, List.set_cons_succ]
  refine wpAnyH_ready (rs := [8]) (by kernel_rfl) (by simp) ?_
  refine AllReadyH.one rfl rfl (fun K2 hK2 => ?_)
  refine wp_copyT _ _ _ rfl _ _ rfl rfl ((HC1 _ _ _ _ _).out (by simp only [Nat.min_def]; split <;> omega)) ?_
  refine hK2.out _ _ trivial (fun _ => ?_)
  clear hK2 K2 HC1 hov
  try simp only [Act.put, List.getElem_toArray, List.getElem_cons_zero, List.getElem_cons_succ, List.setIfInBounds_toArray, List.set_cons_zero, List.set_cons_succ]
  refine wpAnyH_done (by kernel_rfl) ?_ _
  refine NoPanic.normal ?_
  generalize w.drew.setCells g ((i + 1) * 19) ds = V at *
  go_wp2_with (refine copy_stepT _ rfl _ _ rfl _ _ rfl rfl ((HC2 _ _ _).out (by simp only [Nat.min_def]; split <;> omega)) ?_)
  go_ret
  exact ⟨_, rfl, HFIN.out, HFT.out⟩
end Go.Proofs.YtgbajagacmfcmaaGreatDoor
/- Contract of slices.Insert of one entry, where there is no room; all roads joined. -/
namespace Go.Proofs.YtgbajagacmfcmaaGreatDoor
open Go.RowKit
set_option linter.unusedVariables false
set_option maxRecDepth 20000

theorem zeros_len (n : Nat) : (Builtin.zeroCells (Value.agg zE).cells n).size = n * 19 := by simp [Builtin.zeroCells, Value.cells]
theorem blk_new (w : World) (cs : Array Value) (c : Nat) (h : cs.size = c) : Blk (w.alloc (.cells cs 47)) w.heap.size c := ⟨cs, by show (w.heap.push _)[w.heap.size]? = _; simp, h⟩
set_option maxRecDepth 100000 in
set_option maxHeartbeats 400000 in
theorem insert_grow (g : Nat) (es : List Ent) (i : Nat) (e : Ent) (vb vc : Nat) (w : World) (hr : w.rangeAt g 0 (flatE es)) (hgl : g < w.heap.size) (hg : AllGood es) (hle : es.length ≤ 999) (hi : i < es.length) (he : e.Good) (hv : w.rangeAt vb 0 e.L) (hvl : vb < w.heap.size) :
    Calls Tryz.prog 57 #[.slice (some ⟨g, 0, none⟩) es.length es.length, .int .i64 (i : Int), .slice (some ⟨vb, 0, none⟩) 1 vc] w (InsE (.slice (some ⟨g, 0, none⟩) es.length es.length) (es.take i ++ [e] ++ es.drop i) w) := by
  have hlen : (es.take i ++ [e] ++ es.drop i).length = es.length + 1 := by simp; omega
  have hgd : AllGood (es.drop i) := fun e he => hg e (List.mem_of_mem_drop he)
  have hgt : AllGood (es.take i) := fun e he => hg e (List.mem_of_mem_take he)
  have hfl : (flatE (es.drop i)).length = (es.length - i) * 19 := by rw [flatE_len _ hgd, List.length_drop]
  have hft : (flatE (es.take i)).length = i * 19 := by rw [flatE_len _ hgt, List.length_take, Nat.min_eq_left (by omega)]
  have heL : e.L.length = 19 := Ent.L_len e he.1.len
  have heO : ∀ u ∈ e.L, u.oneCell' = true := by have := flatE_one [e] (good_single he); rw [flatE_single] at this; exact this
  obtain ⟨i0, hi0, hz0, hz1, hz2⟩ := info_parts infoT
  obtain ⟨C, hC⟩ : ∃ C, grownCap w (es.length + 1) es.length 47 = C := ⟨_, rfl⟩
  have hCg : es.length + 1 ≤ C := by rw [← hC]; exact grownCap_ge w _ _ _
  have hCm : C ≤ maxLen := by rw [← hC]; exact grownCap_le_maxLen w _ _ _ (by unfold maxLen; omega)
  obtain ⟨ROW, hROW⟩ : ∃ ROW : Array Value, (flatE (es.take i)).toArray ++ Builtin.zeroCells (Value.agg zE).cells (es.length + 1 - i) ++ Builtin.zeroCells (Value.agg zE).cells (C - (es.length + 1)) = ROW := ⟨_, rfl⟩
  have hRS : ROW.size = C * 19 := by rw [← hROW, Array.size_append, Array.size_append, zeros_len, zeros_len, List.size_toArray, hft]; omega
  have hRT : ∀ j u, (flatE (es.take i))[j]? = some u → ROW[j]? = some u := fun j u hu => by
    have hj : j < (flatE (es.take i)).length := (List.getElem?_eq_some_iff.1 hu).1
    rw [← hROW, Array.getElem?_append_left (by rw [Array.size_append, List.size_toArray]; omega), Array.getElem?_append_left (by rw [List.size_toArray]; exact hj)]
    simpa using hu
  have HAP : ∀ ty, Hid ((Builtin.append_ #[33, 3] ty #[.slice (some ⟨g, 0, none⟩) i es.length, .int .i64 ((es.length : Int) + 1 - (i : Int))]).run Tryz.prog w = .ok (.slice (some ⟨w.heap.size, 0, none⟩) (es.length + 1) C) (w.drew.alloc (.cells ROW 47))) := fun ty => Lib.hid (by
    have hold : (Builtin.firstCells i0.size i (.slice (some ⟨g, 0, none⟩) i es.length)).run Tryz.prog w.drew = .ok (flatE (es.take i)).toArray w.drew := by
      rw [hz1]
      exact run_firstCells_some w.drew 19 i ⟨g, 0, none⟩ i es.length (flatE (es.take i)) (by rw [hft]) (fun j v hj => by rw [Addr.add_mid]; exact cell_take hr i j v hj)
    have hk : (es.length : Int) + 1 - (i : Int) = ((es.length + 1 - i : Nat) : Int) := by omega
    have h := Lib.run_append_grow_zeros w 33 3 ty 47 i0 _ .i64 .i64 Tryz.underlying33 Tryz.underlying3 hi0 hz0 (some ⟨g, 0, none⟩) i es.length (flatE (es.take i)) hold (es.length + 1 - i) (by omega) (by rw [hz1]; decide) (by omega) (by omega) (by rw [hz2]; omega) (by rw [hz2, show i + (es.length + 1 - i) = es.length + 1 by omega]; exact growslice_fits (by omega) (by omega))
    rw [show i + (es.length + 1 - i) = es.length + 1 by omega, hC, hROW] at h
    rw [hk]
    exact h)
  have HB1 : Blk (w.drew.alloc (.cells ROW 47)) w.heap.size (C * 19) := blk_new w.drew ROW _ hRS
  have HBL : Below w.heap.size w (w.drew.alloc (.cells ROW 47)) := (Below.refl _ _).drew.alloc (Nat.le_refl _) _
  have hR1 : (w.drew.alloc (.cells ROW 47)).rangeAt w.heap.size 0 (flatE (es.take i)) := fun j u hu => by
    rw [Nat.zero_add, cell_of_row _ _ j ROW 47 (0, 0) (by show (w.heap.push _)[w.heap.size]? = _; simp)]
    exact hRT j u hu
  have hR2 := range_belowB hr HBL hgl
  have hR3 := range_belowB hv HBL hvl
  generalize w.drew.alloc (.cells ROW 47) = W1 at *
  generalize hH : w.heap.size = H at *
  have HC1 : ∀ ty dl dc, Hid (1 = Nat.min 1 dl → (Builtin.copy_ #[33, 33] ty #[.slice (some ⟨H, i * 19, none⟩) dl dc, .slice (some ⟨vb, 0, none⟩) 1 vc]).run Tryz.prog W1 = .ok (goInt ((1 : Nat) : Int)) (W1.setCells H (i * 19) e.L)) := fun ty dl dc => Lib.hid (fun hmin =>
    copyT W1 ty H (i * 19) dl dc ⟨vb, 0, none⟩ 1 vc 1 e.L hmin (by rw [heL]) (fun j v hj => by rw [Addr.add_mid]; exact hR3 j v hj) (HB1.there _ _ (by omega)) heO)
  have HC2 : ∀ ty dl dc sl sc, Hid (es.length - i = Nat.min sl dl → (Builtin.copy_ #[33, 33] ty #[.slice (some ⟨H, (i + 1) * 19, none⟩) dl dc, .slice (some ⟨g, i * 19, none⟩) sl sc]).run Tryz.prog (W1.setCells H (i * 19) e.L).drew = .ok (goInt ((es.length - i : Nat) : Int)) ((W1.setCells H (i * 19) e.L).drew.setCells H ((i + 1) * 19) (flatE (es.drop i)))) := fun ty dl dc sl sc => Lib.hid (fun hmin =>
    copyT (W1.setCells H (i * 19) e.L).drew ty H ((i + 1) * 19) dl dc ⟨g, i * 19, none⟩ sl sc (es.length - i) (flatE (es.drop i)) hmin hfl (fun j v hj => by rw [Addr.add_mid]; exact World.rangeAt_setCells_apart (cell_drop hR2 hg i (by omega)) H _ _ (.inl (by omega)) j v hj) (Blk.there (Blk.setCells H _ _ _ HB1) _ _ (by omega)) (flatE_one _ hgd))
  have HFIN : Hid (RowT ((W1.setCells H (i * 19) e.L).drew.setCells H ((i + 1) * 19) (flatE (es.drop i))) 0 (.slice (some ⟨H, 0, none⟩) (es.length + 1) C) (es.take i ++ [e] ++ es.drop i)) := Lib.hid (by
    have hbD : Blk (W1.setCells H (i * 19) e.L).drew H (C * 19) := Blk.setCells H _ _ _ HB1
    have := rowT_of (w := (W1.setCells H (i * 19) e.L).drew.setCells H ((i + 1) * 19) (flatE (es.drop i))) (g := H) (cap := C) (es := es.take i ++ [e] ++ es.drop i) (Blk.setCells H _ _ _ hbD) (by omega) hCm ?_ (fun x hx => by
      rcases List.mem_append.1 hx with hx | hx
      · rcases List.mem_append.1 hx with hx | hx
        · exact hgt x hx
        · rw [List.mem_singleton.1 hx]; exact he
      · exact hgd x hx) (by omega)
    · rw [hlen] at this; exact this
    · have h2 := World.rangeAt_setCells_same W1 H (i * 19) e.L (HB1.there _ _ (by rw [heL]; omega))
      have h3 := World.rangeAt_setCells_apart hR1 H (i * 19) e.L (.inr (.inl (by rw [hft]; omega)))
      have h4 := World.rangeAt_setCells_apart (w := (W1.setCells H (i * 19) e.L).drew) h3 H ((i + 1) * 19) (flatE (es.drop i)) (.inr (.inl (by rw [hft]; omega)))
      have h5 := World.rangeAt_setCells_apart (w := (W1.setCells H (i * 19) e.L).drew) h2 H ((i + 1) * 19) (flatE (es.drop i)) (.inr (.inl (by rw [heL]; omega)))
      have h6 := World.rangeAt_setCells_same (W1.setCells H (i * 19) e.L).drew H ((i + 1) * 19) (flatE (es.drop i)) (hbD.there _ _ (by rw [hfl]; omega))
      rw [flatE_append, flatE_append, flatE_single]
      refine range_append (range_append h4 (by rw [hft, Nat.zero_add]; exact h5)) ?_
      rw [List.length_append, hft, heL, show 0 + (i * 19 + 19) = (i + 1) * 19 by omega]
      exact h6)
  have HFT : Hid (Foot [g] [H] w ((W1.setCells H (i * 19) e.L).drew.setCells H ((i + 1) * 19) (flatE (es.drop i)))) := Lib.hid (by
    have hb : Below H w ((W1.setCells H (i * 19) e.L).drew.setCells H ((i + 1) * 19) (flatE (es.drop i))) := below_cells (Nat.le_refl _) _ _ _ ((below_cells (Nat.le_refl _) _ _ _ HBL).drew)
    exact ⟨hb.os, hb.tape, hb.output, hb.size, fun k hk _ => hb.block k (by omega), fun k hk => .inr (by simp at hk; omega)⟩)
  generalize flatE (es.drop i) = ds at *
  generalize (es.take i ++ [e] ++ es.drop i) = R at *
  generalize e.L = el at *
  clear hr hg hgd hgt hft hlen hv he HB1 HBL hR1 hR2 hR3 hRT hRS hROW hi0 hz0 hz1 hz2 hC
  generalize es.length = N at *
  have hmx : maxLen ≤ 9223372036854775807 := by unfold maxLen; omega
  have hd1 : ((i : Int) == (N : Int)) = false := by simp; omega
  have hd2 : decide ((N : Int) < (N : Int) + 1) = true := by simp; omega
  have hb1 : (i : Int) ≤ (N : Int) := by omega
  have hb3 : (i : Int) + 1 ≤ (N : Int) + 1 := by omega
  have hb4 : (0 : Int) ≤ (i : Int) + 1 := by omega
  have hb6 : (i : Int) ≤ (N : Int) + 1 := by omega
  have ht1 : ((i : Int) + 1).toNat = i + 1 := by omega
  have hw1 : IntKind.i64.wrap ((i : Int) + 1) = (i : Int) + 1 := by rw [IntKind.wrap_i64]; omega
  have hw2 : IntKind.i64.wrap ((N : Int) + 1) = (N : Int) + 1 := by rw [IntKind.wrap_i64]; omega
  have hw3 : IntKind.i64.wrap ((N : Int) + 1 - (i : Int)) = (N : Int) + 1 - (i : Int) := by rw [IntKind.wrap_i64]; omega
  have hc1 : ¬ (N = i) := by omega
  have hc2 : ¬ (C = i + 1) := by omega
  have hc3 : ¬ (C = i) := by omega
  go_enter Tryz.func57, Tryz.ntmps57
  go_upto_region 9 with fail
  go_upto_region 10 with (at_builtin; refine Lib.wpList_append_run _ rfl _ _ 33 3 rfl (.slice (some ⟨g, 0, none⟩) i N) (.int .i64 ((N : Int) + 1 - (i : Int))) rfl rfl _ _ (HAP _).out ?_)
  clear HAP
  go_upto_region 11 with (refine copy_stepT _ rfl _ _ rfl (.slice (some ⟨H, i * 19, none⟩) (N + 1 - i) (C - i)) (.slice (some ⟨vb, 0, none⟩) 1 vc) rfl rfl ((HC1 _ _ _).out (by simp only [Nat.min_def]; split <;> omega)) ?_)
  clear HC1
  generalize hV : W1.setCells H (i * 19) el = V at *
  refine wp_region_noPanic ?_
  refine wp_region_held_drew (S := fun _ => True) (by kernel_rfl) trivial (fun hHeld => ?_)
  refine wpAnyH_take (i := 0) (v := ?_) rfl (by kernel_rfl) (by kernel_rfl) (by kernel_rfl) (fun _ _ _ h => h) (Or.inl ⟨by rfl, ?_⟩) (by assumption) ?_
  rotate_left
  · (intro w hSw; go_simp; try (with_reducible rfl))
  try simp only [Act.put, List.getElem_toArray, List.getElem_cons_zero, List.setIfInBounds_toArray, List.set_cons_zero, List.set_cons_succ]
  refine wpAnyH_take (i := 1) (v := ?_) rfl (by kernel_rfl) (by kernel_rfl) (by kernel_rfl) (fun _ _ _ h => h) (Or.inl ⟨by rfl, ?_⟩) (by assumption) ?_
  rotate_left
  · (intro w hSw; go_simp; try (with_reducible rfl))
  try simp only [Act.put, List.getElem_toArray, List.getElem_cons_zero, List.getElem_cons_succ, List.setIfInBounds_toArray, List.set_cons_zero, List.set_cons_succ]
  refine wpAnyH_take (i := 2) (v := ?_) rfl (by kernel_rfl) (by kernel_rfl) (by kernel_rfl) (fun _ _ _ h => h) (Or.inl ⟨by rfl, ?_⟩) (by assumption) ?_
  rotate_left
  · (intro w hSw; go_simp; try (with_reducible rfl))
  try simp only [Act.put, List.getElem_toArray, List.getElem_cons_zero, List.getElem_cons_succ, List.setIfInBounds_toArray, List.set_cons_zero, List.set_cons_succ]
  refine wpAnyH_take (i := 3) (v := ?_) rfl (by kernel_rfl) (by kernel_rfl) (by kernel_rfl) (fun _ _ _ h => h) (Or.inl ⟨by rfl, ?_⟩) (by assumption) ?_
  rotate_left
  · (intro w hSw; go_simp; try (with_reducible rfl))
  try simp only [Act.put, List.getElem_toArray, List.getElem_cons_zero, List.getElem_cons_succ, List.setIfInBounds_toArray, List.set_cons_zero, List.set_cons_succ]
  refine wpAnyH_take (i := 4) (v := ?_) rfl (by kernel_rfl) (by kernel_rfl) (by kernel_rfl) (fun _ _ _ h => h) (Or.inl ⟨by rfl, ?_⟩) (by assumption) ?_
  rotate_left
  · (intro w hSw; go_simp; try (with_reducible rfl))
  try simp only [Act.put, List.getElem_toArray, List.getElem_cons_zero, List.getElem_cons_succ, List.setIfInBounds_toArray, List.set_cons_zero, List.set_cons_succ]
  refine wpAnyH_take (i := 5) (v := ?_) rfl (by kernel_rfl) (by kernel_rfl) (by kernel_rfl) (fun _ _ _ h => h) (Or.inl ⟨by rfl, ?_⟩) (by assumption) ?_
  rotate_left
  · (intro w hSw; go_simp; try (with_reducible rfl))
  try simp only [Act.put, List.getElem_toArray, List.getElem_cons_zero, List.getElem_cons_succ, List.setIfInBounds_toArray, List.set_cons_zero, List.set_cons_succ]
  refine wpAnyH_take (i := 6) (v := ?_) rfl (by kernel_rfl) (by kernel_rfl) (by kernel_rfl) (fun _ _ _ h => h) (Or.inl ⟨by rfl, ?_⟩) (by assumption) ?_
  rotate_left
  · (intro w hSw; go_simp; try (with_reducible rfl))
  try simp only [Act.put, List.getElem_toArray, List.getElem_cons_zero, List.getElem_cons_succ, List.setIfInBounds_toArray, List.set_cons_zero, List.set_cons_succ]
  refine wpAnyH_take (i := 7) (v := ?_) rfl (by kernel_rfl) (by kernel_rfl) (by kernel_rfl) (fun _ _ _ h => h) (Or.inl ⟨by rfl, ?_⟩) (by assumption) ?_
  rotate_left
  · (intro w hSw; go_simp; try (with_reducible rfl))
  try simp only [Act.put, List.getElem_toArray, List.getElem_cons_zero, List.getElem_cons_succ, List.setIfInBounds_toArray, List.set_cons_zero, List.set_cons_succ]
  refine wpAnyH_ready (rs := [8]) (by kernel_rfl) (by simp) ?_
  refine AllReadyH.one rfl rfl (fun K2 hK2 => ?_)
  refine wp_copyT _ _ _ rfl _ _ rfl rfl ((HC2 _ _ _ _ _).out (by simp only [Nat.min_def]; split <;> omega)) ?_
  refine hK2.out _ _ trivial (fun _ => ?_)
  clear hK2 K2 HC2 hV
  try simp only [Act.put, List.getElem_toArray, List.getElem_cons_zero, List.getElem_cons_succ, List.setIfInBounds_toArray, List.set_cons_zero, List.set_cons_succ]
  refine wpAnyH_done (by kernel_rfl) ?_ _
  refine NoPanic.normal ?_
  generalize V.drew.setCells H ((i + 1) * 19) ds = V2 at *
  go_wp2_with fail
  go_ret
  exact ⟨_, rfl, HFIN.out, HFT.out⟩
/-- An entry put in at its place. -/
theorem insert_any (v : Value) (es : List Ent) (i : Nat) (e : Ent) (vb vc : Nat) (w : World) (hR : RowT w 0 v es) (hi : i ≤ es.length) (he : e.Good) (hle : es.length ≤ 999) (hv : w.rangeAt vb 0 e.L) (hvb : Blk w vb 19) (hne : ∀ g, v.ownBlock = some g → vb ≠ g) :
    Calls Tryz.prog 57 #[v, .int .i64 (i : Int), .slice (some ⟨vb, 0, none⟩) 1 vc] w (InsE v (es.take i ++ [e] ++ es.drop i) w) := by
  by_cases hil : i < es.length
  · rcases hR.blk with ⟨rfl, rfl⟩ | ⟨g, cap, rfl, _, hb, hc, hm, hr⟩
    · exact absurd hil (by simp)
    · by_cases hcap : es.length + 1 ≤ cap
      · exact insert_shift g cap es i e vb vc w hb hcap hm hr hR.2.1 hle hil he hv hvb (hne g rfl)
      · obtain rfl : cap = es.length := by omega
        exact insert_grow g es i e vb vc w hr hb.lt hR.2.1 hle hil he hv hvb.lt
  · obtain rfl : i = es.length := by omega
    rw [List.take_length, List.drop_length, List.append_nil]
    exact insert_end v es e vb vc w hR he hle hv
end Go.Proofs.YtgbajagacmfcmaaGreatDoor
/- Contract of Table.place; Get, Len and Steps of the table. -/
namespace Go.Proofs.YtgbajagacmfcmaaGreatDoor
open Go.RowKit
set_option linter.unusedVariables false
set_option maxRecDepth 20000

theorem Foot.none {w w' : World} (h : Foot [] [] w w') : Below w.heap.size w w' := h.below (fun k hk => by cases hk) (Nat.le_refl _)
theorem compare_cmps (f : Int) (bs : List Nat) (n : Int) (es : List Ent) (hg : AllGood es) (h16 : bs.length = 16) (hlt : ∀ y ∈ bs, y < 256) : Cmps 68 #[] f bs n es [] (fun _ _ => True) := by
  intro c W e hc he _
  have hG := hg e he
  have := tabCompare_any e.f e.b (e.n : Int) e.v f bs n W hG.1.len h16 hG.1.lt hlt
  simp only [Array.empty_append]
  exact this.mono fun x w' ⟨h1, h2⟩ => ⟨h1, trivial, Foot.ofBelow [] h2⟩
set_option maxRecDepth 100000 in
set_option maxHeartbeats 2000000 in
theorem place_any (G : Nat) (v : Value) (st : Int) (es : List Ent) (f : Int) (bs : List Nat) (n : Int) (w : World) (hT : Tab w G v st) (hR : RowT w 0 v es) (hs : SortedE es) (h16 : bs.length = 16) (hlt : ∀ y ∈ bs, y < 256) :
    Calls Tryz.prog 56 #[.pointer (some ⟨G, 0, none⟩), prefV f bs n] w fun e w' => ∃ (i : Nat) (b : Bool), e = .returned (.tuple #[.int .i64 (i : Int), .bool b]) ∧ Place es f bs n i b ∧ Below w.heap.size w w' := by
  have hgood := hR.2.1
  have hle := hR.2.2
  have H16 := Lib.hid h16
  have HS : ∀ W, Hid (RowT W 0 v es → Calls Tryz.prog 52 #[v, prefV f bs n, .func (.func 68) #[] #[]] W fun e w' => ∃ (i : Nat) (b : Bool), e = .returned (.tuple #[.int .i64 (i : Int), .bool b]) ∧ Place es f bs n i b ∧ Below W.heap.size W w') := fun W => Lib.hid (fun hr => by
    rcases hr.form with ⟨rfl, rfl⟩ | ⟨g, cap, rfl, _, hg, hc, _, hrg⟩
    · exact (search_nil _ f bs n W h16).mono fun e w' ⟨h1, h2⟩ => ⟨0, false, h1, place_nil f bs n, h2⟩
    · exact (search_any 68 #[] (enters_of Tryz.func68 (by kernel_rfl) rfl) f bs n g cap es [] (fun _ _ => True) W hrg hg (by simp) (by simp) hle hgood hs h16 (compare_cmps f bs n es hgood h16 hlt) (fun _ _ _ _ _ => trivial) trivial).mono fun e w' ⟨i, b, c, h1, h2, _, _, h3⟩ => ⟨i, b, h1, h2, h3.none⟩)
  obtain ⟨cs, ecs, HP, HB⟩ := pref_boxed f bs n w h16
  rw [ecs]
  have HT := Lib.hid (hT.below HB.out)
  have HR := Lib.hid (hR.below HB.out)
  clear ecs h16 hlt hT hR hs
  go_enter Tryz.func56, Tryz.ntmps56
  go_upto_region 1 with fail
  generalize (w.alloc (.cells cs 45)) = W at *
  obtain ⟨L, hL⟩ : ∃ L, [(G, 0, [v]), (w.heap.size, 0, prefL f bs n)] = L := ⟨_, rfl⟩
  have HK : Hid (HeldL L W.drew) := Lib.hid (by
    rw [← hL]; intro x hx
    rcases List.mem_cons.1 hx with rfl | hx
    · intro j u hu
      cases j with
      | zero => rw [Nat.add_zero]; rw [← show v = u from by simpa using hu]; exact HT.out.row
      | succ j => simp at hu
    · rw [List.mem_singleton.1 hx]; exact HP.out.range)
  have MP : Hid (InL L w.heap.size 0 (prefL f bs n)) := Lib.hid (fun W h => h.get (by rw [← hL]; simp))
  have C0 : Hid (∀ w, HeldL L w → w.cell? ⟨G, 0, none⟩ = some v) := Lib.hid (fun w h => (h.get (b := G) (o := 0) (cs := [v]) (by rw [← hL]; simp)) 0 v rfl)
  have HKN : Hid (∀ W', Below W.drew.heap.size W.drew W' → HeldL L W') := Lib.hid (fun W' hb => by
    rw [← hL]; intro x hx
    have hK := HK.out
    rw [← hL] at hK
    rcases List.mem_cons.1 hx with rfl | hx
    · exact range_belowB (hK _ (by simp)) hb HT.out.lt
    · rw [List.mem_singleton.1 hx]; exact range_belowB (w := W.drew) HP.out.range hb HP.out.addr.lt)
  have HRD := Lib.hid ((HS W.drew).out (HR.out.below (Below.refl _ _).drew))
  clear hL HS HR HP
  refine wp_region_noPanic ?_
  refine wp_region_held_drew (S := HeldL L) (by kernel_rfl) HK.out (fun hHeld => ?_)
  clear HK
  refine wpAnyH_take (i := 0) (v := ?_) rfl (by kernel_rfl) (by kernel_rfl) (by kernel_rfl) (fun _ _ _ h => h) (Or.inl ⟨by rfl, ?_⟩) (by assumption) ?_
  rotate_left
  · (intro w hSw; go_simp; try (with_reducible rfl))
  try simp only [Act.put, List.getElem_toArray, List.getElem_cons_zero, List.setIfInBounds_toArray, List.set_cons_zero, List.set_cons_succ]
  refine wpAnyH_take (i := 1) (v := ?_) rfl (by kernel_rfl) (by kernel_rfl) (by kernel_rfl) (fun _ _ _ h => h) (Or.inl ⟨by rfl, ?_⟩) (by assumption) ?_
  rotate_left
  · (intro w hSw; go_simp; try (with_reducible rfl))
  try simp only [Act.put, List.getElem_toArray, List.getElem_cons_zero, List.getElem_cons_succ, List.setIfInBounds_toArray, List.set_cons_zero, List.set_cons_succ]
  refine wpAnyH_take (i := 2) (v := ?_) rfl (by kernel_rfl) (by kernel_rfl) (by kernel_rfl) (fun _ _ _ h => h) (Or.inl ⟨by rfl, ?_⟩) (by assumption) ?_
  rotate_left
  · (intro w hSw; go_simp; try (with_reducible rfl))
  try simp only [Act.put, List.getElem_toArray, List.getElem_cons_zero, List.getElem_cons_succ, List.setIfInBounds_toArray, List.set_cons_zero, List.set_cons_succ]
  refine wpAnyH_take (i := 3) (v := ?_) rfl (by kernel_rfl) (by kernel_rfl) (by kernel_rfl) (fun _ _ _ h => h) (Or.inl ⟨by rfl, ?_⟩) (by assumption) ?_
  rotate_left
  · (intro w hSw; have hc0 := C0.out w hSw; go_simp; try (with_reducible rfl))
  try simp only [Act.put, List.getElem_toArray, List.getElem_cons_zero, List.getElem_cons_succ, List.setIfInBounds_toArray, List.set_cons_zero, List.set_cons_succ]
  refine wpAnyH_take (i := 4) rfl (by kernel_rfl) (by kernel_rfl) (by kernel_rfl) (fun _ _ _ h => h) (yields_pref_l H16 MP (by rfl) _ rfl rfl) (by assumption) ?_
  try simp only [Act.put, List.getElem_toArray, List.getElem_cons_zero, List.getElem_cons_succ, List.setIfInBounds_toArray, List.set_cons_zero, List.set_cons_succ]
  refine wpAnyH_ready (rs := [5]) (by kernel_rfl) (by simp) ?_
  refine AllReadyH.cons rfl (fun K hK => ?_) AllReadyH.nil
  go_simp
  refine HRD.out.mono ?_
  rintro e w6 ⟨i, b, rfl, hp, hb6⟩
  have HPL := Lib.hid hp
  have HB6 := Lib.hid (chain HB.out (chain (Below.refl _ _).drew hb6))
  have hS6 := HKN.out w6 hb6
  clear hp hb6 HRD HKN
  go_wp2_with fail
  refine hK.out _ _ hS6 (fun hHeld6 => ?_)
  clear hK K
  try simp only [Act.put, List.getElem_toArray, List.getElem_cons_zero, List.getElem_cons_succ, List.setIfInBounds_toArray, List.set_cons_zero, List.set_cons_succ]
  refine wpAnyH_take (i := 6) (v := ?_) rfl (by kernel_rfl) (by kernel_rfl) (by kernel_rfl) (fun _ _ _ h => h) (Or.inl ⟨by rfl, ?_⟩) (by assumption) ?_
  rotate_left
  · (intro w hSw; go_simp; try (with_reducible rfl))
  try simp only [Act.put, List.getElem_toArray, List.getElem_cons_zero, List.getElem_cons_succ, List.setIfInBounds_toArray, List.set_cons_zero, List.set_cons_succ]
  refine wpAnyH_take (i := 7) (v := ?_) rfl (by kernel_rfl) (by kernel_rfl) (by kernel_rfl) (fun _ _ _ h => h) (Or.inl ⟨by rfl, ?_⟩) (by assumption) ?_
  rotate_left
  · (intro w hSw; go_simp; try (with_reducible rfl))
  try simp only [Act.put, List.getElem_toArray, List.getElem_cons_zero, List.getElem_cons_succ, List.setIfInBounds_toArray, List.set_cons_zero, List.set_cons_succ]
  refine wpAnyH_take (i := 8) (v := ?_) rfl (by kernel_rfl) (by kernel_rfl) (by kernel_rfl) (fun _ _ _ h => h) (Or.inl ⟨by rfl, ?_⟩) (by assumption) ?_
  rotate_left
  · (intro w hSw; go_simp; try (with_reducible rfl))
  try simp only [Act.put, List.getElem_toArray, List.getElem_cons_zero, List.getElem_cons_succ, List.setIfInBounds_toArray, List.set_cons_zero, List.set_cons_succ]
  refine wpAnyH_take (i := 9) (v := ?_) rfl (by kernel_rfl) (by kernel_rfl) (by kernel_rfl) (fun _ _ _ h => h) (Or.inl ⟨by rfl, ?_⟩) (by assumption) ?_
  rotate_left
  · (intro w hSw; go_simp; try (with_reducible rfl))
  try simp only [Act.put, List.getElem_toArray, List.getElem_cons_zero, List.getElem_cons_succ, List.setIfInBounds_toArray, List.set_cons_zero, List.set_cons_succ]
  refine wpAnyH_done (by kernel_rfl) ?_ _
  refine NoPanic.normal ?_
  go_wp2_with fail
  go_ret2
  exact ⟨i, b, rfl, HPL.out, HB6.out⟩
theorem tabLen_any (G : Nat) (v : Value) (st : Int) (es : List Ent) (w : World) (hT : Tab w G v st) (hR : RowT w 0 v es) :
    Calls Tryz.prog 9 #[.pointer (some ⟨G, 0, none⟩)] w fun e w' => e = .returned (.int .i64 (es.length : Int)) ∧ w' = w := by
  have hc := hT.row
  rcases hR.form with ⟨rfl, rfl⟩ | ⟨g, cap, rfl, _⟩
  · go_enter Tryz.func9, Tryz.ntmps9
    go_wp2_with fail
    go_ret
    exact ⟨rfl, rfl⟩
  · go_enter Tryz.func9, Tryz.ntmps9
    go_wp2_with fail
    go_ret
    exact ⟨rfl, rfl⟩
end Go.Proofs.YtgbajagacmfcmaaGreatDoor
/- Contract of cidr.withBit. -/
namespace Go.Proofs.YtgbajagacmfcmaaGreatDoor
open Go.RowKit
set_option linter.unusedVariables false
set_option maxRecDepth 20000

theorem or_val_all : ∀ x : Fin 256, ∀ r : Fin 8, bits .or .u8 ((x.val : Nat) : Int) (128 / 2 ^ r.val) = ((x.val ||| 2 ^ (7 - r.val) : Nat) : Int) := by decide +kernel
theorem or_val (x r : Nat) (hx : x < 256) (hr : r ≤ 7) : bits .or .u8 (x : Int) (128 / 2 ^ r) = ((x ||| 2 ^ (7 - r) : Nat) : Int) := or_val_all ⟨x, hx⟩ ⟨r, by omega⟩
set_option maxRecDepth 100000 in
set_option maxHeartbeats 1000000 in
theorem withBit_any (f : Int) (bs : List Nat) (i : Nat) (w : World) (h16 : bs.length = 16) (hlt : ∀ x ∈ bs, x < 256) (hi : i < 128) :
    Calls Tryz.prog 67 #[addrV f bs, .int .i64 (i : Int)] w fun e w' => e = .returned (addrV f (setB bs i)) ∧ Below w.heap.size w w' := by
  have HLS : Hid ((setB bs i).length = 16) := Lib.hid (by rw [setB_len, h16])
  obtain ⟨cs, ecs, HA, HB⟩ := addr_boxed f bs w h16
  have HR := addr_zeroed (w.alloc (.cells cs 24))
  rw [heap_alloc] at HR
  have HRH := Lib.hid HR
  have HA1 := Lib.hid (HA.out.alloc (.cells zA 24))
  have HB1 := Lib.hid (HB.out.alloc HB.out.size (.cells zA 24))
  rw [ecs]
  have hq16 : i / 8 < 16 := by omega
  have hcell := HA1.out.cells (i / 8) hq16
  have hliv := HA1.out.live (1 + i / 8) (by omega)
  have HSV := fun v => Lib.hid (HA1.out.set (i := i / 8) hq16 v)
  have hx := getD_lt hlt (i / 8)
  have HE : Hid (setB bs i = bs.set (i / 8) (bs.getD (i / 8) 0 ||| 2 ^ (7 - i % 8))) := Lib.hid rfl
  generalize bs.getD (i / 8) 0 = x at *
  generalize setB bs i = R at *
  obtain ⟨q, eq, hq2⟩ : ∃ q : Nat, i / 8 = q ∧ (i : Int) / 8 = (q : Int) := ⟨_, rfl, by omega⟩
  obtain ⟨r, er, hr2⟩ : ∃ r : Nat, i % 8 = r ∧ (i : Int) % 8 = (r : Int) := ⟨_, rfl, by omega⟩
  have hr : r ≤ 7 := by omega
  rw [eq] at hcell hq16 hliv HSV HE
  rw [er] at HE
  have q16 : (q : Int) < 16 := by omega
  have d1 : (i : Int).tdiv 8 = (q : Int) := by rw [Int.tdiv_eq_ediv_of_nonneg (by omega)]; exact hq2
  have d2 : (i : Int).tmod 8 = (r : Int) := by rw [Int.tmod_eq_emod_of_nonneg (by omega)]; exact hr2
  clear ecs h16 hlt HA HB HR eq er hq2 hr2
  go_enter Tryz.func67, Tryz.ntmps67
  go_upto_region 1 with fail
  generalize ((w.alloc (.cells cs 24)).alloc (.cells zA 24)) = W at *
  go_region
  rw [or_val x r hx hr]
  have HA2 := Lib.hid ((HSV (x ||| 2 ^ (7 - r))).out.below (Below.refl _ _).drew)
  rw [← HE.out] at HA2
  have HR2 := Lib.hid ((HRH.out.other (G' := w.heap.size) (i := 1 + q) (by omega) (.int .u8 ((x ||| 2 ^ (7 - r) : Nat) : Int))).below (Below.refl _ _).drew)
  have HB2 := Lib.hid ((HB1.out.setCell (p := ⟨w.heap.size, 1 + q, none⟩) (Nat.le_refl _) (.int .u8 ((x ||| 2 ^ (7 - r) : Nat) : Int))).drew)
  generalize (W.setCell ⟨w.heap.size, 1 + q, none⟩ (.int .u8 ((x ||| 2 ^ (7 - r) : Nat) : Int))).drew = W2 at *
  clear HA1 HB1 HRH HSV hcell hliv
  go_wp2_with (first | refine load_addr_g HA2 _ rfl rfl rfl ?_ | (refine store_addr HR2 _ _ HLS rfl rfl rfl rfl (fun W HW HA => ?_)))
  refine bodyPost_ret (v := addrV f R) (results_addr Tryz.results67 rfl HA.out) rfl ⟨rfl, by rw [HW.out]; exact below_cells (by omega) _ _ _ HB2.out⟩
end Go.Proofs.YtgbajagacmfcmaaGreatDoor
/- Contract of addr.Bits. -/
namespace Go.Proofs.YtgbajagacmfcmaaGreatDoor
open Go.RowKit
set_option linter.unusedVariables false
set_option maxRecDepth 20000

set_option maxRecDepth 100000 in
set_option maxHeartbeats 1000000 in
theorem addrBits_any (f : Int) (bs : List Nat) (w : World) (h16 : bs.length = 16) :
    Calls Tryz.prog 51 #[addrV f bs] w fun e w' => e = .returned (.int .i64 ((bitsN f : Nat) : Int)) ∧ Below w.heap.size w w' := by
  obtain ⟨cs, ecs, HA, HB⟩ := addr_boxed f bs w h16
  rw [ecs]
  clear ecs h16
  go_enter Tryz.func51, Tryz.ntmps51
  go_upto_region 1 with fail
  generalize (w.alloc (.cells cs 24)) = W at *
  have hfam := HA.out.fam
  by_cases h4 : f = 4
  · subst h4
    go_wp2_with fail
    go_ret
    exact ⟨rfl, HB.out⟩
  · by_cases h6 : f = 6
    · subst h6
      go_wp2_with fail
      go_ret
      exact ⟨rfl, HB.out⟩
    · have HE : Hid (bitsN f = 0) := Lib.hid (by unfold bitsN; rw [if_neg h4, if_neg h6])
      have g4 : (f == 4) = false := by simp [h4]
      have g6 : (f == 6) = false := by simp [h6]
      go_wp2_with fail
      go_ret
      exact ⟨by rw [HE.out]; rfl, HB.out⟩
end Go.Proofs.YtgbajagacmfcmaaGreatDoor
/- Contract of addr.Bit. -/
namespace Go.Proofs.YtgbajagacmfcmaaGreatDoor
open Go.RowKit
set_option linter.unusedVariables false
set_option maxRecDepth 20000

theorem bit_and_all : ∀ y : Fin 256, bits .and .i64 (wrap64 ((y.val : Nat) : Int)) 1 = ((y.val % 2 : Nat) : Int) := by decide +kernel
theorem bit_and (y : Nat) (h : y < 256) : bits .and .i64 (wrap64 ((y : Nat) : Int)) 1 = ((y % 2 : Nat) : Int) := bit_and_all ⟨y, h⟩
set_option maxRecDepth 100000 in
set_option maxHeartbeats 1000000 in
theorem addrBit_any (f : Int) (bs : List Nat) (i : Int) (w : World) (h16 : bs.length = 16) (hlt : ∀ x ∈ bs, x < 256) (hi : (Lit.int .i64 i).wf = true) :
    Calls Tryz.prog 66 #[addrV f bs, .int .i64 i] w fun e w' => e = .returned (.int .i64 ((bitN f bs i : Nat) : Int)) ∧ Below w.heap.size w w' := by
  have HLT := Lib.hid hlt
  have HB0 := fun W => Lib.hid (addrBits_any f bs W h16)
  obtain ⟨cs, ecs, HA, HB⟩ := addr_boxed f bs w h16
  rw [ecs]
  clear ecs h16 hlt
  by_cases h0 : i < 0
  · rw [show bitN f bs i = 0 from if_neg (by omega)]
    go_enter Tryz.func66, Tryz.ntmps66
    go_upto_region 1 with fail
    generalize (w.alloc (.cells cs 24)) = W at *
    go_wp2_with fail
    go_ret
    exact ⟨rfl, HB.out⟩
  · obtain ⟨n, rfl⟩ : ∃ n : Nat, i = (n : Int) := ⟨i.toNat, by omega⟩
    have hb := bitsN_le f
    obtain ⟨N, eN⟩ : ∃ N, bitsN f = N := ⟨_, rfl⟩
    have EN := Lib.hid eN
    rw [eN] at HB0 hb
    clear eN
    replace h0 : ¬ ((n : Int) < 0) := by omega
    go_enter Tryz.func66, Tryz.ntmps66
    go_upto_region 1 with fail
    generalize (w.alloc (.cells cs 24)) = W at *
    go_wp2_with (refine load_addr_g HA _ rfl rfl rfl ?_)
    refine (HB0 W).out.mono ?_
    rintro e w1 ⟨rfl, hb1⟩
    have HA1 := Lib.hid (HA.out.below hb1)
    have B1 := Lib.hid (chain HB.out hb1)
    clear HA HB hb1 HB0
    by_cases hn : n < N
    · have hq : n / 8 < 16 := by omega
      have hcell := HA1.out.cells (n / 8) hq
      have hx := byte_lt HLT.out (n / 8)
      have HR : Hid (bitN f bs (n : Int) = bs.getD (n / 8) 0 / 2 ^ (7 - n % 8) % 2) := Lib.hid (by
        unfold bitN
        rw [EN.out, if_pos (by omega)]
        rfl)
      generalize bs.getD (n / 8) 0 = x at *
      obtain ⟨q, eq, hq2⟩ : ∃ q : Nat, n / 8 = q ∧ (n : Int) / 8 = (q : Int) := ⟨_, rfl, by omega⟩
      obtain ⟨r, er, hr2⟩ : ∃ r : Nat, n % 8 = r ∧ (n : Int) % 8 = (r : Int) := ⟨_, rfl, by omega⟩
      have hr : r ≤ 7 := by omega
      rw [eq] at hcell hq
      rw [er] at HR
      have q16 : (q : Int) < 16 := by omega
      have d1 : (n : Int).tdiv 8 = (q : Int) := by rw [Int.tdiv_eq_ediv_of_nonneg (by omega)]; exact hq2
      have d2 : (n : Int).tmod 8 = (r : Int) := by rw [Int.tmod_eq_emod_of_nonneg (by omega)]; exact hr2
      clear eq er
      go_wp2_with fail
      go_ret
      refine ⟨?_, B1.out⟩
      rw [HR.out]
      have hy : x / 2 ^ (7 - r) < 256 := Nat.lt_of_le_of_lt (Nat.div_le_self _ _) hx
      have e1 := bit_and (x / 2 ^ (7 - r)) hy
      rw [show (((x / 2 ^ (7 - r) : Nat) : Int)) = (x : Int) / 2 ^ (7 - r) by norm_cast] at e1
      exact congrArg (fun z => Ending.returned (Value.int IntKind.i64 z)) e1
    · have HR : Hid (bitN f bs (n : Int) = 0) := Lib.hid (by unfold bitN; rw [EN.out, if_neg (by omega)])
      go_wp2_with fail
      go_ret
      exact ⟨by rw [HR.out]; rfl, B1.out⟩
end Go.Proofs.YtgbajagacmfcmaaGreatDoor
/- Contract of cidr.Mask. -/
namespace Go.Proofs.YtgbajagacmfcmaaGreatDoor
open Go.RowKit
set_option linter.unusedVariables false
set_option maxRecDepth 20000

theorem PrefAt.at {w : World} {G : Nat} {f : Int} {bs : List Nat} {n m : Int} (h : PrefAt w G f bs n) (e : n = m) : PrefAt w G f bs m := e ▸ h
set_option maxRecDepth 100000 in
set_option maxHeartbeats 1000000 in
theorem cidrMask_any (f : Int) (bs : List Nat) (n : Int) (w : World) (h16 : bs.length = 16) (hlt : ∀ x ∈ bs, x < 256) (hn : (Lit.int .i64 n).wf = true) :
    Calls Tryz.prog 53 #[addrV f bs, .int .i64 n] w fun e w' => e = .returned (prefV f (withL (bitsN f) bs (maskN f n) 0) (maskN f n)) ∧ Below w.heap.size w w' := by
  have H16 := Lib.hid h16
  have HLT := Lib.hid hlt
  have HN := bitsN_le f
  have hmN := maskN_le f n
  have HM := Lib.hid (maskN_max f n)
  have HBI := fun W => Lib.hid (addrBits_any f bs W h16)
  have HBT := fun W (k : Nat) (hk : k ≤ 128) => Lib.hid (addrBit_any f bs (k : Int) W h16 hlt (wf_small (by omega)))
  obtain ⟨cs, ecs, HA, HB⟩ := addr_boxed f bs w h16
  have HR := pref_zeroed (w.alloc (.cells cs 24))
  rw [heap_alloc] at HR
  have HRH := Lib.hid HR
  have HA1 := Lib.hid (HA.out.alloc (.cells zP 45))
  have HB1 := Lib.hid (HB.out.alloc HB.out.size (.cells zP 45))
  rw [ecs]
  have HWL : Hid (∀ k, withL (bitsN f) bs k 0 = withL (bitsN f) bs k 0) := Lib.hid (fun _ => rfl)
  have HBA : Hid (∀ k : Nat, k < bitsN f → bitN f bs (k : Int) = bitA bs k) := Lib.hid (fun k hk => bitN_A f bs k hk)
  have HW0 := Lib.hid (withL_zero (bitsN f) bs)
  generalize maskN f n = m at *
  generalize bitsN f = N at *
  have HLZ : Hid ((List.replicate 16 0).length = 16) := Lib.hid rfl
  have HZP := fun W : World => Lib.hid (pref_zeroed W)
  clear ecs h16 hlt HA HB HR
  go_enter Tryz.func53, Tryz.ntmps53
  go_upto_region 1 with fail
  generalize ((w.alloc (.cells cs 24)).alloc (.cells zP 45)) = W at *
  go_cut [5] from 7 (fun s5 wx => ∃ G : Nat, s5 = .pointer (some ⟨G, 0, none⟩) ∧ Hid (w.heap.size + 1 < G) ∧ Hid (PrefAt wx G f (List.replicate 16 0) (m : Int)) ∧ Hid (AddrAt wx w.heap.size f bs) ∧ Hid (PrefAt wx (w.heap.size + 1) 0 (List.replicate 16 0) 0) ∧ Hid (Below w.heap.size w wx))
  case first =>
    obtain ⟨L, hL⟩ : ∃ L, [(w.heap.size, 0, addrL f bs)] = L := ⟨_, rfl⟩
    have HK := Lib.hid (show HeldR L w W by rw [← hL]; exact (HeldR.nil HB1.out).addr HA1.out)
    have Mt2 := Lib.hid (show InA L w.heap.size f bs from ⟨by rw [← hL]; simp, H16.out⟩)
    have HNE : Hid (∀ R : Nat, w.heap.size < R → ∀ x ∈ L, x.1 ≠ R) := Lib.hid (by rw [← hL]; intro R hR x hx; simp at hx; rcases hx with rfl; simp; omega)
    have Cf := Lib.hid (famR (show InA L w.heap.size f bs from ⟨by rw [← hL]; simp, H16.out⟩) w)
    clear hL
    have C1 : ∀ w', HeldR L w w' → Hid (Calls Tryz.prog 51 #[addrV f bs] w' fun e w'' => e = .returned (.int .i64 ((N : Nat) : Int)) ∧ Below w'.heap.size w' w'') := fun w' h => HBI w'
    clear HBI
    replace HRH := Lib.hid (HRH.out.below (Below.refl _ _).drew)
    replace HA1 := Lib.hid (HA1.out.below (Below.refl _ _).drew)
    refine wp_region_noPanic ?_
    refine wp_region_held_drew (S := HeldR L w) (by kernel_rfl) HK.out.drew (fun hHeld => ?_)
    clear HK
    generalize W.drew = V at *
    refine wpAnyH_take (i := 0) (v := ?_) rfl (by kernel_rfl) (by kernel_rfl) (by kernel_rfl) (fun _ _ _ h => h) (Or.inl ⟨by rfl, ?_⟩) (by assumption) ?_
    rotate_left
    · (intro w hSw; go_simp; try (with_reducible rfl))
    try simp only [Act.put, List.getElem_toArray, List.getElem_cons_zero, List.setIfInBounds_toArray, List.set_cons_zero, List.set_cons_succ]
    refine wpAnyH_take (i := 1) (v := ?_) rfl (by kernel_rfl) (by kernel_rfl) (by kernel_rfl) (fun _ _ _ h => h) (Or.inl ⟨by rfl, ?_⟩) (by assumption) ?_
    rotate_left
    · (intro w hSw; have hc0 := Cf.out w hSw; go_simp; try (with_reducible rfl))
    try simp only [Act.put, List.getElem_toArray, List.getElem_cons_zero, List.getElem_cons_succ, List.setIfInBounds_toArray, List.set_cons_zero, List.set_cons_succ]
    refine wpAnyH_take (i := 2) rfl (by kernel_rfl) (by kernel_rfl) (by kernel_rfl) (fun _ _ _ h => h) (yields_build_fam (by rfl) _ rfl rfl) (by assumption) ?_
    try simp only [Act.put, List.getElem_toArray, List.getElem_cons_zero, List.getElem_cons_succ, List.setIfInBounds_toArray, List.set_cons_zero, List.set_cons_succ]
    refine wpAnyH_take (i := 3) (v := ?_) rfl (by kernel_rfl) (by kernel_rfl) (by kernel_rfl) (fun _ _ _ h => h) (Or.inl ⟨by rfl, ?_⟩) (by assumption) ?_
    rotate_left
    · (intro w hSw; go_simp; try (with_reducible rfl))
    try simp only [Act.put, List.getElem_toArray, List.getElem_cons_zero, List.getElem_cons_succ, List.setIfInBounds_toArray, List.set_cons_zero, List.set_cons_succ]
    refine wpAnyH_take (i := 4) (v := ?_) rfl (by kernel_rfl) (by kernel_rfl) (by kernel_rfl) (fun _ _ _ h => h) (Or.inl ⟨by rfl, ?_⟩) (by assumption) ?_
    rotate_left
    · (intro w hSw; go_simp; try (with_reducible rfl))
    try simp only [Act.put, List.getElem_toArray, List.getElem_cons_zero, List.getElem_cons_succ, List.setIfInBounds_toArray, List.set_cons_zero, List.set_cons_succ]
    refine wpAnyH_take (i := 5) rfl (by kernel_rfl) (by kernel_rfl) (by kernel_rfl) (fun _ _ _ h => h) (yields_addr Mt2 (by rfl) _ rfl rfl) (by assumption) ?_
    try simp only [Act.put, List.getElem_toArray, List.getElem_cons_zero, List.getElem_cons_succ, List.setIfInBounds_toArray, List.set_cons_zero, List.set_cons_succ]
    obtain ⟨z, hz⟩ : ∃ z, (if n < 0 then 0 else n) = z := ⟨_, rfl⟩
    have hz2 : max n 0 = z := by rw [← hz]; split <;> omega
    first | rw [hz] | rw [hz2]
    have HZZ : Hid (z = max n 0) := Lib.hid hz2.symm
    clear hz2
    clear hz
    refine wpAnyH_ready (rs := [6, 9]) (by kernel_rfl) (by simp) ?_
    refine AllReadyH.cons rfl (fun K hK => ?_) (AllReadyH.one rfl rfl (fun K hK => ?_))
    · go_simp
      refine (C1 _ (by assumption)).out.mono ?_
      rintro e wr6 ⟨rfl, hb6⟩
      replace HRH := Lib.hid (HRH.out.below hb6)
      replace HA1 := Lib.hid (HA1.out.below hb6)
      have hS6 := HeldR.next (by assumption) hb6
      clear hb6
      go_wp2_with fail
      refine hK.out _ _ hS6 (fun hHeld => ?_)
      clear hK K
      try simp only [Act.put, List.getElem_toArray, List.getElem_cons_zero, List.getElem_cons_succ, List.setIfInBounds_toArray, List.set_cons_zero, List.set_cons_succ]
      refine wpAnyH_take (i := 7) (v := ?_) rfl (by kernel_rfl) (by kernel_rfl) (by kernel_rfl) (fun _ _ _ h => h) (Or.inl ⟨by rfl, ?_⟩) (by assumption) ?_
      rotate_left
      · (intro w hSw; go_simp; try (with_reducible rfl))
      try simp only [Act.put, List.getElem_toArray, List.getElem_cons_zero, List.getElem_cons_succ, List.setIfInBounds_toArray, List.set_cons_zero, List.set_cons_succ]
      obtain ⟨y, hy⟩ : ∃ y, (if (N : Int) < z then (N : Int) else z) = y := ⟨_, rfl⟩
      have hy2 : min z (N : Int) = y := by rw [← hy]; split <;> omega
      have hy3 : min (N : Int) z = y := by rw [← hy]; split <;> omega
      first | rw [hy] | rw [hy2] | rw [hy3]
      have HYM : Hid (y = (m : Int)) := Lib.hid (by rw [← HM.out, ← HZZ.out, ← hy2])
      clear hy2 hy3
      clear hy
      refine wpAnyH_take (i := 8) rfl (by kernel_rfl) (by kernel_rfl) (by kernel_rfl) (fun _ _ _ h => h) (yields_build_pref HLZ (by rfl) _ _ rfl rfl rfl) (by assumption) ?_
      try simp only [Act.put, List.getElem_toArray, List.getElem_cons_zero, List.getElem_cons_succ, List.setIfInBounds_toArray, List.set_cons_zero, List.set_cons_succ]
      refine wpAnyH_ready (rs := [9]) (by kernel_rfl) (by simp) ?_
      refine AllReadyH.one rfl rfl (fun K hK => ?_)
      go_wp2_with fail
      refine hK.out _ _ (HeldR.next (by assumption) ((Below.refl _ _).alloc (Nat.le_refl _) _)) (fun hHeld => ?_)
      clear hK K
      try simp only [Act.put, List.getElem_toArray, List.getElem_cons_zero, List.getElem_cons_succ, List.setIfInBounds_toArray, List.set_cons_zero, List.set_cons_succ]
      have HZ := HZP wr6
      have GL := HRH.out.addr.lt
      replace HRH := Lib.hid (HRH.out.alloc (.cells zP 45))
      replace HA1 := Lib.hid (HA1.out.alloc (.cells zP 45))
      refine wpAnyH_ready (rs := [10]) (by kernel_rfl) (by simp) ?_
      refine AllReadyH.one rfl rfl (fun K hK => ?_)
      refine wp_store_pref HZ _ _ HLZ rfl rfl rfl (fun HQ => ?_)
      refine hK.out _ _ (HeldR.store (by assumption) _ (by omega) (HNE.out _ (by omega))) (fun hHeld2 => ?_)
      clear hK K
      try simp only [Act.put, List.getElem_toArray, List.getElem_cons_zero, List.getElem_cons_succ]
      refine wpAnyH_done (by kernel_rfl) ?_ _
      refine NoPanic.normal ?_
      go_wp2_with fail
      go_meet
      case rel => exact ⟨wr6.heap.size, rfl, Lib.hid GL, Lib.hid (HQ.out.at HYM.out), Lib.hid (HA1.out.apart (by omega) _), Lib.hid (HRH.out.apart (by omega) _), Lib.hid hHeld2.bel⟩
    · go_wp2_with fail
      refine hK.out _ _ (HeldR.next (by assumption) ((Below.refl _ _).alloc (Nat.le_refl _) _)) (fun hHeld => ?_)
      clear hK K
      try simp only [Act.put, List.getElem_toArray, List.getElem_cons_zero, List.getElem_cons_succ, List.setIfInBounds_toArray, List.set_cons_zero, List.set_cons_succ]
      have HZ := HZP V
      have GL := HRH.out.addr.lt
      replace HRH := Lib.hid (HRH.out.alloc (.cells zP 45))
      replace HA1 := Lib.hid (HA1.out.alloc (.cells zP 45))
      generalize V.heap.size = GV at *
      generalize V.alloc (.cells zP 45) = V2 at *
      refine wpAnyH_ready (rs := [6]) (by kernel_rfl) (by simp) ?_
      refine AllReadyH.cons rfl (fun K hK => ?_) AllReadyH.nil
      go_simp
      refine (C1 _ (by assumption)).out.mono ?_
      rintro e wr6 ⟨rfl, hb6⟩
      replace HRH := Lib.hid (HRH.out.below hb6)
      replace HA1 := Lib.hid (HA1.out.below hb6)
      replace HZ := Lib.hid (HZ.out.below hb6)
      have hS6 := HeldR.next (by assumption) hb6
      clear hb6
      go_wp2_with fail
      refine hK.out _ _ hS6 (fun hHeld => ?_)
      clear hK K
      try simp only [Act.put, List.getElem_toArray, List.getElem_cons_zero, List.getElem_cons_succ, List.setIfInBounds_toArray, List.set_cons_zero, List.set_cons_succ]
      refine wpAnyH_take (i := 7) (v := ?_) rfl (by kernel_rfl) (by kernel_rfl) (by kernel_rfl) (fun _ _ _ h => h) (Or.inl ⟨by rfl, ?_⟩) (by assumption) ?_
      rotate_left
      · (intro w hSw; go_simp; try (with_reducible rfl))
      try simp only [Act.put, List.getElem_toArray, List.getElem_cons_zero, List.getElem_cons_succ, List.setIfInBounds_toArray, List.set_cons_zero, List.set_cons_succ]
      obtain ⟨y, hy⟩ : ∃ y, (if (N : Int) < z then (N : Int) else z) = y := ⟨_, rfl⟩
      have hy2 : min z (N : Int) = y := by rw [← hy]; split <;> omega
      have hy3 : min (N : Int) z = y := by rw [← hy]; split <;> omega
      first | rw [hy] | rw [hy2] | rw [hy3]
      have HYM : Hid (y = (m : Int)) := Lib.hid (by rw [← HM.out, ← HZZ.out, ← hy2])
      clear hy2 hy3
      clear hy
      refine wpAnyH_take (i := 8) rfl (by kernel_rfl) (by kernel_rfl) (by kernel_rfl) (fun _ _ _ h => h) (yields_build_pref HLZ (by rfl) _ _ rfl rfl rfl) (by assumption) ?_
      try simp only [Act.put, List.getElem_toArray, List.getElem_cons_zero, List.getElem_cons_succ, List.setIfInBounds_toArray, List.set_cons_zero, List.set_cons_succ]
      refine wpAnyH_ready (rs := [10]) (by kernel_rfl) (by simp) ?_
      refine AllReadyH.one rfl rfl (fun K hK => ?_)
      refine wp_store_pref HZ _ _ HLZ rfl rfl rfl (fun HQ => ?_)
      refine hK.out _ _ (HeldR.store (by assumption) _ (by omega) (HNE.out _ (by omega))) (fun hHeld2 => ?_)
      clear hK K
      try simp only [Act.put, List.getElem_toArray, List.getElem_cons_zero, List.getElem_cons_succ]
      refine wpAnyH_done (by kernel_rfl) ?_ _
      refine NoPanic.normal ?_
      go_wp2_with fail
      go_meet
      case rel => exact ⟨GV, rfl, Lib.hid GL, Lib.hid (HQ.out.at HYM.out), Lib.hid (HA1.out.apart (by omega) _), Lib.hid (HRH.out.apart (by omega) _), Lib.hid hHeld2.bel⟩
  case rest =>
    obtain ⟨G, rfl, HGG, HP2, HA2, HR2, HB2⟩ := hcut
    clear HA1 HRH HB1 HBI HZP HWL
    have HP3 : Hid (PrefAt wc G f (withL N bs 0 0) (m : Int)) := Lib.hid (by rw [HW0.out]; exact HP2.out)
    have hbits := HP2.out.bits
    clear HP2
    go_wp2_with fail
    go_loopw [18] (fun i wr => ∃ k : Nat, k ≤ m ∧ i = .int .i64 (k : Int) ∧ Hid (PrefAt wr G f (withL N bs k 0) (m : Int)) ∧ Hid (AddrAt wr w.heap.size f bs) ∧ Hid (PrefAt wr (w.heap.size + 1) 0 (List.replicate 16 0) 0) ∧ Hid (Below w.heap.size w wr)) (fun i _ => 128 - (intOf i).toNat)
    case atStart => exact ⟨0, by omega, rfl, HP3, HA2, HR2, HB2⟩
    case round =>
      obtain ⟨k, hk, rfl, HP4, HA4, HR4, HB4⟩ := hrel
      clear HP3 HA2 HR2 HB2 hbits
      have hk128 : k ≤ 128 := by omega
      by_cases hkm : k < m
      · have hd : decide ((k : Int) < (m : Int)) = true := by simp; omega
        go_wp2_with (refine load_addr_g HA4 _ rfl rfl rfl ?_)
        refine (HBT _ k hk128).out.mono ?_
        rintro e w1 ⟨rfl, hb1⟩
        have HA5 := Lib.hid (HA4.out.below hb1)
        have HP5 := Lib.hid (HP4.out.below hb1)
        have HR5 := Lib.hid (HR4.out.below hb1)
        have HB5 := Lib.hid (chain HB4.out hb1)
        clear HA4 HP4 HR4 HB4 hb1
        have HP5a := Lib.hid HP5.out.addr
        rw [HBA.out k (by omega)]
        have hv := bitA_le bs k
        have H1 : Hid (bitA bs k = 1 → setB (withL N bs k 0) k = withL N bs (k + 1) 0) := Lib.hid (with_one N bs k (by omega) HN)
        have H0 : Hid (bitA bs k = 0 → withL N bs k 0 = withL N bs (k + 1) 0) := Lib.hid (with_none N bs k (by omega))
        generalize bitA bs k = v at *
        by_cases hv1 : v = 1
        · subst hv1
          have hd1 : (((1 : Nat) : Int) == 1) = true := by rfl
          have HLW : Hid ((withL N bs (k + 1) 0).length = 16) := Lib.hid (withL_len _ _ _ _)
          have HWB := fun W => Lib.hid (withBit_any f (withL N bs k 0) k W (withL_len _ _ _ _) (withL_lt _ _ _ _ (by decide)) (by omega))
          rw [H1.out rfl] at HWB
          go_wp2_with (refine load_addr_g HP5a _ rfl rfl rfl ?_)
          refine (HWB _).out.mono ?_
          rintro e w2 ⟨rfl, hb2⟩
          have HA6 := Lib.hid (HA5.out.below hb2)
          have HP6 := Lib.hid (HP5.out.below hb2)
          have HR6 := Lib.hid (HR5.out.below hb2)
          have HB6 := Lib.hid (chain HB5.out hb2)
          clear HA5 HP5 HR5 HB5 hb2 HP5a
          go_wp2_with (refine store_pref_addr HP6 _ _ HLW rfl rfl rfl rfl (fun W2 HW2 HP7 => ?_))
          have HG := HGG.out
          go_roundw
          case rel => exact ⟨k + 1, by omega, by go_num, HP7, Lib.hid (by rw [HW2.out]; exact HA6.out.apart (by omega) _), Lib.hid (by rw [HW2.out]; exact HR6.out.apart (by omega) _), Lib.hid (by rw [HW2.out]; exact below_cells (by omega) _ _ _ HB6.out)⟩
          case measure => simp [intOf]; omega
        · obtain rfl : v = 0 := by omega
          rw [H0.out rfl] at HP5
          have hd0 : (((0 : Nat) : Int) == 1) = false := by rfl
          go_wp2_with fail
          go_roundw
          case rel => exact ⟨k + 1, by omega, by go_num, HP5, HA5, HR5, HB5⟩
          case measure => simp [intOf]; omega
      · obtain rfl : k = m := by omega
        have hd : decide ((k : Int) < (k : Int)) = false := by simp
        have HLW : Hid ((withL N bs k 0).length = 16) := Lib.hid (withL_len _ _ _ _)
        go_wp2_with (first | refine load_pref_g HP4 _ rfl rfl rfl ?_ | refine store_pref HR4 _ _ HLW rfl rfl rfl rfl (fun W HW HP => ?_))
        refine bodyPost_ret (v := prefV f (withL N bs k 0) k) (results_pref Tryz.results53 rfl HP.out) rfl ⟨rfl, by rw [HW.out]; exact below_cells (by omega) _ _ _ HB4.out⟩
end Go.Proofs.YtgbajagacmfcmaaGreatDoor
/- Contract of cidr.May. -/
namespace Go.Proofs.YtgbajagacmfcmaaGreatDoor
open Go.RowKit
set_option linter.unusedVariables false
set_option maxRecDepth 20000

set_option maxRecDepth 100000 in
set_option maxHeartbeats 1000000 in
theorem cidrMay_any (f : Int) (ps : List Nat) (n : Int) (w : World) (hp : ps.length = 16) (hlt : ∀ x ∈ ps, x < 256) (hn : (Lit.int .i64 n).wf = true) :
    Calls Tryz.prog 42 #[prefV f ps n] w fun e w' => e = .returned (.bool (mayP f ps n)) ∧ Below w.heap.size w w' := by
  have HP := Lib.hid hp
  have HMK := fun W => Lib.hid (cidrMask_any f ps n W hp hlt hn)
  have HBI := fun W => Lib.hid (addrBits_any f ps W hp)
  have HLR : Hid ((withL (bitsN f) ps (maskN f n) 0).length = 16) := Lib.hid (withL_len _ _ _ _)
  obtain ⟨R, eR⟩ : ∃ R, mayP f ps n = R := ⟨_, rfl⟩
  rw [eR]
  have HE : Hid (decide (0 < bitsN f ∧ ps = withL (bitsN f) ps (maskN f n) 0 ∧ n = (maskN f n : Int)) = R) := Lib.hid (by rw [← eR]; rfl)
  generalize withL (bitsN f) ps (maskN f n) 0 = ms at *
  generalize maskN f n = m at *
  generalize bitsN f = N at *
  obtain ⟨cs, ecs, H1, HB⟩ := pref_boxed f ps n w hp
  rw [ecs]
  clear ecs hp hlt eR
  go_enter Tryz.func42, Tryz.ntmps42
  go_upto_region 1 with fail
  generalize (w.alloc (.cells cs 45)) = W at *
  obtain ⟨L, hL⟩ : ∃ L, [(w.heap.size, 0, prefL f ps n), (w.heap.size, 0, addrL f ps)] = L := ⟨_, rfl⟩
  have HK := Lib.hid (show HeldR L w W by rw [← hL]; exact (HeldR.nil HB.out).pref H1.out)
  have Mp := Lib.hid (show InP L w.heap.size f ps n from ⟨by rw [← hL]; simp, HP.out⟩)
  have Ma := Lib.hid (show InA L w.heap.size f ps from ⟨by rw [← hL]; simp, HP.out⟩)
  have Cn := Lib.hid (bitsR Mp.out w)
  clear hL H1 HB
  have C1 : ∀ w', HeldR L w w' → Hid (Calls Tryz.prog 51 #[addrV f ps] w' fun e w'' => e = .returned (.int .i64 ((N : Nat) : Int)) ∧ Below w'.heap.size w' w'') := fun w' h => HBI w'
  have C2 : ∀ w', HeldR L w w' → Hid (Calls Tryz.prog 53 #[addrV f ps, .int .i64 n] w' fun e w'' => e = .returned (prefV f ms (m : Int)) ∧ Below w'.heap.size w' w'') := fun w' h => HMK w'
  clear HMK HBI
  by_cases h0 : N = 0
  · subst h0
    rw [decide_eq_false (fun h => absurd h.1 (by decide))] at HE
    have hd : decide ((0 : Int) < ((0 : Nat) : Int)) = false := rfl
    refine wp_region_noPanic ?_
    refine wp_region_held_drew (S := HeldR L w) (by kernel_rfl) HK.out.drew (fun hHeld => ?_)
    refine wpAnyH_take (i := 0) (v := ?_) rfl (by kernel_rfl) (by kernel_rfl) (by kernel_rfl) (fun _ _ _ h => h) (Or.inl ⟨by rfl, ?_⟩) (by assumption) ?_
    rotate_left
    · (intro w hSw; go_simp; try (with_reducible rfl))
    try simp only [Act.put, List.getElem_toArray, List.getElem_cons_zero, List.setIfInBounds_toArray, List.set_cons_zero, List.set_cons_succ]
    refine wpAnyH_take (i := 1) rfl (by kernel_rfl) (by kernel_rfl) (by kernel_rfl) (fun _ _ _ h => h) (yields_addr Ma (by rfl) _ rfl rfl) (by assumption) ?_
    try simp only [Act.put, List.getElem_toArray, List.getElem_cons_zero, List.getElem_cons_succ, List.setIfInBounds_toArray, List.set_cons_zero, List.set_cons_succ]
    refine wpAnyH_ready (rs := [2]) (by kernel_rfl) (by simp) ?_
    refine AllReadyH.cons rfl (fun K hK => ?_) AllReadyH.nil
    go_simp
    refine (Calls.heldR (C1 _ (by assumption)).out (by assumption)).mono ?_
    rintro e wr2 ⟨rfl, hS2⟩
    go_wp2_with fail
    refine hK.out _ _ hS2 (fun hHeld => ?_)
    clear hK K
    try simp only [Act.put, List.getElem_toArray, List.getElem_cons_zero, List.getElem_cons_succ, List.setIfInBounds_toArray, List.set_cons_zero, List.set_cons_succ]
    refine wpAnyH_take (i := 3) (v := ?_) rfl (by kernel_rfl) (by kernel_rfl) (by kernel_rfl) (fun _ _ _ h => h) (Or.inl ⟨by rfl, ?_⟩) (by assumption) ?_
    rotate_left
    · (intro w hSw; go_simp; try (with_reducible rfl))
    try simp only [Act.put, List.getElem_toArray, List.getElem_cons_zero, List.getElem_cons_succ, List.setIfInBounds_toArray, List.set_cons_zero, List.set_cons_succ]
    refine wpAnyH_take (i := 4) (v := ?_) rfl (by kernel_rfl) (by kernel_rfl) (by kernel_rfl) (fun _ _ _ h => h) (Or.inl ⟨by rfl, ?_⟩) (by assumption) ?_
    rotate_left
    · (intro w hSw; go_simp; try (with_reducible rfl))
    try simp only [Act.put, List.getElem_toArray, List.getElem_cons_zero, List.getElem_cons_succ, List.setIfInBounds_toArray, List.set_cons_zero, List.set_cons_succ]
    refine wpAnyH_take (i := 5) (v := undef) rfl (by kernel_rfl) (by kernel_rfl) (by kernel_rfl) (fun _ _ _ h => h) (Or.inr ⟨by rfl, rfl⟩) (by assumption) ?_
    try simp only [Act.put, List.getElem_toArray, List.getElem_cons_zero, List.getElem_cons_succ, List.setIfInBounds_toArray, List.set_cons_zero, List.set_cons_succ]
    refine wpAnyH_take (i := 6) (v := undef) rfl (by kernel_rfl) (by kernel_rfl) (by kernel_rfl) (fun _ _ _ h => h) (Or.inr ⟨by rfl, rfl⟩) (by assumption) ?_
    try simp only [Act.put, List.getElem_toArray, List.getElem_cons_zero, List.getElem_cons_succ, List.setIfInBounds_toArray, List.set_cons_zero, List.set_cons_succ]
    refine wpAnyH_take (i := 7) (v := undef) rfl (by kernel_rfl) (by kernel_rfl) (by kernel_rfl) (fun _ _ _ h => h) (Or.inr ⟨by rfl, rfl⟩) (by assumption) ?_
    try simp only [Act.put, List.getElem_toArray, List.getElem_cons_zero, List.getElem_cons_succ, List.setIfInBounds_toArray, List.set_cons_zero, List.set_cons_succ]
    refine wpAnyH_take (i := 8) (v := undef) rfl (by kernel_rfl) (by kernel_rfl) (by kernel_rfl) (fun _ _ _ h => h) (Or.inr ⟨by rfl, rfl⟩) (by assumption) ?_
    try simp only [Act.put, List.getElem_toArray, List.getElem_cons_zero, List.getElem_cons_succ, List.setIfInBounds_toArray, List.set_cons_zero, List.set_cons_succ]
    refine wpAnyH_take (i := 9) (v := undef) rfl (by kernel_rfl) (by kernel_rfl) (by kernel_rfl) (fun _ _ _ h => h) (Or.inr ⟨by rfl, rfl⟩) (by assumption) ?_
    try simp only [Act.put, List.getElem_toArray, List.getElem_cons_zero, List.getElem_cons_succ, List.setIfInBounds_toArray, List.set_cons_zero, List.set_cons_succ]
    refine wpAnyH_take (i := 10) (v := undef) rfl (by kernel_rfl) (by kernel_rfl) (by kernel_rfl) (fun _ _ _ h => h) (Or.inr ⟨by rfl, rfl⟩) (by assumption) ?_
    try simp only [Act.put, List.getElem_toArray, List.getElem_cons_zero, List.getElem_cons_succ, List.setIfInBounds_toArray, List.set_cons_zero, List.set_cons_succ]
    refine wpAnyH_take (i := 11) (v := undef) rfl (by kernel_rfl) (by kernel_rfl) (by kernel_rfl) (fun _ _ _ h => h) (Or.inr ⟨by rfl, rfl⟩) (by assumption) ?_
    try simp only [Act.put, List.getElem_toArray, List.getElem_cons_zero, List.getElem_cons_succ, List.setIfInBounds_toArray, List.set_cons_zero, List.set_cons_succ]
    refine wpAnyH_take (i := 12) (v := ?_) rfl (by kernel_rfl) (by kernel_rfl) (by kernel_rfl) (fun _ _ _ h => h) (Or.inl ⟨by rfl, ?_⟩) (by assumption) ?_
    rotate_left
    · (intro w hSw; go_simp; try (with_reducible rfl))
    try simp only [Act.put, List.getElem_toArray, List.getElem_cons_zero, List.getElem_cons_succ, List.setIfInBounds_toArray, List.set_cons_zero, List.set_cons_succ]
    refine wpAnyH_take (i := 13) (v := ?_) rfl (by kernel_rfl) (by kernel_rfl) (by kernel_rfl) (fun _ _ _ h => h) (Or.inl ⟨by rfl, ?_⟩) (by assumption) ?_
    rotate_left
    · (intro w hSw; go_simp; try (with_reducible rfl))
    try simp only [Act.put, List.getElem_toArray, List.getElem_cons_zero, List.getElem_cons_succ, List.setIfInBounds_toArray, List.set_cons_zero, List.set_cons_succ]
    refine wpAnyH_done (by kernel_rfl) ?_ _
    refine NoPanic.normal ?_
    go_wp2_with fail
    go_ret
    exact ⟨by rw [← HE.out]; rfl, hHeld.bel⟩
  · have hd : decide ((0 : Int) < ((N : Nat) : Int)) = true := by simp; omega
    have hN : 0 < N := by omega
    have gd := guard_pref
    have q1 := fun W => run_eq_pref f f ps ms n (m : Int) W HP.out HLR.out
    rw [show decide (f = f ∧ ps = ms ∧ n = (m : Int)) = R by rw [← HE.out]; exact decide_eq_decide.2 (by simp [hN])] at q1
    refine wp_region_noPanic ?_
    refine wp_region_held_drew (S := HeldR L w) (by kernel_rfl) HK.out.drew (fun hHeld => ?_)
    refine wpAnyH_take (i := 0) (v := ?_) rfl (by kernel_rfl) (by kernel_rfl) (by kernel_rfl) (fun _ _ _ h => h) (Or.inl ⟨by rfl, ?_⟩) (by assumption) ?_
    rotate_left
    · (intro w hSw; go_simp; try (with_reducible rfl))
    try simp only [Act.put, List.getElem_toArray, List.getElem_cons_zero, List.setIfInBounds_toArray, List.set_cons_zero, List.set_cons_succ]
    refine wpAnyH_take (i := 1) rfl (by kernel_rfl) (by kernel_rfl) (by kernel_rfl) (fun _ _ _ h => h) (yields_addr Ma (by rfl) _ rfl rfl) (by assumption) ?_
    try simp only [Act.put, List.getElem_toArray, List.getElem_cons_zero, List.getElem_cons_succ, List.setIfInBounds_toArray, List.set_cons_zero, List.set_cons_succ]
    refine wpAnyH_ready (rs := [2]) (by kernel_rfl) (by simp) ?_
    refine AllReadyH.cons rfl (fun K hK => ?_) AllReadyH.nil
    go_simp
    refine (Calls.heldR (C1 _ (by assumption)).out (by assumption)).mono ?_
    rintro e wr2 ⟨rfl, hS2⟩
    go_wp2_with fail
    refine hK.out _ _ hS2 (fun hHeld => ?_)
    clear hK K
    try simp only [Act.put, List.getElem_toArray, List.getElem_cons_zero, List.getElem_cons_succ, List.setIfInBounds_toArray, List.set_cons_zero, List.set_cons_succ]
    refine wpAnyH_take (i := 3) (v := ?_) rfl (by kernel_rfl) (by kernel_rfl) (by kernel_rfl) (fun _ _ _ h => h) (Or.inl ⟨by rfl, ?_⟩) (by assumption) ?_
    rotate_left
    · (intro w hSw; go_simp; try (with_reducible rfl))
    try simp only [Act.put, List.getElem_toArray, List.getElem_cons_zero, List.getElem_cons_succ, List.setIfInBounds_toArray, List.set_cons_zero, List.set_cons_succ]
    refine wpAnyH_take (i := 4) (v := ?_) rfl (by kernel_rfl) (by kernel_rfl) (by kernel_rfl) (fun _ _ _ h => h) (Or.inl ⟨by rfl, ?_⟩) (by assumption) ?_
    rotate_left
    · (intro w hSw; go_simp; try (with_reducible rfl))
    try simp only [Act.put, List.getElem_toArray, List.getElem_cons_zero, List.getElem_cons_succ, List.setIfInBounds_toArray, List.set_cons_zero, List.set_cons_succ]
    refine wpAnyH_take (i := 5) rfl (by kernel_rfl) (by kernel_rfl) (by kernel_rfl) (fun _ _ _ h => h) (yields_pref Mp (by rfl) _ rfl rfl) (by assumption) ?_
    try simp only [Act.put, List.getElem_toArray, List.getElem_cons_zero, List.getElem_cons_succ, List.setIfInBounds_toArray, List.set_cons_zero, List.set_cons_succ]
    refine wpAnyH_take (i := 6) (v := ?_) rfl (by kernel_rfl) (by kernel_rfl) (by kernel_rfl) (fun _ _ _ h => h) (Or.inl ⟨by rfl, ?_⟩) (by assumption) ?_
    rotate_left
    · (intro w hSw; go_simp; try (with_reducible rfl))
    try simp only [Act.put, List.getElem_toArray, List.getElem_cons_zero, List.getElem_cons_succ, List.setIfInBounds_toArray, List.set_cons_zero, List.set_cons_succ]
    refine wpAnyH_take (i := 7) rfl (by kernel_rfl) (by kernel_rfl) (by kernel_rfl) (fun _ _ _ h => h) (yields_addr Ma (by rfl) _ rfl rfl) (by assumption) ?_
    try simp only [Act.put, List.getElem_toArray, List.getElem_cons_zero, List.getElem_cons_succ, List.setIfInBounds_toArray, List.set_cons_zero, List.set_cons_succ]
    refine wpAnyH_take (i := 8) (v := ?_) rfl (by kernel_rfl) (by kernel_rfl) (by kernel_rfl) (fun _ _ _ h => h) (Or.inl ⟨by rfl, ?_⟩) (by assumption) ?_
    rotate_left
    · (intro w hSw; go_simp; try (with_reducible rfl))
    try simp only [Act.put, List.getElem_toArray, List.getElem_cons_zero, List.getElem_cons_succ, List.setIfInBounds_toArray, List.set_cons_zero, List.set_cons_succ]
    refine wpAnyH_take (i := 9) (v := ?_) rfl (by kernel_rfl) (by kernel_rfl) (by kernel_rfl) (fun _ _ _ h => h) (Or.inl ⟨by rfl, ?_⟩) (by assumption) ?_
    rotate_left
    · (intro w hSw; have hc0 := Cn.out w hSw; go_simp; try (with_reducible rfl))
    try simp only [Act.put, List.getElem_toArray, List.getElem_cons_zero, List.getElem_cons_succ, List.setIfInBounds_toArray, List.set_cons_zero, List.set_cons_succ]
    refine wpAnyH_ready (rs := [10]) (by kernel_rfl) (by simp) ?_
    refine AllReadyH.cons rfl (fun K hK => ?_) AllReadyH.nil
    go_simp
    refine (Calls.heldR (C2 _ (by assumption)).out (by assumption)).mono ?_
    rintro e wr10 ⟨rfl, hS10⟩
    go_wp2_with fail
    refine hK.out _ _ hS10 (fun hHeld => ?_)
    clear hK K
    try simp only [Act.put, List.getElem_toArray, List.getElem_cons_zero, List.getElem_cons_succ, List.setIfInBounds_toArray, List.set_cons_zero, List.set_cons_succ]
    refine wpAnyH_take (i := 11) (v := ?_) rfl (by kernel_rfl) (by kernel_rfl) (by kernel_rfl) (fun _ _ _ h => h) (Or.inl ⟨by rfl, ?_⟩) (by assumption) ?_
    rotate_left
    · (intro w hSw; go_simp; try (with_reducible rfl))
    try simp only [Act.put, List.getElem_toArray, List.getElem_cons_zero, List.getElem_cons_succ, List.setIfInBounds_toArray, List.set_cons_zero, List.set_cons_succ]
    refine wpAnyH_take (i := 12) (v := ?_) rfl (by kernel_rfl) (by kernel_rfl) (by kernel_rfl) (fun _ _ _ h => h) (Or.inl ⟨by rfl, ?_⟩) (by assumption) ?_
    rotate_left
    · (intro w hSw; go_simp; try (with_reducible rfl))
    try simp only [Act.put, List.getElem_toArray, List.getElem_cons_zero, List.getElem_cons_succ, List.setIfInBounds_toArray, List.set_cons_zero, List.set_cons_succ]
    refine wpAnyH_take (i := 13) (v := ?_) rfl (by kernel_rfl) (by kernel_rfl) (by kernel_rfl) (fun _ _ _ h => h) (Or.inl ⟨by rfl, ?_⟩) (by assumption) ?_
    rotate_left
    · (intro w hSw; go_simp; try (with_reducible rfl))
    try simp only [Act.put, List.getElem_toArray, List.getElem_cons_zero, List.getElem_cons_succ, List.setIfInBounds_toArray, List.set_cons_zero, List.set_cons_succ]
    refine wpAnyH_done (by kernel_rfl) ?_ _
    refine NoPanic.normal ?_
    go_wp2_with fail
    go_ret
    exact ⟨rfl, hHeld.bel⟩
end Go.Proofs.YtgbajagacmfcmaaGreatDoor
/- The table: what it keeps; contracts of Set and Drop. -/
namespace Go.Proofs.YtgbajagacmfcmaaGreatDoor
open Go.RowKit
set_option linter.unusedVariables false
set_option maxRecDepth 20000

theorem setCell_one (w : World) (b o : Nat) (u : Value) : w.setCell ⟨b, o, none⟩ u = w.setCells b o [u] := rfl
/-- A value set anew, at its place. -/
theorem rowT_setVal {w : World} {g cap : Nat} {es : List Ent} (hb : Blk w g (cap * 19)) (hc : es.length ≤ cap) (hm : cap ≤ maxLen) (hr : w.rangeAt g 0 (flatE es)) (hg : AllGood es) (hle : es.length ≤ 1000) (i : Nat) (hi : i < es.length) (x : Int) (hx : (Lit.int .i64 x).wf = true) :
    RowT (w.setCell ⟨g, i * 19 + 18, none⟩ (.int .i64 x)) 0 (.slice (some ⟨g, 0, none⟩) es.length cap) (es.take i ++ [⟨es[i].f, es[i].b, es[i].n, x⟩] ++ es.drop (i + 1)) := by
  have hgi := hg _ (List.getElem_mem hi)
  have hlen : (es.take i ++ [(⟨es[i].f, es[i].b, es[i].n, x⟩ : Ent)] ++ es.drop (i + 1)).length = es.length := by simp; omega
  have hgd : AllGood (es.drop (i + 1)) := fun e he => hg e (List.mem_of_mem_drop he)
  have hgt : AllGood (es.take i) := fun e he => hg e (List.mem_of_mem_take he)
  have hft : (flatE (es.take i)).length = i * 19 := by rw [flatE_len _ hgt, List.length_take, Nat.min_eq_left (by omega)]
  have hpl := prefL_len es[i].f es[i].b (es[i].n : Int) hgi.1.len
  rw [setCell_one]
  have := rowT_of (w := w.setCells g (i * 19 + 18) [Value.int .i64 x]) (g := g) (cap := cap) (es := es.take i ++ [⟨es[i].f, es[i].b, es[i].n, x⟩] ++ es.drop (i + 1)) (Blk.setCells g _ _ _ hb) (by omega) hm ?_ (fun e he => by
      rcases List.mem_append.1 he with he | he
      · rcases List.mem_append.1 he with he | he
        · exact hgt e he
        · rw [List.mem_singleton.1 he]; exact ⟨hgi.1, hx⟩
      · exact hgd e he) (by omega)
  · rw [hlen] at this; exact this
  · rw [flatE_append, flatE_append, flatE_single]
    have h1 := World.rangeAt_setCells_apart (cell_take hr i) g (i * 19 + 18) [Value.int .i64 x] (.inr (.inl (by rw [hft]; omega)))
    have h2 := World.rangeAt_setCells_apart (range_pref (range_ent hr hg i hi)) g (i * 19 + 18) [Value.int .i64 x] (.inr (.inl (by rw [hpl]; omega)))
    have h3 := World.rangeAt_setCells_same w g (i * 19 + 18) [Value.int .i64 x] (hb.there _ _ (by simp; omega))
    have h4 := World.rangeAt_setCells_apart (cell_drop hr hg (i + 1) (by omega)) g (i * 19 + 18) [Value.int .i64 x] (.inr (.inr (by simp; omega)))
    refine range_append (range_append h1 ?_) ?_
    · rw [hft, Nat.zero_add]
      show (w.setCells g (i * 19 + 18) [Value.int .i64 x]).rangeAt g (i * 19) (prefL es[i].f es[i].b (es[i].n : Int) ++ [Value.int .i64 x])
      exact range_append h2 (by rw [hpl]; exact h3)
    · rw [List.length_append, hft, Ent.L_len (⟨es[i].f, es[i].b, es[i].n, x⟩ : Ent) hgi.1.len, show 0 + (i * 19 + 19) = (i + 1) * 19 by omega]
      exact h4
/-- The table at G, of entries es, with st steps. -/
def TabAt (w : World) (G : Nat) (es : List Ent) (st : Int) (F : List Nat) : Prop :=
  ∃ v, F = G :: blkL v ∧ Tab w G v st ∧ RowT w 0 v es ∧ SortedE es ∧ ∀ g, v.ownBlock = some g → g ≠ G
theorem mem_blkL {v : Value} {k : Nat} : k ∈ blkL v ↔ v.ownBlock = some k := by unfold blkL; cases v.ownBlock <;> simp [eq_comm]
theorem RowT.same {w w' : World} {base : Nat} {v : Value} {es : List Ent} (h : RowT w base v es) (hk : ∀ g, v.ownBlock = some g → w'.heap[g]? = w.heap[g]?) : RowT w' base v es := by
  obtain ⟨⟨h1, h2⟩, h3⟩ := h
  refine ⟨⟨h1, ?_⟩, h3⟩
  rcases h2 with h2 | ⟨g, cap, cur, e1, e2, e3, e4⟩
  · exact .inl h2
  · exact .inr ⟨g, cap, cur, e1, e2, (hk g (by rw [e1]; rfl)).trans e3, e4⟩
section
variable {w w' : World} {G : Nat} {es : List Ent} {st : Int} {F : List Nat}
theorem TabAt.lt (h : TabAt w G es st F) : G ∈ F ∧ ∀ k ∈ F, k < w.heap.size := by
  obtain ⟨v, rfl, hT, hR, _, _⟩ := h
  refine ⟨by simp, fun k hk => ?_⟩
  rcases List.mem_cons.1 hk with rfl | hk
  · exact hT.lt
  · exact (hR.blockLt k (mem_blkL.1 hk)).2
theorem TabAt.keep (h : TabAt w G es st F) (hs : w.heap.size ≤ w'.heap.size) (hk : ∀ k ∈ F, w'.heap[k]? = w.heap[k]?) : TabAt w' G es st F := by
  obtain ⟨v, rfl, hT, hR, hS, hN⟩ := h
  exact ⟨v, rfl, hT.same hs (hk G (by simp)), hR.same (fun g hg => hk g (List.mem_cons_of_mem _ (mem_blkL.2 hg))), hS, hN⟩
theorem TabAt.below (h : TabAt w G es st F) (hb : Below w.heap.size w w') : TabAt w' G es st F := h.keep hb.size (fun k hk => hb.block k (h.lt.2 k hk))
end
theorem Foot.wide {F F' : List Nat} {w w' : World} {G : Nat} (h : Foot F F' w w') : Foot (G :: F) (G :: F') w w' :=
  ⟨h.os, h.tape, h.output, h.size, fun k hk hn => h.keep k hk (fun e => hn (List.mem_cons_of_mem _ e)), fun k hk => by
    rcases List.mem_cons.1 hk with rfl | hk
    · exact .inl (by simp)
    · rcases h.new k hk with e | e
      · exact .inl (List.mem_cons_of_mem _ e)
      · exact .inr e⟩
theorem Foot.into {F : List Nat} {w w' : World} {G : Nat} (h : Foot [G] [G] w w') (hG : G ∈ F) : Foot F F w w' :=
  ⟨h.os, h.tape, h.output, h.size, fun k hk hn => h.keep k hk (fun e => hn (by rw [List.mem_singleton.1 e]; exact hG)), fun k hk => .inl hk⟩
theorem yields_build_entT {ops : Array Oper} {S : World → Prop} {op : Oper} {a : Act} {f : Int} {bs : List Nat} {n v : Int} (hl : Hid (bs.length = 16)) (hw : Region.wanted op (yielded ops a.tmps) = true) (x y : Operand) (ho : op.op = .build 47 #[(0, x), (1, y)])
    (hx : a.eval x = prefV f bs n) (hy : a.eval y = .int .i64 v) : YieldsIf Tryz.prog ops S op (entV f bs n v) a :=
  .inl ⟨hw, fun w _ => exec_build ho (by
    simp only [List.map_toArray, List.map_cons, List.map_nil]
    rw [hx, hy]; exact built_entT f bs n v hl.out)⟩
theorem wp_build_entST {op : Oper} {a : Act} {w : World} {K : Act → World → Prop} {Q : Exit → Act → World → Prop} {f : Int} {bs : List Nat} {n v : Int} (hl : Hid (bs.length = 16)) (x : Operand) (ho : op.op = .buildSlice 33 1 #[(0, x)])
    (hx : a.eval x = entV f bs n v) (h : ∀ W, Hid (W = w.alloc (.cells (entL f bs n v).toArray 47)) → K (a.put op.dst (.slice (some ⟨w.heap.size, 0, none⟩) 1 1)) W) : op.wp Tryz.prog a w K Q := by
  unfold Oper.wp execOp
  simp only [ho, List.map_toArray, List.map_cons, List.map_nil, hx, Sem.run_bind, run_buildT f bs n v w hl.out, Result.andThen_ok]
  exact h _ (Lib.hid rfl)
end Go.Proofs.YtgbajagacmfcmaaGreatDoor
/- Contract of Table.Set. -/
namespace Go.Proofs.YtgbajagacmfcmaaGreatDoor
open Go.RowKit
set_option linter.unusedVariables false
set_option maxRecDepth 20000

set_option maxRecDepth 100000 in
set_option maxHeartbeats 1000000 in
theorem tabSet_any (G : Nat) (es : List Ent) (st : Int) (F : List Nat) (f : Int) (bs : List Nat) (n x : Int) (w : World) (hA : TabAt w G es st F) (h16 : bs.length = 16) (hlt : ∀ y ∈ bs, y < 256) (hn : (Lit.int .i64 n).wf = true) (hx : (Lit.int .i64 x).wf = true) (hle : es.length ≤ 999) :
    Calls Tryz.prog 38 #[.pointer (some ⟨G, 0, none⟩), prefV f bs n, .int .i64 x] w fun e w' => e = .returned (.int .i64 (if mayP f bs n = true then 0 else 1)) ∧ ∃ F', TabAt w' G (setE es f bs n x) st F' ∧ Foot F F' w w' := by
  have HAA := Lib.hid hA
  obtain ⟨v, rfl, hT, hR, hs, hN⟩ := hA
  have HPL := fun W (h : Below w.heap.size w W) => Lib.hid (place_any G v st es f bs n W (hT.below h) (hR.below h) hs h16 hlt)
  have HMA := fun W => Lib.hid (cidrMay_any f bs n W h16 hlt hn)
  have HGD : Hid (mayP f bs n = true → GoodP f bs n.toNat ∧ n = ((n.toNat : Nat) : Int)) := Lib.hid (mayP_good h16 hlt)
  have HNO : Hid (mayP f bs n = false → setE es f bs n x = es) := Lib.hid (fun h => by unfold setE; rw [if_neg (by rw [h]; decide)])
  have HSN : Hid (mayP f bs n = true → ∀ i, Place es f bs n i false → setE es f bs n x = es.take i ++ [⟨f, bs, n.toNat, x⟩] ++ es.drop i) := Lib.hid (fun hm i hp => set_none x hp hR.2.1 hs h16 hlt hm)
  have HSA : Hid (mayP f bs n = true → ∀ i, Place es f bs n i true → ∃ h : i < es.length, setE es f bs n x = es.take i ++ [⟨es[i].f, es[i].b, es[i].n, x⟩] ++ es.drop (i + 1)) := Lib.hid (fun hm i hp => by
    obtain ⟨h, h0⟩ := hp.isAt hR.2.1 h16
    refine ⟨h, ?_⟩
    unfold isEnt at h0
    obtain ⟨e1, e2, e3⟩ := of_decide_eq_true h0
    rw [set_at x hp hR.2.1 hs h16 hlt hm, e1, e2]
    have : n.toNat = es[i].n := by omega
    rw [this])
  have HSS : Hid (∀ i b, Place es f bs n i b → SortedE (setE es f bs n x)) := Lib.hid (fun i b hp => sorted_set x hp hR.2.1 hs h16 hlt)
  have HTT := Lib.hid (fun W (h : Below w.heap.size w W) => hT.below h)
  have HRR := Lib.hid (fun W (h : Below w.heap.size w W) => hR.below h)
  have HG := Lib.hid hR.2.1
  have HNN := Lib.hid hN
  have H16 := Lib.hid h16
  have HWX := Lib.hid hx
  generalize setE es f bs n x = R at *
  obtain ⟨c, hc⟩ : ∃ c : Int, (if mayP f bs n = true then (0 : Int) else 1) = c := ⟨_, rfl⟩
  rw [hc]
  have HCC := Lib.hid hc
  clear hc
  generalize mayP f bs n = m at *
  obtain ⟨cs, ecs, HP, HB⟩ := pref_boxed f bs n w h16
  rw [ecs]
  clear ecs h16 hlt hT hR hs hN hn hx
  go_enter Tryz.func38, Tryz.ntmps38
  go_upto_region 1 with fail
  generalize (w.alloc (.cells cs 45)) = W at *
  go_wp2_with (refine load_pref_g HP _ rfl rfl rfl ?_)
  refine (HMA _).out.mono ?_
  rintro e w0 ⟨rfl, hb0⟩
  have HB0 := Lib.hid (chain HB.out hb0)
  have HP0 := Lib.hid (HP.out.below hb0)
  clear HP HB hb0 HMA
  cases m with
  | false =>
    have HE := Lib.hid (HNO.out rfl)
    rw [if_neg (by decide)] at HCC
    clear HNO HSN HSA HSS HPL HGD
    go_wp2_with fail
    go_ret
    exact ⟨by rw [← HCC.out]; rfl, _, by rw [HE.out]; exact HAA.out.below HB0.out, Foot.ofBelow _ HB0.out⟩
  | true =>
    rw [if_pos rfl] at HCC
    obtain ⟨hgp, hnn⟩ := HGD.out rfl
    have HGP := Lib.hid hgp
    have HNT := Lib.hid hnn
    clear HNO HGD hgp hnn
    go_wp2_with (refine load_pref_g HP0 _ rfl rfl rfl ?_)
    refine (HPL _ HB0.out).out.mono ?_
    rintro e w1 ⟨i, b, rfl, hp, hb1⟩
    have HP1 := Lib.hid (HP0.out.below hb1)
    have HB1 := Lib.hid (chain HB0.out hb1)
    have HT1 := Lib.hid (HTT.out _ HB1.out)
    have HR1 := Lib.hid (HRR.out _ HB1.out)
    have HSR := Lib.hid (HSS.out i b hp)
    have hile := hp.le
    clear HP0 HB0 hb1 HTT HRR HPL HSS
    cases b with
    | true =>
      obtain ⟨hil, hE⟩ := HSA.out (by trivial) i hp
      have HE := Lib.hid hE
      clear HSN HSA hp hE
      rcases HR1.out.blk with ⟨rfl, rfl⟩ | ⟨g, cap, rfl, _, hb, hcp, hmx, hrg⟩
      · exact absurd hil (by simp)
      · have hcell := HT1.out.row
        have HRS := Lib.hid (rowT_setVal hb hcp hmx hrg HG.out (by omega) i hil x HWX.out)
        have hval := cell_val (range_ent hrg HG.out i hil) (HG.out _ (List.getElem_mem hil)).1.len
        have hfz := (hb.there (i * 19 + 18) 1 (by omega) 0 (by omega)).2
        rw [Nat.add_zero] at hfz
        have hNg : g ≠ G := HNN.out g rfl
        have hb1 : (0 : Int) ≤ (i : Int) := by omega
        have hb2 : (i : Int) < (es.length : Int) := by omega
        have hb3 : i < es.length := hil
        obtain ⟨y, hy⟩ : ∃ y, es[i] = y := ⟨_, rfl⟩
        rw [hy] at hval
        obtain ⟨N, hNn⟩ : ∃ N, es.length = N := ⟨_, rfl⟩
        rw [hNn] at hcell hb2 hb3
        clear hy hNn hrg hcp hb HP1 HR1
        go_wp2_with fail
        go_ret
        have hf3 := foot_cell w1 g (i * 19 + 18) (.int .i64 x)
        refine ⟨by rw [← HCC.out]; rfl, _, ⟨_, rfl, HT1.out.foot hf3 (by simp; omega), by rw [HE.out]; exact HRS.out, HSR.out, fun k hk => HNN.out k hk⟩, ?_⟩
        exact (Foot.ofBelow _ HB1.out).trans (hf3.into (by simp [blkL, Value.ownBlock]))
    | false =>
      have HE := Lib.hid (HSN.out (by trivial) i hp)
      clear HSN HSA hp
      have FIN : ∀ w5 v5, Hid (Tab w5 G v st) → Hid (RowT w5 0 v5 (es.take i ++ [⟨f, bs, n.toNat, x⟩] ++ es.drop i)) → Hid (Foot (blkL v) (blkL v5) w1 w5) → Hid (∀ g, v5.ownBlock = some g → g ≠ G) →
          (Ending.returned (Value.int IntKind.i64 0) = Ending.returned (Value.int IntKind.i64 c) ∧ ∃ F', TabAt (w5.setCell ⟨G, 0, none⟩ v5) G R st F' ∧ Foot (G :: blkL v) F' w (w5.setCell ⟨G, 0, none⟩ v5)) := fun w5 v5 h1 h2 h3 h4 => by
        have hf3 := foot_cell w5 G 0 v5
        refine ⟨by rw [← HCC.out], G :: blkL v5, ⟨v5, rfl, h1.out.setRow v5, ?_, HSR.out, h4.out⟩, ?_⟩
        · rw [HE.out]
          exact h2.out.foot hf3 (fun k hk e => h4.out k hk (by simpa using e))
        · exact ((Foot.ofBelow _ HB1.out).trans (Foot.wide h3.out)).trans (hf3.into (by simp))
      obtain ⟨e5, he5⟩ : ∃ e5 : Ent, (⟨f, bs, n.toNat, x⟩ : Ent) = e5 := ⟨_, rfl⟩
      have HGE : Hid e5.Good := Lib.hid (by rw [← he5]; exact ⟨HGP.out, HWX.out⟩)
      have HEL : Hid (entL f bs n x = e5.L) := Lib.hid (by rw [← he5, Ent.L_eq]; show entL f bs n x = entL f bs ((n.toNat : Nat) : Int) x; rw [← HNT.out])
      rw [he5] at FIN
      clear he5 HE
      have hcell := HT1.out.row
      go_upto_region 6 with fail
      obtain ⟨L, hL⟩ : ∃ L, [(w.heap.size, 0, prefL f bs n)] = L := ⟨_, rfl⟩
      have HK : Hid (HeldL L w1.drew) := Lib.hid (by rw [← hL]; intro x hx; rw [List.mem_singleton.1 hx]; exact HP1.out.range)
      have MP : Hid (InL L w.heap.size 0 (prefL f bs n)) := Lib.hid (fun W h => h.get (by rw [← hL]; simp))
      have HVL : Hid (∀ g, v.ownBlock = some g → g < w.heap.size) := Lib.hid (fun g hg => HAA.out.lt.2 g (List.mem_cons_of_mem _ (mem_blkL.2 hg)))
      have HGL : Hid (G < w.heap.size) := Lib.hid (HAA.out.lt.2 G (by simp))
      have HKN : Hid (∀ W' v5, Foot (blkL v) (blkL v5) w1 W' → HeldL L W') := Lib.hid (fun W' v5 hf => by
        rw [← hL]; intro x hx; rw [List.mem_singleton.1 hx]
        exact range_foot hf HP1.out.range HP1.out.addr.lt (fun e => by have := HVL.out _ (mem_blkL.1 e); omega))
      have HKN : Hid (∀ W' {v5 : Value}, Foot (blkL v) (blkL v5) w1 W' → HeldL L W') := Lib.hid (fun W' v5 hf => HKN.out W' v5 hf)
      have HKG : Hid (∀ W' (v5 : Value), HeldL L W' → HeldL L (W'.setCell ⟨G, 0, none⟩ v5)) := Lib.hid (fun W' v5 h => by
        rw [← hL] at h ⊢; intro x hx; rw [List.mem_singleton.1 hx]
        exact World.rangeAt_setCells_apart (h _ (by simp)) G 0 [v5] (.inl (by have := HGL.out; show w.heap.size ≠ G; omega)))
      have HIN : ∀ V1, Hid (Below w1.heap.size w1 V1) → Hid (V1 = w1.drew.alloc (.cells e5.L.toArray 47) → Calls Tryz.prog 57 #[v, .int .i64 (i : Int), .slice (some ⟨w1.heap.size, 0, none⟩) 1 1] V1 (InsE v (es.take i ++ [e5] ++ es.drop i) V1)) := fun V1 hb => Lib.hid (fun hV => by
        refine insert_any v es i e5 w1.heap.size 1 V1 (HR1.out.below hb.out) hile HGE.out hle ?_ ?_ ?_
        · rw [hV]; exact buildS_new (w := w1.drew) _
        · rw [hV]; exact blk_new w1.drew _ _ (by rw [List.size_toArray]; exact Ent.L_len e5 HGE.out.1.len)
        · intro g hg e
          have h1 := HVL.out g hg
          have h2 := HB1.out.size
          omega)
      clear hL HR1
      generalize (es.take i ++ [e5] ++ es.drop i) = Rn at *
      have hcD : w1.drew.cell? ⟨G, 0, none⟩ = some v := hcell
      refine wp_region_noPanic ?_
      refine wp_region_held_drew (S := HeldL L) (by kernel_rfl) HK.out (fun hHeld => ?_)
      refine wpAnyH_take (i := 0) (v := ?_) rfl (by kernel_rfl) (by kernel_rfl) (by kernel_rfl) (fun _ _ _ h => h) (Or.inl ⟨by rfl, ?_⟩) (by assumption) ?_
      rotate_left
      · (intro w hSw; go_simp; try (with_reducible rfl))
      try simp only [Act.put, List.getElem_toArray, List.getElem_cons_zero, List.setIfInBounds_toArray, List.set_cons_zero, List.set_cons_succ]
      refine wpAnyH_take (i := 1) (v := ?_) rfl (by kernel_rfl) (by kernel_rfl) (by kernel_rfl) (fun _ _ _ h => h) (Or.inl ⟨by rfl, ?_⟩) (by assumption) ?_
      rotate_left
      · (intro w hSw; go_simp; try (with_reducible rfl))
      try simp only [Act.put, List.getElem_toArray, List.getElem_cons_zero, List.getElem_cons_succ, List.setIfInBounds_toArray, List.set_cons_zero, List.set_cons_succ]
      refine wpAnyH_take (i := 2) (v := ?_) rfl (by kernel_rfl) (by kernel_rfl) (by kernel_rfl) (fun _ _ _ h => h) (Or.inl ⟨by rfl, ?_⟩) (by assumption) ?_
      rotate_left
      · (intro w hSw; go_simp; try (with_reducible rfl))
      try simp only [Act.put, List.getElem_toArray, List.getElem_cons_zero, List.getElem_cons_succ, List.setIfInBounds_toArray, List.set_cons_zero, List.set_cons_succ]
      refine wpAnyH_take (i := 3) (v := ?_) rfl (by kernel_rfl) (by kernel_rfl) (by kernel_rfl) (fun _ _ _ h => h) (Or.inl ⟨by rfl, ?_⟩) (by assumption) ?_
      rotate_left
      · (intro w hSw; go_simp; try (with_reducible rfl))
      try simp only [Act.put, List.getElem_toArray, List.getElem_cons_zero, List.getElem_cons_succ, List.setIfInBounds_toArray, List.set_cons_zero, List.set_cons_succ]
      refine wpAnyH_take (i := 5) (v := ?_) rfl (by kernel_rfl) (by kernel_rfl) (by kernel_rfl) (fun _ _ _ h => h) (Or.inl ⟨by rfl, ?_⟩) (by assumption) ?_
      rotate_left
      · (intro w hSw; go_simp; try (with_reducible rfl))
      try simp only [Act.put, List.getElem_toArray, List.getElem_cons_zero, List.getElem_cons_succ, List.setIfInBounds_toArray, List.set_cons_zero, List.set_cons_succ]
      refine wpAnyH_take (i := 6) rfl (by kernel_rfl) (by kernel_rfl) (by kernel_rfl) (fun _ _ _ h => h) (yields_pref_l H16 MP (by rfl) _ rfl rfl) (by assumption) ?_
      try simp only [Act.put, List.getElem_toArray, List.getElem_cons_zero, List.getElem_cons_succ, List.setIfInBounds_toArray, List.set_cons_zero, List.set_cons_succ]
      refine wpAnyH_take (i := 7) (v := ?_) rfl (by kernel_rfl) (by kernel_rfl) (by kernel_rfl) (fun _ _ _ h => h) (Or.inl ⟨by rfl, ?_⟩) (by assumption) ?_
      rotate_left
      · (intro w hSw; go_simp; try (with_reducible rfl))
      try simp only [Act.put, List.getElem_toArray, List.getElem_cons_zero, List.getElem_cons_succ, List.setIfInBounds_toArray, List.set_cons_zero, List.set_cons_succ]
      refine wpAnyH_take (i := 8) rfl (by kernel_rfl) (by kernel_rfl) (by kernel_rfl) (fun _ _ _ h => h) (yields_build_entT H16 (by rfl) _ _ rfl rfl rfl) (by assumption) ?_
      try simp only [Act.put, List.getElem_toArray, List.getElem_cons_zero, List.getElem_cons_succ, List.setIfInBounds_toArray, List.set_cons_zero, List.set_cons_succ]
      refine wpAnyH_ready (rs := [4, 9]) (by kernel_rfl) (by simp) ?_
      refine AllReadyH.cons rfl (fun K hK => ?_) (AllReadyH.one rfl rfl (fun K hK => ?_))
      · rw [if_pos (by rfl)]
        go_wp2_with fail
        refine hK.out _ _ hHeld (fun hHeld0 => ?_)
        clear hK K
        try simp only [Act.put, List.getElem_toArray, List.getElem_cons_zero, List.getElem_cons_succ, List.setIfInBounds_toArray, List.set_cons_zero, List.set_cons_succ]
        refine wpAnyH_ready (rs := [9]) (by kernel_rfl) (by simp) ?_
        refine AllReadyH.one rfl rfl (fun K hK => ?_)
        refine wp_build_entST H16 _ rfl rfl (fun V1 HVE => ?_)
        rw [HEL.out] at HVE
        have HV1 : Hid (Below w1.heap.size w1 V1) := Lib.hid (by rw [HVE.out]; exact (Below.refl _ _).drew.alloc (Nat.le_refl _) _)
        have hS1 := HKN.out V1 (v5 := v) (Foot.ofBelow _ HV1.out)
        refine hK.out _ _ hS1 (fun hHeld1 => ?_)
        clear hK K
        try simp only [Act.put, List.getElem_toArray, List.getElem_cons_zero, List.getElem_cons_succ, List.setIfInBounds_toArray, List.set_cons_zero, List.set_cons_succ]
        refine wpAnyH_ready (rs := [10]) (by kernel_rfl) (by simp) ?_
        refine AllReadyH.cons rfl (fun K hK => ?_) AllReadyH.nil
        go_simp
        refine ((HIN V1 HV1).out HVE.out).mono ?_
        rintro e w5 ⟨v5, rfl, hr5, hf5⟩
        have hfT := (Foot.ofBelow (blkL v) HV1.out).trans hf5
        have HT5 := Lib.hid (HT1.out.foot hfT (fun e => HNN.out G (mem_blkL.1 e) rfl))
        have HR5 := Lib.hid hr5
        have HF5 := Lib.hid hfT
        have HN5 : Hid (∀ g, v5.ownBlock = some g → g ≠ G) := Lib.hid (fun g hg => by
          rcases hfT.new g (mem_blkL.2 hg) with e | e
          · exact HNN.out g (mem_blkL.1 e)
          · have := HT1.out.lt; omega)
        have hS5 := HKN.out w5 hfT
        clear hr5 hf5 hfT HIN
        go_wp2_with fail
        refine hK.out _ _ hS5 (fun hHeld5 => ?_)
        clear hK K
        try simp only [Act.put, List.getElem_toArray, List.getElem_cons_zero, List.getElem_cons_succ, List.setIfInBounds_toArray, List.set_cons_zero, List.set_cons_succ]
        have hc5 := HT5.out.row
        have hf5 := HT5.out.frow
        have HS6 := Lib.hid (HKG.out w5 v5 hS5)
        refine wpAnyH_take (i := 11) (v := ?_) rfl (by kernel_rfl) (by kernel_rfl) (by kernel_rfl) (fun _ _ _ h => h) (Or.inl ⟨by rfl, ?_⟩) (by assumption) ?_
        rotate_left
        · (intro w hSw; go_simp; try (with_reducible rfl))
        try simp only [Act.put, List.getElem_toArray, List.getElem_cons_zero, List.getElem_cons_succ, List.setIfInBounds_toArray, List.set_cons_zero, List.set_cons_succ]
        refine wpAnyH_take (i := 12) (v := ?_) rfl (by kernel_rfl) (by kernel_rfl) (by kernel_rfl) (fun _ _ _ h => h) (Or.inl ⟨by rfl, ?_⟩) (by assumption) ?_
        rotate_left
        · (intro w hSw; go_simp; try (with_reducible rfl))
        try simp only [Act.put, List.getElem_toArray, List.getElem_cons_zero, List.getElem_cons_succ, List.setIfInBounds_toArray, List.set_cons_zero, List.set_cons_succ]
        refine wpAnyH_ready (rs := [13]) (by kernel_rfl) (by simp) ?_
        refine AllReadyH.one rfl rfl (fun K hK => ?_)
        rcases HR5.out.form with ⟨rfl, _⟩ | ⟨g5, cap5, rfl, _⟩
        · go_wp2_with fail
          refine hK.out _ _ HS6.out (fun hHeld6 => ?_)
          clear hK K
          try simp only [Act.put, List.getElem_toArray, List.getElem_cons_zero, List.getElem_cons_succ, List.setIfInBounds_toArray, List.set_cons_zero, List.set_cons_succ]
          refine wpAnyH_done (by kernel_rfl) ?_ _
          refine NoPanic.normal ?_
          go_wp2_with fail
          go_ret
          exact FIN w5 _ HT5 HR5 HF5 HN5
        · go_wp2_with fail
          refine hK.out _ _ HS6.out (fun hHeld6 => ?_)
          clear hK K
          try simp only [Act.put, List.getElem_toArray, List.getElem_cons_zero, List.getElem_cons_succ, List.setIfInBounds_toArray, List.set_cons_zero, List.set_cons_succ]
          refine wpAnyH_done (by kernel_rfl) ?_ _
          refine NoPanic.normal ?_
          go_wp2_with fail
          go_ret
          exact FIN w5 _ HT5 HR5 HF5 HN5
      · skip
        refine wp_build_entST H16 _ rfl rfl (fun V1 HVE => ?_)
        rw [HEL.out] at HVE
        have HV1 : Hid (Below w1.heap.size w1 V1) := Lib.hid (by rw [HVE.out]; exact (Below.refl _ _).drew.alloc (Nat.le_refl _) _)
        have hS1 := HKN.out V1 (v5 := v) (Foot.ofBelow _ HV1.out)
        refine hK.out _ _ hS1 (fun hHeld1 => ?_)
        clear hK K
        try simp only [Act.put, List.getElem_toArray, List.getElem_cons_zero, List.getElem_cons_succ, List.setIfInBounds_toArray, List.set_cons_zero, List.set_cons_succ]
        have hc1 : V1.cell? ⟨G, 0, none⟩ = some v := (HT1.out.below HV1.out).row
        refine wpAnyH_ready (rs := [4]) (by kernel_rfl) (by simp) ?_
        refine AllReadyH.one rfl rfl (fun K hK => ?_)
        go_wp2_with fail
        refine hK.out _ _ hS1 (fun hHeld0 => ?_)
        clear hK K
        try simp only [Act.put, List.getElem_toArray, List.getElem_cons_zero, List.getElem_cons_succ, List.setIfInBounds_toArray, List.set_cons_zero, List.set_cons_succ]
        refine wpAnyH_ready (rs := [10]) (by kernel_rfl) (by simp) ?_
        refine AllReadyH.cons rfl (fun K hK => ?_) AllReadyH.nil
        go_simp
        refine ((HIN V1 HV1).out HVE.out).mono ?_
        rintro e w5 ⟨v5, rfl, hr5, hf5⟩
        have hfT := (Foot.ofBelow (blkL v) HV1.out).trans hf5
        have HT5 := Lib.hid (HT1.out.foot hfT (fun e => HNN.out G (mem_blkL.1 e) rfl))
        have HR5 := Lib.hid hr5
        have HF5 := Lib.hid hfT
        have HN5 : Hid (∀ g, v5.ownBlock = some g → g ≠ G) := Lib.hid (fun g hg => by
          rcases hfT.new g (mem_blkL.2 hg) with e | e
          · exact HNN.out g (mem_blkL.1 e)
          · have := HT1.out.lt; omega)
        have hS5 := HKN.out w5 hfT
        clear hr5 hf5 hfT HIN
        go_wp2_with fail
        refine hK.out _ _ hS5 (fun hHeld5 => ?_)
        clear hK K
        try simp only [Act.put, List.getElem_toArray, List.getElem_cons_zero, List.getElem_cons_succ, List.setIfInBounds_toArray, List.set_cons_zero, List.set_cons_succ]
        have hc5 := HT5.out.row
        have hf5 := HT5.out.frow
        have HS6 := Lib.hid (HKG.out w5 v5 hS5)
        refine wpAnyH_take (i := 11) (v := ?_) rfl (by kernel_rfl) (by kernel_rfl) (by kernel_rfl) (fun _ _ _ h => h) (Or.inl ⟨by rfl, ?_⟩) (by assumption) ?_
        rotate_left
        · (intro w hSw; go_simp; try (with_reducible rfl))
        try simp only [Act.put, List.getElem_toArray, List.getElem_cons_zero, List.getElem_cons_succ, List.setIfInBounds_toArray, List.set_cons_zero, List.set_cons_succ]
        refine wpAnyH_take (i := 12) (v := ?_) rfl (by kernel_rfl) (by kernel_rfl) (by kernel_rfl) (fun _ _ _ h => h) (Or.inl ⟨by rfl, ?_⟩) (by assumption) ?_
        rotate_left
        · (intro w hSw; go_simp; try (with_reducible rfl))
        try simp only [Act.put, List.getElem_toArray, List.getElem_cons_zero, List.getElem_cons_succ, List.setIfInBounds_toArray, List.set_cons_zero, List.set_cons_succ]
        refine wpAnyH_ready (rs := [13]) (by kernel_rfl) (by simp) ?_
        refine AllReadyH.one rfl rfl (fun K hK => ?_)
        rcases HR5.out.form with ⟨rfl, _⟩ | ⟨g5, cap5, rfl, _⟩
        · go_wp2_with fail
          refine hK.out _ _ HS6.out (fun hHeld6 => ?_)
          clear hK K
          try simp only [Act.put, List.getElem_toArray, List.getElem_cons_zero, List.getElem_cons_succ, List.setIfInBounds_toArray, List.set_cons_zero, List.set_cons_succ]
          refine wpAnyH_done (by kernel_rfl) ?_ _
          refine NoPanic.normal ?_
          go_wp2_with fail
          go_ret
          exact FIN w5 _ HT5 HR5 HF5 HN5
        · go_wp2_with fail
          refine hK.out _ _ HS6.out (fun hHeld6 => ?_)
          clear hK K
          try simp only [Act.put, List.getElem_toArray, List.getElem_cons_zero, List.getElem_cons_succ, List.setIfInBounds_toArray, List.set_cons_zero, List.set_cons_succ]
          refine wpAnyH_done (by kernel_rfl) ?_ _
          refine NoPanic.normal ?_
          go_wp2_with fail
          go_ret
          exact FIN w5 _ HT5 HR5 HF5 HN5
end Go.Proofs.YtgbajagacmfcmaaGreatDoor
/- Rows of raw entries; contract of table.New. -/
namespace Go.Proofs.YtgbajagacmfcmaaGreatDoor
open Go.RowKit
set_option linter.unusedVariables false
set_option maxRecDepth 20000

/-- An entry as it is handed in: its prefix may be none that may be. -/
structure Raw where
  f : Int
  b : List Nat
  n : Int
  v : Int
def Raw.L (r : Raw) : List Value := entL r.f r.b r.n r.v
def Raw.Ok (r : Raw) : Prop := r.b.length = 16 ∧ (∀ y ∈ r.b, y < 256) ∧ (Lit.int .i64 r.n).wf = true ∧ (Lit.int .i64 r.v).wf = true
def flatR (rs : List Raw) : List Value := rs.flatMap Raw.L
def AllOk (rs : List Raw) : Prop := ∀ r ∈ rs, r.Ok
theorem Raw.L_len (r : Raw) (h : r.Ok) : r.L.length = 19 := entL_len r.f r.b r.n r.v h.1
theorem flatR_len : ∀ (rs : List Raw), AllOk rs → (flatR rs).length = rs.length * 19
  | [], _ => rfl
  | r :: rs, h => by
    have h1 := Raw.L_len r (h r (by simp))
    have h2 := flatR_len rs (fun x hx => h x (by simp [hx]))
    show (r.L ++ flatR rs).length = _
    rw [List.length_append, h1, h2, List.length_cons]
    omega
theorem flatR_at : ∀ (rs : List Raw), AllOk rs → ∀ k (hk : k < rs.length) j, j < 19 → (flatR rs)[k * 19 + j]? = (rs[k]).L[j]?
  | [], _, k, hk, j, hj => absurd hk (by simp)
  | r :: rs, h, k, hk, j, hj => by
    have h1 := Raw.L_len r (h r (by simp))
    show (r.L ++ flatR rs)[k * 19 + j]? = _
    cases k with
    | zero => rw [Nat.zero_mul, Nat.zero_add, List.getElem?_append_left (by omega)]; rfl
    | succ k =>
      rw [List.getElem?_append_right (by omega), h1, show (k + 1) * 19 + j - 19 = k * 19 + j by omega]
      exact flatR_at rs (fun x hx => h x (by simp [hx])) k (by simpa using hk) j hj
theorem range_raw {w : World} {g : Nat} {rs : List Raw} (h : w.rangeAt g 0 (flatR rs)) (hg : AllOk rs) (k : Nat) (hk : k < rs.length) : w.rangeAt g (k * 19) (entL rs[k].f rs[k].b rs[k].n rs[k].v) := by
  intro j u hu
  have hl := Raw.L_len (rs[k]) (hg _ (List.getElem_mem hk))
  have hj : j < 19 := by
    apply Classical.byContradiction
    intro h2
    rw [List.getElem?_eq_none (by show (rs[k]).L.length ≤ j; omega)] at hu
    cases hu
  have := h (k * 19 + j) u (by rw [flatR_at rs hg k hk j hj]; exact hu)
  rw [Nat.zero_add] at this
  exact this
/-- What there is when entries are set one behind the other. -/
def newE (rs : List Raw) (k : Nat) : List Ent := (rs.take k).foldl (fun es r => setE es r.f r.b r.n r.v) []
theorem newE_succ (rs : List Raw) (k : Nat) (hk : k < rs.length) : newE rs (k + 1) = setE (newE rs k) rs[k].f rs[k].b rs[k].n rs[k].v := foldl_take (fun (es : List Ent) (r : Raw) => setE es r.f r.b r.n r.v) [] rs k hk
theorem newE_len (rs : List Raw) : ∀ k, (newE rs k).length ≤ k
  | 0 => by simp [newE]
  | k + 1 => by
    by_cases hk : k < rs.length
    · rw [newE_succ rs k hk]
      have h1 := setE_len (newE rs k) rs[k].f rs[k].b rs[k].n rs[k].v
      have h2 := newE_len rs k
      omega
    · have : rs.take (k + 1) = rs.take k := by rw [List.take_of_length_le (by omega), List.take_of_length_le (by omega)]
      unfold newE
      rw [this]
      exact Nat.le_trans (newE_len rs k) (Nat.le_succ _)
theorem EntAt.val {w : World} {G : Nat} {f : Int} {bs : List Nat} {n v : Int} (h : EntAt w G f bs n v) : w.cell? ⟨G, 18, none⟩ = some (.int .i64 v) := by
  have := h.range 18 (.int .i64 v) (by unfold entL; rw [List.getElem?_append_right (by rw [prefL_len _ _ _ h.len]; exact Nat.le_refl _), prefL_len _ _ _ h.len]; rfl)
  rw [Nat.zero_add] at this
  exact this
theorem below_newT {w W : World} {f : Int} {bs : List Nat} {n v : Int} (h : Hid (W = (w.alloc (.cells zE 47)).setCells w.heap.size 0 (entL f bs n v))) : Below w.heap.size w W := by
  rw [h.out]; exact below_cells (Nat.le_refl _) _ _ _ ((Below.refl _ _).alloc (Nat.le_refl _) _)
/-- A fresh table of nothing. -/
theorem tab_new (w : World) : TabAt (w.alloc (.cells #[.slice none 0 0, .int .i64 0] 35)) w.heap.size [] 0 [w.heap.size] := by
  have hh : (w.alloc (.cells #[.slice none 0 0, .int .i64 0] 35)).heap[w.heap.size]? = some (.cells #[.slice none 0 0, .int .i64 0] 35) := by show (w.heap.push _)[w.heap.size]? = _; simp
  refine ⟨.slice none 0 0, rfl, ⟨by simp, ?_, ?_, ?_, ?_⟩, RowT.nil _ _, sorted_nil, (fun g hg => by cases hg)⟩
  · rw [cell_of_row _ _ 0 _ _ _ hh]; rfl
  · rw [cell_of_row _ _ 1 _ _ _ hh]; rfl
  · unfold World.frozen?; rw [hh]; rfl
  · unfold World.frozen?; rw [hh]; rfl
end Go.Proofs.YtgbajagacmfcmaaGreatDoor
/- Rows of entries (table.Entry) that came in, opened. -/
namespace Go.Proofs.YtgbajagacmfcmaaGreatDoor
open Go.ChangeShapes Go.WideShapes Go.ChangeAt Go.RowKit
set_option linter.unusedVariables false
set_option maxRecDepth 20000

theorem raw_of_trod {H : Type} {enc : TypeId × Value → H} {W : World} {spare : Nat → Bool} {fuel : Nat} {l : List Value} {x : DataW H × List MemPlace} (hl : l.length = 19)
    (hf : DataW.trod enc Tryz.prog W 0 spare true fuel 47 l = some x) : ∃ r : Raw, l = r.L ∧ r.Ok := by
  have hs := Tryz.underlying47
  obtain ⟨y0, y1, k, _, _, h0, h1⟩ := trod_struct2 hs hf
  have hc1 : Tryz.prog.cellsOf 3 = 1 := by kernel_rfl
  have hc18 : Tryz.prog.cellsOf 45 = 18 := by kernel_rfl
  rw [hc18] at h0
  rw [hc1] at h1
  obtain ⟨f, bs, n, e1, _, l1, b1, n1⟩ := pref_of_trod (by simp; omega) h0
  obtain ⟨v, h2, _, h3⟩ := DataW.trod_int Tryz.underlying3 h1
  refine ⟨⟨f, bs, n, v⟩, ?_, l1, b1, n1, h3⟩
  show l = entL f bs n v
  unfold entL
  have e2 : l = (l.drop 0).take 18 ++ (l.drop 18).take 1 := by
    have : (l.drop 18).take 1 = l.drop 18 := List.take_of_length_le (by simp; omega)
    rw [this, List.drop_zero, List.take_append_drop]
  rw [e2, e1, h2]
/-- A row of raw entries, as a walk reads it. -/
def RawsAt (W : World) (a : Option Addr) (len cap : Nat) (D : List Raw) : Prop := len ≤ cap ∧ cap ≤ maxLen ∧ D.length = len ∧ AllOk D ∧ (len = 0 ∨ ∃ g o, a = some ⟨g, o, none⟩ ∧ W.rangeAt g o (D.flatMap Raw.L) ∧ g < W.heap.size)
theorem open_ents {H : Type} {enc : TypeId × Value → H} {W : World} {spare : Nat → Bool} {a : Option Addr} {len cap : Nat} {d : DataW H} {ps : List MemPlace}
    (h : DataW.Trod enc Tryz.prog W 0 spare true 33 (.slice a len cap) d ps) : ∃ D, RawsAt W a len cap D := by
  obtain ⟨fuel, hf⟩ := h
  obtain ⟨h1, h2, h3⟩ := open_rows Raw.L 19 Raw.Ok Tryz.underlying33 (by kernel_rfl) (by decide) (fun n cs y hl ht => raw_of_trod hl ht) hf
  rcases h3 with h3 | ⟨g, o, D, e, hl, hq, hr, hg⟩
  · exact ⟨[], h1, h2, h3.symm, (fun d hd => absurd hd (by simp)), .inl h3⟩
  · exact ⟨D, h1, h2, hl, fun d hd => (hq d hd).1, .inr ⟨g, o, e, hr, hg⟩⟩
end Go.Proofs.YtgbajagacmfcmaaGreatDoor
/- Plain facts: an address's prefixes, longest first, looked for by halves. -/
namespace Go.Proofs.YtgbajagacmfcmaaGreatDoor
open Go.RowKit
set_option linter.unusedVariables false
set_option maxRecDepth 20000

section
variable {es : List Ent} {f : Int} {us : List Nat}
theorem has_mask {e : Ent} (hg : GoodP e.f e.b e.n) (hu : us.length = 16) : hasB e.f e.b e.n f us = true ↔ (e.n ≤ bitsN f ∧ isEnt f (withL (bitsN f) us e.n 0) (e.n : Int) e = true) := by
  rw [← has_same hg hu]
  unfold hasR isEnt
  rw [decide_eq_true_iff, decide_eq_true_iff]
  have hm : maskN f (e.n : Int) = min e.n (bitsN f) := by unfold maskN; simp
  constructor
  · rintro ⟨h1, h2, h3⟩
    rw [hm] at h2 h3
    have hle : e.n ≤ bitsN f := by omega
    rw [Nat.min_eq_left hle] at h2
    exact ⟨hle, h1, h2, rfl⟩
  · rintro ⟨hle, h1, h2, _⟩
    rw [hm, Nat.min_eq_left hle]
    exact ⟨h1, h2, rfl⟩
theorem mask_lt {b c : Nat} (h : b < c) (hc : c ≤ bitsN f) : cmpP f (withL (bitsN f) us b 0) (b : Int) f (withL (bitsN f) us c 0) (c : Int) < 0 := by
  have hN := bitsN_le f
  have h1 : cmpL (withL (bitsN f) us b 0) (withL (bitsN f) us c 0) ≤ 0 := cmpL_bits (withL_len _ _ _ _) (withL_len _ _ _ _) (withL_lt _ _ _ _ (by decide)) (withL_lt _ _ _ _ (by decide)) (fun i hi => by
    rw [bitA_with _ _ _ _ _ (by decide) hi, bitA_with _ _ _ _ _ (by decide) hi]
    unfold withF
    split
    · split
      · omega
      · rw [if_neg (by omega)]; exact Nat.le_refl _
    · exact Nat.le_refl _)
  unfold cmpP cmpA
  rw [if_pos rfl]
  split
  · unfold sgn3; rw [if_pos (by omega)]; decide
  · omega
theorem ent_mask {b : Nat} {e : Ent} (hg : GoodP e.f e.b e.n) (hu : us.length = 16) (hb : b ≤ bitsN f) (h : isEnt f (withL (bitsN f) us b 0) (b : Int) e = true) : e.n = b ∧ hasB e.f e.b e.n f us = true := by
  have h2 := h
  unfold isEnt at h2
  obtain ⟨e1, e2, e3⟩ := of_decide_eq_true h2
  have hn : e.n = b := by omega
  refine ⟨hn, (has_mask hg hu).2 ⟨by omega, ?_⟩⟩
  rw [hn]; exact h
theorem find_none (hg : AllGood es) (hu : us.length = 16) (h : ∀ e ∈ es, ∀ b, b ≤ bitsN f → isEnt f (withL (bitsN f) us b 0) (b : Int) e = false) : findE es f us = none := by
  cases hf : findE es f us with
  | none => rfl
  | some e =>
    obtain ⟨h1, h2, _⟩ := (findE_best es f us).2 e hf
    obtain ⟨h3, h4⟩ := (has_mask (hg e h1).1 hu).1 h2
    rw [h e h1 e.n h3] at h4
    cases h4
theorem same_ent (hs : SortedE es) (hg : AllGood es) {i j : Nat} (hi : i < es.length) (hj : j < es.length) (h1 : es[i].f = es[j].f) (h2 : es[i].b = es[j].b) (h3 : es[i].n = es[j].n) : i = j := by
  have zero : cmpP es[i].f es[i].b (es[i].n : Int) es[j].f es[j].b (es[j].n : Int) = 0 := (cmpP_zero _ _ _ _ _ _ (hg _ (List.getElem_mem hi)).1.len (hg _ (List.getElem_mem hj)).1.len).2 ⟨h1, h2, by rw [h3]⟩
  rcases Nat.lt_trichotomy i j with h | h | h
  · have := hs i j hi hj h; omega
  · exact h
  · have := hs j i hj hi h
    have h4 := cmpP_neg es[i].f es[i].b (es[i].n : Int) es[j].f es[j].b (es[j].n : Int)
    omega
theorem find_at (hg : AllGood es) (hs : SortedE es) (hu : us.length = 16) {i c : Nat} (hi : i < es.length) (hc : c ≤ bitsN f) (h : isEnt f (withL (bitsN f) us c 0) (c : Int) es[i] = true)
    (hB : ∀ e ∈ es, ∀ b, c < b → b ≤ bitsN f → isEnt f (withL (bitsN f) us b 0) (b : Int) e = false) : findE es f us = some es[i] := by
  obtain ⟨hn, hh⟩ := ent_mask (hg _ (List.getElem_mem hi)).1 hu hc h
  have best := findE_best es f us
  cases hf : findE es f us with
  | none => rw [best.1 hf _ (List.getElem_mem hi)] at hh; cases hh
  | some e =>
    obtain ⟨h1, h2, h3⟩ := best.2 e hf
    have h4 := h3 _ (List.getElem_mem hi) hh
    obtain ⟨h5, h6⟩ := (has_mask (hg e h1).1 hu).1 h2
    have hen : e.n = c := by
      rcases Nat.lt_or_ge c e.n with hlt | hge
      · rw [hB e h1 e.n hlt h5] at h6; cases h6
      · omega
    rw [hen] at h6
    unfold isEnt at h h6
    obtain ⟨a1, a2, a3⟩ := of_decide_eq_true h
    obtain ⟨b1, b2, b3⟩ := of_decide_eq_true h6
    obtain ⟨j, hj, rfl⟩ := List.getElem_of_mem h1
    have := same_ent hs hg hj hi (by rw [a1, b1]) (by rw [a2, b2]) (by omega)
    subst this
    rfl
/-- What is known when the prefixes of b and more bits have been looked for, in the first m entries at last. -/
def Looked (es : List Ent) (f : Int) (us : List Nat) (m b : Nat) : Prop :=
  m ≤ es.length ∧ (∀ j (h : j < es.length), m ≤ j → ∀ c, c < b → c ≤ bitsN f → isEnt f (withL (bitsN f) us c 0) (c : Int) es[j] = false) ∧ (∀ e ∈ es, ∀ c, b ≤ c → c ≤ bitsN f → isEnt f (withL (bitsN f) us c 0) (c : Int) e = false)
theorem looked_all : Looked es f us es.length (bitsN f + 1) := ⟨Nat.le_refl _, fun j h h2 => absurd h2 (by omega), fun e _ c h h2 => absurd h (by omega)⟩
theorem looked_end (hg : AllGood es) (hu : us.length = 16) {m : Nat} (h : Looked es f us m 0) : findE es f us = none := find_none hg hu (fun e he b hb => h.2.2 e he b (Nat.zero_le _) hb)
theorem looked_yes (hg : AllGood es) (hs : SortedE es) (hu : us.length = 16) {m c i : Nat} (h : Looked es f us m (c + 1)) (hc : c ≤ bitsN f) (hp : Place (es.take m) f (withL (bitsN f) us c 0) (c : Int) i true) : ∃ hi : i < es.length, i < m ∧ findE es f us = some es[i] := by
  obtain ⟨hi, h0⟩ := hp.isAt (good_take hg m) (withL_len _ _ _ _)
  rw [List.length_take] at hi
  rw [List.getElem_take] at h0
  exact ⟨by omega, by omega, find_at hg hs hu (by omega) hc h0 (fun e he b hb hb2 => h.2.2 e he b (by omega) hb2)⟩
theorem looked_no (hg : AllGood es) (hs : SortedE es) (hu : us.length = 16) {m c i : Nat} (h : Looked es f us m (c + 1)) (hc : c ≤ bitsN f) (hp : Place (es.take m) f (withL (bitsN f) us c 0) (c : Int) i false) : i ≤ m ∧ Looked es f us i c := by
  have hlm : (es.take m).length = m := by rw [List.length_take]; have := h.1; omega
  have hle := hp.le
  rw [hlm] at hle
  have hno := hp.none (good_take hg m) (sorted_take hs m) (withL_len _ _ _ _)
  have hcc : ∀ j (hj : j < es.length), isEnt f (withL (bitsN f) us c 0) (c : Int) es[j] = false := fun j hj => by
    by_cases hjm : j < m
    · have := hno ((es.take m)[j]'(by omega)) (List.getElem_mem _)
      rw [List.getElem_take] at this
      exact this
    · exact h.2.1 j hj (by omega) c (by omega) hc
  refine ⟨hle, by have := h.1; omega, fun j hj hij b hb hb2 => ?_, fun e he b hb hb2 => ?_⟩
  · by_cases hjm : j < m
    · have h1 := hp.hi j (by omega) hij
      rw [List.getElem_take] at h1
      cases hh : isEnt f (withL (bitsN f) us b 0) (b : Int) es[j] with
      | false => rfl
      | true =>
        exfalso
        unfold isEnt at hh
        obtain ⟨e1, e2, e3⟩ := of_decide_eq_true hh
        unfold cmpE at h1
        rw [e1, e2, e3] at h1
        have := mask_lt (us := us) hb hc
        omega
    · exact h.2.1 j hj (by omega) b (by omega) hb2
  · rcases Nat.lt_or_eq_of_le hb with hlt | rfl
    · exact h.2.2 e he b hlt hb2
    · obtain ⟨j, hj, rfl⟩ := List.getElem_of_mem he
      exact hcc j hj
end
end Go.Proofs.YtgbajagacmfcmaaGreatDoor
/- A range over a function, walked with the plain laws: regions of a round; a range whose rounds all go on; one whose first round returns. -/
namespace Go.Proofs.YtgbajagacmfcmaaGreatDoor
open Go.RowKit
set_option linter.unusedVariables false
set_option maxRecDepth 20000

section
variable {P : Program} {ops : Array Oper} {Q : Exit → Act → World → Prop} {n r : Nat}
theorem rows_in {row : String} {args : Array Value} {w : World} {R : Value → World → Prop} (h : Rows P row args w R) : RowsIn (Fence.wide.inRound r) n P row args w R := fun c cs _ => by
  obtain ⟨v, w', hr, hs⟩ := h c cs
  exact ⟨v, w', hr, stepsIn_wide.2 hs⟩
theorem depth_no : (Fence.wide.inRound r).depth.isSome = true → 1 ≤ n := fun h => by cases h
/-- An operation of a round. -/
theorem op_in {o : Oper} {a : Act} {w : World} {K : Act → World → Prop} (hd : ∀ c, o.op ≠ .defer c) (hq : ¬ LetsOut Q) (h : o.wp P a w K Q ∨ (o.asks P a w ∧ LetsOut Q)) : o.wpIn (Fence.wide.inRound r) n P a w K Q := by
  rcases h with h | ⟨_, h⟩
  · refine ⟨fun _ _ => trivial, ?_⟩
    rw [show o.semAt (Fence.wide.inRound r).round a.eval = execOp a.eval o from Oper.semAt_some r _ _ hd]
    unfold Oper.wp at h
    generalize (execOp a.eval o).run P w = x at *
    cases x with
    | ok y w' =>
      cases y <;> simp only [Oper.upon, Oper.uponIn] at h ⊢ <;> first
        | exact h
        | exact ⟨depth_no, CallsIn.inRound r (callsIn_wide.2 h)⟩
        | exact ⟨depth_no, rows_in h⟩
        | exact h.elim
    | halt y w' => cases y <;> simp only [Oper.upon, Oper.uponIn] at h ⊢ <;> first | exact h | exact h.elim
  · exact absurd h hq
theorem list_in (hq : ¬ LetsOut Q) : ∀ (l : List Oper) (a : Act) (w : World), (∀ o ∈ l, ∀ c, o.op ≠ .defer c) → wpList P ops Q l a w → wpListIn (Fence.wide.inRound r) n P ops Q l a w
  | [], _, _, _, h => h
  | o :: l, a, w, hd, h => by
    unfold wpListIn
    unfold wpList at h
    split
    · rename_i hw
      rw [if_pos hw] at h
      exact Oper.wpIn_mono (fun a w h => list_in hq l a w (fun o ho => hd o (List.mem_cons_of_mem _ ho)) h) (op_in (hd o (by simp)) hq h)
    · rename_i hw
      rw [if_neg hw] at h
      exact ⟨fun _ _ => trivial, list_in hq l _ w (fun o ho => hd o (List.mem_cons_of_mem _ ho)) h⟩
theorem any_in {md : Region.Mode} (hq : ¬ LetsOut Q) (hd : ∀ (i : Nat) (o : Oper), ops[i]? = some o → ∀ c, o.op ≠ .defer c) : ∀ (fuel : Nat) (listed : Array Bool) (a : Act) (w : World), wpAny P md ops Q fuel listed a w → wpAnyIn (Fence.wide.inRound r) n P md ops Q fuel listed a w
  | 0, _, _, _, h => h
  | fuel + 1, listed, a, w, h => by
    refine ⟨h.1, fun i hi => ?_⟩
    have h2 := h.2 i hi
    unfold wpOp at h2
    unfold wpOpIn
    cases ho : ops[i]? with
    | none => rw [ho] at h2; exact any_in hq hd fuel _ a w h2
    | some o =>
      rw [ho] at h2
      simp only at h2 ⊢
      split
      · rename_i hw
        rw [if_pos hw] at h2
        exact Oper.wpIn_mono (fun a w h => any_in hq hd fuel _ a w h) (op_in (hd i o ho) hq h2)
      · rename_i hw
        rw [if_neg hw] at h2
        exact ⟨fun _ _ => trivial, any_in hq hd fuel _ _ w h2⟩
/-- Operations none of which defers. -/
def noDefer (l : List Oper) : Bool := l.all fun o => match o.op with
  | .defer _ => false
  | _ => true
theorem noDefer_spec {l : List Oper} (h : noDefer l = true) : ∀ o ∈ l, ∀ c, o.op ≠ .defer c := fun o ho c e => by
  have := List.all_eq_true.1 h o ho
  rw [e] at this
  cases this
/-- A plain region of a round. -/
theorem round_region {id : Nat} {l : List Oper} {a : Act} {w : World} (hd : noDefer l = true) (hq : ¬ LetsOut Q) (h : wpList P l.toArray Q l a w) : (Code.region id l.toArray false).wpIn (Fence.wide.inRound r) n P Q a w :=
  wpIn_region_lit (list_in hq l a w (noDefer_spec hd) h)
/-- A region of a round that draws its order. -/
theorem round_drawn {id : Nat} {l : List Oper} {a : Act} {w : World} {S : World → Prop} (hm : P.follows .mixedOrders = true) (hd : noDefer l = true) (hq : ¬ LetsOut Q) (hS : S w.drew)
    (h : S w.drew → wpAnyH P .any l.toArray Q S l.toArray.size (Array.replicate l.toArray.size false) a w.drew) : (Code.region id l.toArray true).wpIn (Fence.wide.inRound r) n P Q a w := by
  refine wpIn_region_draw fun t => ?_
  have h1 := any_in (r := r) (n := n) hq (fun i o ho => noDefer_spec hd o (by
    have := Array.mem_of_getElem? ho
    simpa using this)) _ _ _ _ (wpAny_of_held _ _ _ _ (h hS))
  have h2 := wpAnyIn_sound _ t _ _ _ h1
  unfold Region.schedule
  rw [hm]
  exact h2
end
end Go.Proofs.YtgbajagacmfcmaaGreatDoor

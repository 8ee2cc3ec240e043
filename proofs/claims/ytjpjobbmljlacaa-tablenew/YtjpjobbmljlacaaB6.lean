/- Texts that belong together, one behind the other: TabGrow, TabPlace, CidrSet, AddrBitsOwn, AddrBit, CidrMask, CidrMayOwn, TabOwn, TabSet, TabNew, TabAll, TabHaving. -/
import Derived.Test.YtjpjobbmljlacaaB5
import Derived.Shelf.Abstract
/- Contract of slices.Insert of one entry, where there is no room; all roads joined. -/
namespace Go.Proofs.Ytjpjobbmljlacaa
open Go.RowKit
set_option linter.unusedVariables false
set_option maxRecDepth 20000

theorem zeros_len (n : Nat) : (Builtin.zeroCells (Value.agg zE).cells n).size = n * 19 := by simp [Builtin.zeroCells, Value.cells]
theorem blk_new (w : World) (cs : Array Value) (c : Nat) (h : cs.size = c) : Blk (w.alloc (.cells cs 42)) w.heap.size c := ⟨cs, by show (w.heap.push _)[w.heap.size]? = _; simp, h⟩
set_option maxRecDepth 100000 in
set_option maxHeartbeats 400000 in
theorem insert_grow (g : Nat) (es : List Ent) (i : Nat) (e : Ent) (vb vc : Nat) (w : World) (hr : w.rangeAt g 0 (flatE es)) (hgl : g < w.heap.size) (hg : AllGood es) (hle : es.length ≤ 999) (hi : i < es.length) (he : e.Good) (hv : w.rangeAt vb 0 e.L) (hvl : vb < w.heap.size) :
    Calls Try.prog 42 #[.slice (some ⟨g, 0, none⟩) es.length es.length, .int .i64 (i : Int), .slice (some ⟨vb, 0, none⟩) 1 vc] w (InsE (.slice (some ⟨g, 0, none⟩) es.length es.length) (es.take i ++ [e] ++ es.drop i) w) := by
  have hlen : (es.take i ++ [e] ++ es.drop i).length = es.length + 1 := by simp; omega
  have hgd : AllGood (es.drop i) := fun e he => hg e (List.mem_of_mem_drop he)
  have hgt : AllGood (es.take i) := fun e he => hg e (List.mem_of_mem_take he)
  have hfl : (flatE (es.drop i)).length = (es.length - i) * 19 := by rw [flatE_len _ hgd, List.length_drop]
  have hft : (flatE (es.take i)).length = i * 19 := by rw [flatE_len _ hgt, List.length_take, Nat.min_eq_left (by omega)]
  have heL : e.L.length = 19 := Ent.L_len e he.1.len
  have heO : ∀ u ∈ e.L, u.oneCell' = true := by have := flatE_one [e] (good_single he); rw [flatE_single] at this; exact this
  obtain ⟨i0, hi0, hz0, hz1, hz2⟩ := info_parts infoT
  obtain ⟨C, hC⟩ : ∃ C, grownCap w (es.length + 1) es.length 42 = C := ⟨_, rfl⟩
  have hCg : es.length + 1 ≤ C := by rw [← hC]; exact grownCap_ge w _ _ _
  have hCm : C ≤ maxLen := by rw [← hC]; exact grownCap_le_maxLen w _ _ _ (by unfold maxLen; omega)
  obtain ⟨ROW, hROW⟩ : ∃ ROW : Array Value, (flatE (es.take i)).toArray ++ Builtin.zeroCells (Value.agg zE).cells (es.length + 1 - i) ++ Builtin.zeroCells (Value.agg zE).cells (C - (es.length + 1)) = ROW := ⟨_, rfl⟩
  have hRS : ROW.size = C * 19 := by rw [← hROW, Array.size_append, Array.size_append, zeros_len, zeros_len, List.size_toArray, hft]; omega
  have hRT : ∀ j u, (flatE (es.take i))[j]? = some u → ROW[j]? = some u := fun j u hu => by
    have hj : j < (flatE (es.take i)).length := (List.getElem?_eq_some_iff.1 hu).1
    rw [← hROW, Array.getElem?_append_left (by rw [Array.size_append, List.size_toArray]; omega), Array.getElem?_append_left (by rw [List.size_toArray]; exact hj)]
    simpa using hu
  have HAP : ∀ ty, Hid ((Builtin.append_ #[57, 3] ty #[.slice (some ⟨g, 0, none⟩) i es.length, .int .i64 ((es.length : Int) + 1 - (i : Int))]).run Try.prog w = .ok (.slice (some ⟨w.heap.size, 0, none⟩) (es.length + 1) C) (w.drew.alloc (.cells ROW 42))) := fun ty => Lib.hid (by
    have hold : (Builtin.firstCells i0.size i (.slice (some ⟨g, 0, none⟩) i es.length)).run Try.prog w.drew = .ok (flatE (es.take i)).toArray w.drew := by
      rw [hz1]
      exact run_firstCells_some w.drew 19 i ⟨g, 0, none⟩ i es.length (flatE (es.take i)) (by rw [hft]) (fun j v hj => by rw [Addr.add_mid]; exact cell_take hr i j v hj)
    have hk : (es.length : Int) + 1 - (i : Int) = ((es.length + 1 - i : Nat) : Int) := by omega
    have h := Lib.run_append_grow_zeros w 57 3 ty 42 i0 _ .i64 .i64 Try.underlying57 Try.underlying3 hi0 hz0 (some ⟨g, 0, none⟩) i es.length (flatE (es.take i)) hold (es.length + 1 - i) (by omega) (by rw [hz1]; decide) (by omega) (by omega) (by rw [hz2]; omega) (by rw [hz2, show i + (es.length + 1 - i) = es.length + 1 by omega]; exact growslice_fits (by omega) (by omega))
    rw [show i + (es.length + 1 - i) = es.length + 1 by omega, hC, hROW] at h
    rw [hk]
    exact h)
  have HB1 : Blk (w.drew.alloc (.cells ROW 42)) w.heap.size (C * 19) := blk_new w.drew ROW _ hRS
  have HBL : Below w.heap.size w (w.drew.alloc (.cells ROW 42)) := (Below.refl _ _).drew.alloc (Nat.le_refl _) _
  have hR1 : (w.drew.alloc (.cells ROW 42)).rangeAt w.heap.size 0 (flatE (es.take i)) := fun j u hu => by
    rw [Nat.zero_add, cell_of_row _ _ j ROW 42 (0, 0) (by show (w.heap.push _)[w.heap.size]? = _; simp)]
    exact hRT j u hu
  have hR2 := range_belowB hr HBL hgl
  have hR3 := range_belowB hv HBL hvl
  generalize w.drew.alloc (.cells ROW 42) = W1 at *
  generalize hH : w.heap.size = H at *
  have HC1 : ∀ ty dl dc, Hid (1 = Nat.min 1 dl → (Builtin.copy_ #[57, 57] ty #[.slice (some ⟨H, i * 19, none⟩) dl dc, .slice (some ⟨vb, 0, none⟩) 1 vc]).run Try.prog W1 = .ok (goInt ((1 : Nat) : Int)) (W1.setCells H (i * 19) e.L)) := fun ty dl dc => Lib.hid (fun hmin =>
    copyT W1 ty H (i * 19) dl dc ⟨vb, 0, none⟩ 1 vc 1 e.L hmin (by rw [heL]) (fun j v hj => by rw [Addr.add_mid]; exact hR3 j v hj) (HB1.there _ _ (by omega)) heO)
  have HC2 : ∀ ty dl dc sl sc, Hid (es.length - i = Nat.min sl dl → (Builtin.copy_ #[57, 57] ty #[.slice (some ⟨H, (i + 1) * 19, none⟩) dl dc, .slice (some ⟨g, i * 19, none⟩) sl sc]).run Try.prog (W1.setCells H (i * 19) e.L).drew = .ok (goInt ((es.length - i : Nat) : Int)) ((W1.setCells H (i * 19) e.L).drew.setCells H ((i + 1) * 19) (flatE (es.drop i)))) := fun ty dl dc sl sc => Lib.hid (fun hmin =>
    copyT (W1.setCells H (i * 19) e.L).drew ty H ((i + 1) * 19) dl dc ⟨g, i * 19, none⟩ sl sc (es.length - i) (flatE (es.drop i)) hmin hfl (fun j v hj => by rw [Addr.add_mid]; exact World.rangeAt_setCells_apart (cell_drop hR2 hg i (by omega)) H _ _ (.inl (by omega)) j v hj) (Blk.there (Blk.setCells H _ _ _ HB1) _ _ (by omega)) (flatE_one _ hgd))
  have HFIN : Hid (RowT ((W1.setCells H (i * 19) e.L).drew.setCells H ((i + 1) * 19) (flatE (es.drop i))) 0 (.slice (some ⟨H, 0, none⟩) (es.length + 1) C) (es.take i ++ [e] ++ es.drop i)) := Lib.hid (by
    have hbD : Blk (W1.setCells H (i * 19) e.L).drew H (C * 19) := Blk.setCells H _ _ _ HB1
    have := rowT_of (w := (W1.setCells H (i * 19) e.L).drew.setCells H ((i + 1) * 19) (flatE (es.drop i))) (g := H) (cap := C) (es := es.take i ++ [e] ++ es.drop i) (Blk.setCells H _ _ _ hbD) (by omega) hCm ?_ (fun x hx => by
      rcases List.mem_append.1 hx with hx | hx
      · rcases List.mem_append.1 hx with hx | hx
        · exact hgt x hx
        · rw [List.mem_singleton.1 hx]; exact he
      · exact hgd x hx) (by omega)
    · rw [hlen] at this; exact this
    · have h2 := World.rangeAt_setCells_same W1 H (i * 19) e.L (HB1.there _ _ (by rw [heL]; omega))
      have h3 := World.rangeAt_setCells_apart hR1 H (i * 19) e.L (.inr (.inl (by rw [hft]; omega)))
      have h4 := World.rangeAt_setCells_apart (w := (W1.setCells H (i * 19) e.L).drew) h3 H ((i + 1) * 19) (flatE (es.drop i)) (.inr (.inl (by rw [hft]; omega)))
      have h5 := World.rangeAt_setCells_apart (w := (W1.setCells H (i * 19) e.L).drew) h2 H ((i + 1) * 19) (flatE (es.drop i)) (.inr (.inl (by rw [heL]; omega)))
      have h6 := World.rangeAt_setCells_same (W1.setCells H (i * 19) e.L).drew H ((i + 1) * 19) (flatE (es.drop i)) (hbD.there _ _ (by rw [hfl]; omega))
      rw [flatE_append, flatE_append, flatE_single]
      refine range_append (range_append h4 (by rw [hft, Nat.zero_add]; exact h5)) ?_
      rw [List.length_append, hft, heL, show 0 + (i * 19 + 19) = (i + 1) * 19 by omega]
      exact h6)
  have HFT : Hid (Foot [g] [H] w ((W1.setCells H (i * 19) e.L).drew.setCells H ((i + 1) * 19) (flatE (es.drop i)))) := Lib.hid (by
    have hb : Below H w ((W1.setCells H (i * 19) e.L).drew.setCells H ((i + 1) * 19) (flatE (es.drop i))) := below_cells (Nat.le_refl _) _ _ _ ((below_cells (Nat.le_refl _) _ _ _ HBL).drew)
    exact ⟨hb.os, hb.tape, hb.output, hb.size, fun k hk _ => hb.block k (by omega), fun k hk => .inr (by simp at hk; omega)⟩)
  generalize flatE (es.drop i) = ds at *
  generalize (es.take i ++ [e] ++ es.drop i) = R at *
  generalize e.L = el at *
  clear hr hg hgd hgt hft hlen hv he HB1 HBL hR1 hR2 hR3 hRT hRS hROW hi0 hz0 hz1 hz2 hC
  generalize es.length = N at *
  have hmx : maxLen ≤ 9223372036854775807 := by unfold maxLen; omega
  have hd1 : ((i : Int) == (N : Int)) = false := by simp; omega
  have hd2 : decide ((N : Int) < (N : Int) + 1) = true := by simp; omega
  have hb1 : (i : Int) ≤ (N : Int) := by omega
  have hb3 : (i : Int) + 1 ≤ (N : Int) + 1 := by omega
  have hb4 : (0 : Int) ≤ (i : Int) + 1 := by omega
  have hb6 : (i : Int) ≤ (N : Int) + 1 := by omega
  have ht1 : ((i : Int) + 1).toNat = i + 1 := by omega
  have hw1 : IntKind.i64.wrap ((i : Int) + 1) = (i : Int) + 1 := by rw [IntKind.wrap_i64]; omega
  have hw2 : IntKind.i64.wrap ((N : Int) + 1) = (N : Int) + 1 := by rw [IntKind.wrap_i64]; omega
  have hw3 : IntKind.i64.wrap ((N : Int) + 1 - (i : Int)) = (N : Int) + 1 - (i : Int) := by rw [IntKind.wrap_i64]; omega
  have hc1 : ¬ (N = i) := by omega
  have hc2 : ¬ (C = i + 1) := by omega
  have hc3 : ¬ (C = i) := by omega
  go_enter Try.func42, Try.ntmps42
  go_upto_region 9 with fail
  go_upto_region 10 with (at_builtin; refine Lib.wpList_append_run _ rfl _ _ 57 3 rfl (.slice (some ⟨g, 0, none⟩) i N) (.int .i64 ((N : Int) + 1 - (i : Int))) rfl rfl _ _ (HAP _).out ?_)
  clear HAP
  go_upto_region 11 with (refine copy_stepT _ rfl _ _ rfl (.slice (some ⟨H, i * 19, none⟩) (N + 1 - i) (C - i)) (.slice (some ⟨vb, 0, none⟩) 1 vc) rfl rfl ((HC1 _ _ _).out (by simp only [Nat.min_def]; split <;> omega)) ?_)
  clear HC1
  generalize hV : W1.setCells H (i * 19) el = V at *
  refine wp_region_noPanic ?_
  refine wp_region_held_drew (S := fun _ => True) (by kernel_rfl) trivial (fun hHeld => ?_)
  refine wpAnyH_take (i := 0) (v := ?_) rfl (by kernel_rfl) (by kernel_rfl) (by kernel_rfl) (fun _ _ _ h => h) (Or.inl ⟨by rfl, ?_⟩) (by assumption) ?_
  rotate_left
  · (intro w hSw; go_simp; try (with_reducible rfl))
  try simp only [Act.put, List.getElem_toArray, List.getElem_cons_zero, List.setIfInBounds_toArray, List.set_cons_zero, List.set_cons_succ]
  refine wpAnyH_take (i := 1) (v := ?_) rfl (by kernel_rfl) (by kernel_rfl) (by kernel_rfl) (fun _ _ _ h => h) (Or.inl ⟨by rfl, ?_⟩) (by assumption) ?_
  rotate_left
  · (intro w hSw; go_simp; try (with_reducible rfl))
  try simp only [Act.put, List.getElem_toArray, List.getElem_cons_zero, List.getElem_cons_succ, List.setIfInBounds_toArray, List.set_cons_zero, List.set_cons_succ]
  refine wpAnyH_take (i := 2) (v := ?_) rfl (by kernel_rfl) (by kernel_rfl) (by kernel_rfl) (fun _ _ _ h => h) (Or.inl ⟨by rfl, ?_⟩) (by assumption) ?_
  rotate_left
  · (intro w hSw; go_simp; try (with_reducible rfl))
  try simp only [Act.put, List.getElem_toArray, List.getElem_cons_zero, List.getElem_cons_succ, List.setIfInBounds_toArray, List.set_cons_zero, List.set_cons_succ]
  refine wpAnyH_take (i := 3) (v := ?_) rfl (by kernel_rfl) (by kernel_rfl) (by kernel_rfl) (fun _ _ _ h => h) (Or.inl ⟨by rfl, ?_⟩) (by assumption) ?_
  rotate_left
  · (intro w hSw; go_simp; try (with_reducible rfl))
  try simp only [Act.put, List.getElem_toArray, List.getElem_cons_zero, List.getElem_cons_succ, List.setIfInBounds_toArray, List.set_cons_zero, List.set_cons_succ]
  refine wpAnyH_take (i := 4) (v := ?_) rfl (by kernel_rfl) (by kernel_rfl) (by kernel_rfl) (fun _ _ _ h => h) (Or.inl ⟨by rfl, ?_⟩) (by assumption) ?_
  rotate_left
  · (intro w hSw; go_simp; try (with_reducible rfl))
  try simp only [Act.put, List.getElem_toArray, List.getElem_cons_zero, List.getElem_cons_succ, List.setIfInBounds_toArray, List.set_cons_zero, List.set_cons_succ]
  refine wpAnyH_take (i := 5) (v := ?_) rfl (by kernel_rfl) (by kernel_rfl) (by kernel_rfl) (fun _ _ _ h => h) (Or.inl ⟨by rfl, ?_⟩) (by assumption) ?_
  rotate_left
  · (intro w hSw; go_simp; try (with_reducible rfl))
  try simp only [Act.put, List.getElem_toArray, List.getElem_cons_zero, List.getElem_cons_succ, List.setIfInBounds_toArray, List.set_cons_zero, List.set_cons_succ]
  refine wpAnyH_take (i := 6) (v := ?_) rfl (by kernel_rfl) (by kernel_rfl) (by kernel_rfl) (fun _ _ _ h => h) (Or.inl ⟨by rfl, ?_⟩) (by assumption) ?_
  rotate_left
  · (intro w hSw; go_simp; try (with_reducible rfl))
  try simp only [Act.put, List.getElem_toArray, List.getElem_cons_zero, List.getElem_cons_succ, List.setIfInBounds_toArray, List.set_cons_zero, List.set_cons_succ]
  refine wpAnyH_take (i := 7) (v := ?_) rfl (by kernel_rfl) (by kernel_rfl) (by kernel_rfl) (fun _ _ _ h => h) (Or.inl ⟨by rfl, ?_⟩) (by assumption) ?_
  rotate_left
  · (intro w hSw; go_simp; try (with_reducible rfl))
  try simp only [Act.put, List.getElem_toArray, List.getElem_cons_zero, List.getElem_cons_succ, List.setIfInBounds_toArray, List.set_cons_zero, List.set_cons_succ]
  refine wpAnyH_ready (rs := [8]) (by kernel_rfl) (by simp) ?_
  refine AllReadyH.one rfl rfl (fun K2 hK2 => ?_)
  refine wp_copyT _ _ _ rfl _ _ rfl rfl ((HC2 _ _ _ _ _).out (by simp only [Nat.min_def]; split <;> omega)) ?_
  refine hK2.out _ _ trivial (fun _ => ?_)
  clear hK2 K2 HC2 hV
  try simp only [Act.put, List.getElem_toArray, List.getElem_cons_zero, List.getElem_cons_succ, List.setIfInBounds_toArray, List.set_cons_zero, List.set_cons_succ]
  refine wpAnyH_done (by kernel_rfl) ?_ _
  refine NoPanic.normal ?_
  generalize V.drew.setCells H ((i + 1) * 19) ds = V2 at *
  go_wp2_with fail
  go_ret
  exact ⟨_, rfl, HFIN.out, HFT.out⟩
/-- An entry put in at its place. -/
theorem insert_any (v : Value) (es : List Ent) (i : Nat) (e : Ent) (vb vc : Nat) (w : World) (hR : RowT w 0 v es) (hi : i ≤ es.length) (he : e.Good) (hle : es.length ≤ 999) (hv : w.rangeAt vb 0 e.L) (hvb : Blk w vb 19) (hne : ∀ g, v.ownBlock = some g → vb ≠ g) :
    Calls Try.prog 42 #[v, .int .i64 (i : Int), .slice (some ⟨vb, 0, none⟩) 1 vc] w (InsE v (es.take i ++ [e] ++ es.drop i) w) := by
  by_cases hil : i < es.length
  · rcases hR.blk with ⟨rfl, rfl⟩ | ⟨g, cap, rfl, _, hb, hc, hm, hr⟩
    · exact absurd hil (by simp)
    · by_cases hcap : es.length + 1 ≤ cap
      · exact insert_shift g cap es i e vb vc w hb hcap hm hr hR.2.1 hle hil he hv hvb (hne g rfl)
      · obtain rfl : cap = es.length := by omega
        exact insert_grow g es i e vb vc w hr hb.lt hR.2.1 hle hil he hv hvb.lt
  · obtain rfl : i = es.length := by omega
    rw [List.take_length, List.drop_length, List.append_nil]
    exact insert_end v es e vb vc w hR he hle hv
end Go.Proofs.Ytjpjobbmljlacaa
/- Contract of Table.place; Get, Len and Steps of the table. -/
namespace Go.Proofs.Ytjpjobbmljlacaa
open Go.RowKit
set_option linter.unusedVariables false
set_option maxRecDepth 20000

theorem Foot.none {w w' : World} (h : Foot [] [] w w') : Below w.heap.size w w' := h.below (fun k hk => by cases hk) (Nat.le_refl _)
theorem compare_cmps (f : Int) (bs : List Nat) (n : Int) (es : List Ent) (hg : AllGood es) (h16 : bs.length = 16) (hlt : ∀ y ∈ bs, y < 256) : Cmps 52 #[] f bs n es [] (fun _ _ => True) := by
  intro c W e hc he _
  have hG := hg e he
  have := tabCompare_any e.f e.b (e.n : Int) e.v f bs n W hG.1.len h16 hG.1.lt hlt
  simp only [Array.empty_append]
  exact this.mono fun x w' ⟨h1, h2⟩ => ⟨h1, trivial, Foot.ofBelow [] h2⟩
set_option maxRecDepth 100000 in
set_option maxHeartbeats 2000000 in
theorem place_any (G : Nat) (v : Value) (st : Int) (es : List Ent) (f : Int) (bs : List Nat) (n : Int) (w : World) (hT : Tab w G v st) (hR : RowT w 0 v es) (hs : SortedE es) (h16 : bs.length = 16) (hlt : ∀ y ∈ bs, y < 256) :
    Calls Try.prog 41 #[.pointer (some ⟨G, 0, none⟩), prefV f bs n] w fun e w' => ∃ (i : Nat) (b : Bool), e = .returned (.tuple #[.int .i64 (i : Int), .bool b]) ∧ Place es f bs n i b ∧ Below w.heap.size w w' := by
  have hgood := hR.2.1
  have hle := hR.2.2
  have H16 := Lib.hid h16
  have HS : ∀ W, Hid (RowT W 0 v es → Calls Try.prog 46 #[v, prefV f bs n, .func (.func 52) #[] #[]] W fun e w' => ∃ (i : Nat) (b : Bool), e = .returned (.tuple #[.int .i64 (i : Int), .bool b]) ∧ Place es f bs n i b ∧ Below W.heap.size W w') := fun W => Lib.hid (fun hr => by
    rcases hr.form with ⟨rfl, rfl⟩ | ⟨g, cap, rfl, _, hg, hc, _, hrg⟩
    · exact (search_nil _ f bs n W h16).mono fun e w' ⟨h1, h2⟩ => ⟨0, false, h1, place_nil f bs n, h2⟩
    · exact (search_any 52 #[] (enters_of Try.func52 (by kernel_rfl) rfl) f bs n g cap es [] (fun _ _ => True) W hrg hg (by simp) (by simp) hle hgood hs h16 (compare_cmps f bs n es hgood h16 hlt) (fun _ _ _ _ _ => trivial) trivial).mono fun e w' ⟨i, b, c, h1, h2, _, _, h3⟩ => ⟨i, b, h1, h2, h3.none⟩)
  obtain ⟨cs, ecs, HP, HB⟩ := pref_boxed f bs n w h16
  rw [ecs]
  have HT := Lib.hid (hT.below HB.out)
  have HR := Lib.hid (hR.below HB.out)
  clear ecs h16 hlt hT hR hs
  go_enter Try.func41, Try.ntmps41
  go_upto_region 1 with fail
  generalize (w.alloc (.cells cs 32)) = W at *
  obtain ⟨L, hL⟩ : ∃ L, [(G, 0, [v]), (w.heap.size, 0, prefL f bs n)] = L := ⟨_, rfl⟩
  have HK : Hid (HeldL L W.drew) := Lib.hid (by
    rw [← hL]; intro x hx
    rcases List.mem_cons.1 hx with rfl | hx
    · intro j u hu
      cases j with
      | zero => rw [Nat.add_zero]; rw [← show v = u from by simpa using hu]; exact HT.out.row
      | succ j => simp at hu
    · rw [List.mem_singleton.1 hx]; exact HP.out.range)
  have MP : Hid (InL L w.heap.size 0 (prefL f bs n)) := Lib.hid (fun W h => h.get (by rw [← hL]; simp))
  have C0 : Hid (∀ w, HeldL L w → w.cell? ⟨G, 0, none⟩ = some v) := Lib.hid (fun w h => (h.get (b := G) (o := 0) (cs := [v]) (by rw [← hL]; simp)) 0 v rfl)
  have HKN : Hid (∀ W', Below W.drew.heap.size W.drew W' → HeldL L W') := Lib.hid (fun W' hb => by
    rw [← hL]; intro x hx
    have hK := HK.out
    rw [← hL] at hK
    rcases List.mem_cons.1 hx with rfl | hx
    · exact range_belowB (hK _ (by simp)) hb HT.out.lt
    · rw [List.mem_singleton.1 hx]; exact range_belowB (w := W.drew) HP.out.range hb HP.out.addr.lt)
  have HRD := Lib.hid ((HS W.drew).out (HR.out.below (Below.refl _ _).drew))
  clear hL HS HR HP
  refine wp_region_noPanic ?_
  refine wp_region_held_drew (S := HeldL L) (by kernel_rfl) HK.out (fun hHeld => ?_)
  clear HK
  refine wpAnyH_take (i := 0) (v := ?_) rfl (by kernel_rfl) (by kernel_rfl) (by kernel_rfl) (fun _ _ _ h => h) (Or.inl ⟨by rfl, ?_⟩) (by assumption) ?_
  rotate_left
  · (intro w hSw; go_simp; try (with_reducible rfl))
  try simp only [Act.put, List.getElem_toArray, List.getElem_cons_zero, List.setIfInBounds_toArray, List.set_cons_zero, List.set_cons_succ]
  refine wpAnyH_take (i := 1) (v := ?_) rfl (by kernel_rfl) (by kernel_rfl) (by kernel_rfl) (fun _ _ _ h => h) (Or.inl ⟨by rfl, ?_⟩) (by assumption) ?_
  rotate_left
  · (intro w hSw; go_simp; try (with_reducible rfl))
  try simp only [Act.put, List.getElem_toArray, List.getElem_cons_zero, List.getElem_cons_succ, List.setIfInBounds_toArray, List.set_cons_zero, List.set_cons_succ]
  refine wpAnyH_take (i := 2) (v := ?_) rfl (by kernel_rfl) (by kernel_rfl) (by kernel_rfl) (fun _ _ _ h => h) (Or.inl ⟨by rfl, ?_⟩) (by assumption) ?_
  rotate_left
  · (intro w hSw; go_simp; try (with_reducible rfl))
  try simp only [Act.put, List.getElem_toArray, List.getElem_cons_zero, List.getElem_cons_succ, List.setIfInBounds_toArray, List.set_cons_zero, List.set_cons_succ]
  refine wpAnyH_take (i := 3) (v := ?_) rfl (by kernel_rfl) (by kernel_rfl) (by kernel_rfl) (fun _ _ _ h => h) (Or.inl ⟨by rfl, ?_⟩) (by assumption) ?_
  rotate_left
  · (intro w hSw; have hc0 := C0.out w hSw; go_simp; try (with_reducible rfl))
  try simp only [Act.put, List.getElem_toArray, List.getElem_cons_zero, List.getElem_cons_succ, List.setIfInBounds_toArray, List.set_cons_zero, List.set_cons_succ]
  refine wpAnyH_take (i := 4) rfl (by kernel_rfl) (by kernel_rfl) (by kernel_rfl) (fun _ _ _ h => h) (yields_pref_l H16 MP (by rfl) _ rfl rfl) (by assumption) ?_
  try simp only [Act.put, List.getElem_toArray, List.getElem_cons_zero, List.getElem_cons_succ, List.setIfInBounds_toArray, List.set_cons_zero, List.set_cons_succ]
  refine wpAnyH_ready (rs := [5]) (by kernel_rfl) (by simp) ?_
  refine AllReadyH.cons rfl (fun K hK => ?_) AllReadyH.nil
  go_simp
  refine HRD.out.mono ?_
  rintro e w6 ⟨i, b, rfl, hp, hb6⟩
  have HPL := Lib.hid hp
  have HB6 := Lib.hid (chain HB.out (chain (Below.refl _ _).drew hb6))
  have hS6 := HKN.out w6 hb6
  clear hp hb6 HRD HKN
  go_wp2_with fail
  refine hK.out _ _ hS6 (fun hHeld6 => ?_)
  clear hK K
  try simp only [Act.put, List.getElem_toArray, List.getElem_cons_zero, List.getElem_cons_succ, List.setIfInBounds_toArray, List.set_cons_zero, List.set_cons_succ]
  refine wpAnyH_take (i := 6) (v := ?_) rfl (by kernel_rfl) (by kernel_rfl) (by kernel_rfl) (fun _ _ _ h => h) (Or.inl ⟨by rfl, ?_⟩) (by assumption) ?_
  rotate_left
  · (intro w hSw; go_simp; try (with_reducible rfl))
  try simp only [Act.put, List.getElem_toArray, List.getElem_cons_zero, List.getElem_cons_succ, List.setIfInBounds_toArray, List.set_cons_zero, List.set_cons_succ]
  refine wpAnyH_take (i := 7) (v := ?_) rfl (by kernel_rfl) (by kernel_rfl) (by kernel_rfl) (fun _ _ _ h => h) (Or.inl ⟨by rfl, ?_⟩) (by assumption) ?_
  rotate_left
  · (intro w hSw; go_simp; try (with_reducible rfl))
  try simp only [Act.put, List.getElem_toArray, List.getElem_cons_zero, List.getElem_cons_succ, List.setIfInBounds_toArray, List.set_cons_zero, List.set_cons_succ]
  refine wpAnyH_take (i := 8) (v := ?_) rfl (by kernel_rfl) (by kernel_rfl) (by kernel_rfl) (fun _ _ _ h => h) (Or.inl ⟨by rfl, ?_⟩) (by assumption) ?_
  rotate_left
  · (intro w hSw; go_simp; try (with_reducible rfl))
  try simp only [Act.put, List.getElem_toArray, List.getElem_cons_zero, List.getElem_cons_succ, List.setIfInBounds_toArray, List.set_cons_zero, List.set_cons_succ]
  refine wpAnyH_take (i := 9) (v := ?_) rfl (by kernel_rfl) (by kernel_rfl) (by kernel_rfl) (fun _ _ _ h => h) (Or.inl ⟨by rfl, ?_⟩) (by assumption) ?_
  rotate_left
  · (intro w hSw; go_simp; try (with_reducible rfl))
  try simp only [Act.put, List.getElem_toArray, List.getElem_cons_zero, List.getElem_cons_succ, List.setIfInBounds_toArray, List.set_cons_zero, List.set_cons_succ]
  refine wpAnyH_done (by kernel_rfl) ?_ _
  refine NoPanic.normal ?_
  go_wp2_with fail
  go_ret2
  exact ⟨i, b, rfl, HPL.out, HB6.out⟩
theorem tabGet_any (G : Nat) (v : Value) (st : Int) (es : List Ent) (f : Int) (bs : List Nat) (n : Int) (w : World) (hT : Tab w G v st) (hR : RowT w 0 v es) (hs : SortedE es) (h16 : bs.length = 16) (hlt : ∀ y ∈ bs, y < 256) :
    Calls Try.prog 27 #[.pointer (some ⟨G, 0, none⟩), prefV f bs n] w fun e w' => e = .returned (getRet (getE es f bs n)) ∧ Below w.heap.size w w' := by
  have HPL := fun W (h : Below w.heap.size w W) => Lib.hid (place_any G v st es f bs n W (hT.below h) (hR.below h) hs h16 hlt)
  have HGN : Hid (∀ i, Place es f bs n i false → getE es f bs n = none) := Lib.hid (fun i hp => get_none hp hR.2.1 hs h16)
  have HGA : Hid (∀ i, Place es f bs n i true → ∃ h : i < es.length, getE es f bs n = some es[i].v) := Lib.hid (fun i hp => by
    obtain ⟨h, _⟩ := hp.is rfl
    exact ⟨h, get_at hp hR.2.1 hs h16 h⟩)
  have HTT := Lib.hid (fun W (h : Below w.heap.size w W) => hT.below h)
  have HRR := Lib.hid (fun W (h : Below w.heap.size w W) => hR.below h)
  have HG := Lib.hid hR.2.1
  have hle := hR.2.2
  generalize getE es f bs n = R at *
  obtain ⟨cs, ecs, HP, HB⟩ := pref_boxed f bs n w h16
  rw [ecs]
  clear ecs h16 hlt hT hR hs
  go_enter Try.func27, Try.ntmps27
  go_upto_region 1 with fail
  generalize (w.alloc (.cells cs 32)) = W at *
  go_wp2_with (refine load_pref_g HP _ rfl rfl rfl ?_)
  refine (HPL _ HB.out).out.mono ?_
  rintro e w1 ⟨i, b, rfl, hp, hb1⟩
  have HB1 := Lib.hid (chain HB.out hb1)
  have HT1 := Lib.hid (HTT.out _ HB1.out)
  have HR1 := Lib.hid (HRR.out _ HB1.out)
  clear HP HB hb1 HTT HRR HPL
  cases b with
  | false =>
    have HE := Lib.hid (HGN.out i hp)
    clear HGN HGA hp
    go_wp2_with fail
    go_ret2
    exact ⟨by rw [HE.out]; rfl, HB1.out⟩
  | true =>
    have HE := Lib.hid (HGA.out i hp)
    clear HGN HGA hp
    obtain ⟨hil, hE⟩ := HE.out
    have HEE := Lib.hid hE
    clear HE hE
    rcases HR1.out.form with ⟨rfl, rfl⟩ | ⟨g, cap, rfl, _, hg, hc, hmx, hrg⟩
    · exact absurd hil (by simp)
    · have hcell := HT1.out.row
      have hval := cell_val (range_ent hrg HG.out i hil) (HG.out _ (List.getElem_mem hil)).1.len
      have hb1 : (0 : Int) ≤ (i : Int) := by omega
      have hb2 : (i : Int) < (es.length : Int) := by omega
      have hb3 : i < es.length := hil
      obtain ⟨y, hy⟩ : ∃ y, es[i] = y := ⟨_, rfl⟩
      rw [hy] at hval HEE
      obtain ⟨N, hN⟩ : ∃ N, es.length = N := ⟨_, rfl⟩
      rw [hN] at hcell hb2 hb3
      clear hy hN hrg HR1 hc hil
      go_wp2_with fail
      go_ret2
      exact ⟨by rw [HEE.out]; rfl, HB1.out⟩
theorem tabLen_any (G : Nat) (v : Value) (st : Int) (es : List Ent) (w : World) (hT : Tab w G v st) (hR : RowT w 0 v es) :
    Calls Try.prog 24 #[.pointer (some ⟨G, 0, none⟩)] w fun e w' => e = .returned (.int .i64 (es.length : Int)) ∧ w' = w := by
  have hc := hT.row
  rcases hR.form with ⟨rfl, rfl⟩ | ⟨g, cap, rfl, _⟩
  · go_enter Try.func24, Try.ntmps24
    go_wp2_with fail
    go_ret
    exact ⟨rfl, rfl⟩
  · go_enter Try.func24, Try.ntmps24
    go_wp2_with fail
    go_ret
    exact ⟨rfl, rfl⟩
theorem tabSteps_any (G : Nat) (v : Value) (st : Int) (w : World) (hT : Tab w G v st) :
    Calls Try.prog 19 #[.pointer (some ⟨G, 0, none⟩)] w fun e w' => e = .returned (.int .i64 st) ∧ w' = w := by
  have hc := hT.steps
  go_enter Try.func19, Try.ntmps19
  go_wp2_with fail
  go_ret
  exact ⟨rfl, rfl⟩
end Go.Proofs.Ytjpjobbmljlacaa
/- Contract of cidr.withBit. -/
namespace Go.Proofs.Ytjpjobbmljlacaa
open Go.RowKit
set_option linter.unusedVariables false
set_option maxRecDepth 20000

theorem or_val_all : ∀ x : Fin 256, ∀ r : Fin 8, bits .or .u8 ((x.val : Nat) : Int) (128 / 2 ^ r.val) = ((x.val ||| 2 ^ (7 - r.val) : Nat) : Int) := by decide +kernel
theorem or_val (x r : Nat) (hx : x < 256) (hr : r ≤ 7) : bits .or .u8 (x : Int) (128 / 2 ^ r) = ((x ||| 2 ^ (7 - r) : Nat) : Int) := or_val_all ⟨x, hx⟩ ⟨r, by omega⟩
set_option maxRecDepth 100000 in
set_option maxHeartbeats 1000000 in
theorem withBit_any (f : Int) (bs : List Nat) (i : Nat) (w : World) (h16 : bs.length = 16) (hlt : ∀ x ∈ bs, x < 256) (hi : i < 128) :
    Calls Try.prog 56 #[addrV f bs, .int .i64 (i : Int)] w fun e w' => e = .returned (addrV f (setB bs i)) ∧ Below w.heap.size w w' := by
  have HLS : Hid ((setB bs i).length = 16) := Lib.hid (by rw [setB_len, h16])
  obtain ⟨cs, ecs, HA, HB⟩ := addr_boxed f bs w h16
  have HR := addr_zeroed (w.alloc (.cells cs 30))
  rw [heap_alloc] at HR
  have HRH := Lib.hid HR
  have HA1 := Lib.hid (HA.out.alloc (.cells zA 30))
  have HB1 := Lib.hid (HB.out.alloc HB.out.size (.cells zA 30))
  rw [ecs]
  have hq16 : i / 8 < 16 := by omega
  have hcell := HA1.out.cells (i / 8) hq16
  have hliv := HA1.out.live (1 + i / 8) (by omega)
  have HSV := fun v => Lib.hid (HA1.out.set (i := i / 8) hq16 v)
  have hx := getD_lt hlt (i / 8)
  have HE : Hid (setB bs i = bs.set (i / 8) (bs.getD (i / 8) 0 ||| 2 ^ (7 - i % 8))) := Lib.hid rfl
  generalize bs.getD (i / 8) 0 = x at *
  generalize setB bs i = R at *
  obtain ⟨q, eq, hq2⟩ : ∃ q : Nat, i / 8 = q ∧ (i : Int) / 8 = (q : Int) := ⟨_, rfl, by omega⟩
  obtain ⟨r, er, hr2⟩ : ∃ r : Nat, i % 8 = r ∧ (i : Int) % 8 = (r : Int) := ⟨_, rfl, by omega⟩
  have hr : r ≤ 7 := by omega
  rw [eq] at hcell hq16 hliv HSV HE
  rw [er] at HE
  have q16 : (q : Int) < 16 := by omega
  have d1 : (i : Int).tdiv 8 = (q : Int) := by rw [Int.tdiv_eq_ediv_of_nonneg (by omega)]; exact hq2
  have d2 : (i : Int).tmod 8 = (r : Int) := by rw [Int.tmod_eq_emod_of_nonneg (by omega)]; exact hr2
  clear ecs h16 hlt HA HB HR eq er hq2 hr2
  go_enter Try.func56, Try.ntmps56
  go_upto_region 1 with fail
  generalize ((w.alloc (.cells cs 30)).alloc (.cells zA 30)) = W at *
  go_region
  rw [or_val x r hx hr]
  have HA2 := Lib.hid ((HSV (x ||| 2 ^ (7 - r))).out.below (Below.refl _ _).drew)
  rw [← HE.out] at HA2
  have HR2 := Lib.hid ((HRH.out.other (G' := w.heap.size) (i := 1 + q) (by omega) (.int .u8 ((x ||| 2 ^ (7 - r) : Nat) : Int))).below (Below.refl _ _).drew)
  have HB2 := Lib.hid ((HB1.out.setCell (p := ⟨w.heap.size, 1 + q, none⟩) (Nat.le_refl _) (.int .u8 ((x ||| 2 ^ (7 - r) : Nat) : Int))).drew)
  generalize (W.setCell ⟨w.heap.size, 1 + q, none⟩ (.int .u8 ((x ||| 2 ^ (7 - r) : Nat) : Int))).drew = W2 at *
  clear HA1 HB1 HRH HSV hcell hliv
  go_wp2_with (first | refine load_addr_g HA2 _ rfl rfl rfl ?_ | (refine store_addr HR2 _ _ HLS rfl rfl rfl rfl (fun W HW HA => ?_)))
  refine bodyPost_ret (v := addrV f R) (results_addr Try.results56 rfl HA.out) rfl ⟨rfl, by rw [HW.out]; exact below_cells (by omega) _ _ _ HB2.out⟩
end Go.Proofs.Ytjpjobbmljlacaa
/- Contract of addr.Bits. -/
namespace Go.Proofs.Ytjpjobbmljlacaa
open Go.RowKit
set_option linter.unusedVariables false
set_option maxRecDepth 20000

set_option maxRecDepth 100000 in
set_option maxHeartbeats 1000000 in
theorem addrBits_any (f : Int) (bs : List Nat) (w : World) (h16 : bs.length = 16) :
    Calls Try.prog 45 #[addrV f bs] w fun e w' => e = .returned (.int .i64 ((bitsN f : Nat) : Int)) ∧ Below w.heap.size w w' := by
  obtain ⟨cs, ecs, HA, HB⟩ := addr_boxed f bs w h16
  rw [ecs]
  clear ecs h16
  go_enter Try.func45, Try.ntmps45
  go_upto_region 1 with fail
  generalize (w.alloc (.cells cs 30)) = W at *
  have hfam := HA.out.fam
  by_cases h4 : f = 4
  · subst h4
    go_wp2_with fail
    go_ret
    exact ⟨rfl, HB.out⟩
  · by_cases h6 : f = 6
    · subst h6
      go_wp2_with fail
      go_ret
      exact ⟨rfl, HB.out⟩
    · have HE : Hid (bitsN f = 0) := Lib.hid (by unfold bitsN; rw [if_neg h4, if_neg h6])
      have g4 : (f == 4) = false := by simp [h4]
      have g6 : (f == 6) = false := by simp [h6]
      go_wp2_with fail
      go_ret
      exact ⟨by rw [HE.out]; rfl, HB.out⟩
end Go.Proofs.Ytjpjobbmljlacaa
/- Contract of addr.Bit. -/
namespace Go.Proofs.Ytjpjobbmljlacaa
open Go.RowKit
set_option linter.unusedVariables false
set_option maxRecDepth 20000

theorem bit_and_all : ∀ y : Fin 256, bits .and .i64 (wrap64 ((y.val : Nat) : Int)) 1 = ((y.val % 2 : Nat) : Int) := by decide +kernel
theorem bit_and (y : Nat) (h : y < 256) : bits .and .i64 (wrap64 ((y : Nat) : Int)) 1 = ((y % 2 : Nat) : Int) := bit_and_all ⟨y, h⟩
set_option maxRecDepth 100000 in
set_option maxHeartbeats 1000000 in
theorem addrBit_any (f : Int) (bs : List Nat) (i : Int) (w : World) (h16 : bs.length = 16) (hlt : ∀ x ∈ bs, x < 256) (hi : (Lit.int .i64 i).wf = true) :
    Calls Try.prog 55 #[addrV f bs, .int .i64 i] w fun e w' => e = .returned (.int .i64 ((bitN f bs i : Nat) : Int)) ∧ Below w.heap.size w w' := by
  have HLT := Lib.hid hlt
  have HB0 := fun W => Lib.hid (addrBits_any f bs W h16)
  obtain ⟨cs, ecs, HA, HB⟩ := addr_boxed f bs w h16
  rw [ecs]
  clear ecs h16 hlt
  by_cases h0 : i < 0
  · rw [show bitN f bs i = 0 from if_neg (by omega)]
    go_enter Try.func55, Try.ntmps55
    go_upto_region 1 with fail
    generalize (w.alloc (.cells cs 30)) = W at *
    go_wp2_with fail
    go_ret
    exact ⟨rfl, HB.out⟩
  · obtain ⟨n, rfl⟩ : ∃ n : Nat, i = (n : Int) := ⟨i.toNat, by omega⟩
    have hb := bitsN_le f
    obtain ⟨N, eN⟩ : ∃ N, bitsN f = N := ⟨_, rfl⟩
    have EN := Lib.hid eN
    rw [eN] at HB0 hb
    clear eN
    replace h0 : ¬ ((n : Int) < 0) := by omega
    go_enter Try.func55, Try.ntmps55
    go_upto_region 1 with fail
    generalize (w.alloc (.cells cs 30)) = W at *
    go_wp2_with (refine load_addr_g HA _ rfl rfl rfl ?_)
    refine (HB0 W).out.mono ?_
    rintro e w1 ⟨rfl, hb1⟩
    have HA1 := Lib.hid (HA.out.below hb1)
    have B1 := Lib.hid (chain HB.out hb1)
    clear HA HB hb1 HB0
    by_cases hn : n < N
    · have hq : n / 8 < 16 := by omega
      have hcell := HA1.out.cells (n / 8) hq
      have hx := byte_lt HLT.out (n / 8)
      have HR : Hid (bitN f bs (n : Int) = bs.getD (n / 8) 0 / 2 ^ (7 - n % 8) % 2) := Lib.hid (by
        unfold bitN
        rw [EN.out, if_pos (by omega)]
        rfl)
      generalize bs.getD (n / 8) 0 = x at *
      obtain ⟨q, eq, hq2⟩ : ∃ q : Nat, n / 8 = q ∧ (n : Int) / 8 = (q : Int) := ⟨_, rfl, by omega⟩
      obtain ⟨r, er, hr2⟩ : ∃ r : Nat, n % 8 = r ∧ (n : Int) % 8 = (r : Int) := ⟨_, rfl, by omega⟩
      have hr : r ≤ 7 := by omega
      rw [eq] at hcell hq
      rw [er] at HR
      have q16 : (q : Int) < 16 := by omega
      have d1 : (n : Int).tdiv 8 = (q : Int) := by rw [Int.tdiv_eq_ediv_of_nonneg (by omega)]; exact hq2
      have d2 : (n : Int).tmod 8 = (r : Int) := by rw [Int.tmod_eq_emod_of_nonneg (by omega)]; exact hr2
      clear eq er
      go_wp2_with fail
      go_ret
      refine ⟨?_, B1.out⟩
      rw [HR.out]
      have hy : x / 2 ^ (7 - r) < 256 := Nat.lt_of_le_of_lt (Nat.div_le_self _ _) hx
      have e1 := bit_and (x / 2 ^ (7 - r)) hy
      rw [show (((x / 2 ^ (7 - r) : Nat) : Int)) = (x : Int) / 2 ^ (7 - r) by norm_cast] at e1
      exact congrArg (fun z => Ending.returned (Value.int IntKind.i64 z)) e1
    · have HR : Hid (bitN f bs (n : Int) = 0) := Lib.hid (by unfold bitN; rw [EN.out, if_neg (by omega)])
      go_wp2_with fail
      go_ret
      exact ⟨by rw [HR.out]; rfl, B1.out⟩
end Go.Proofs.Ytjpjobbmljlacaa
/- Contract of cidr.Mask. -/
namespace Go.Proofs.Ytjpjobbmljlacaa
open Go.RowKit
set_option linter.unusedVariables false
set_option maxRecDepth 20000

theorem PrefAt.at {w : World} {G : Nat} {f : Int} {bs : List Nat} {n m : Int} (h : PrefAt w G f bs n) (e : n = m) : PrefAt w G f bs m := e ▸ h
set_option maxRecDepth 100000 in
set_option maxHeartbeats 1000000 in
theorem cidrMask_any (f : Int) (bs : List Nat) (n : Int) (w : World) (h16 : bs.length = 16) (hlt : ∀ x ∈ bs, x < 256) (hn : (Lit.int .i64 n).wf = true) :
    Calls Try.prog 47 #[addrV f bs, .int .i64 n] w fun e w' => e = .returned (prefV f (withL (bitsN f) bs (maskN f n) 0) (maskN f n)) ∧ Below w.heap.size w w' := by
  have H16 := Lib.hid h16
  have HLT := Lib.hid hlt
  have HN := bitsN_le f
  have hmN := maskN_le f n
  have HM := Lib.hid (maskN_max f n)
  have HBI := fun W => Lib.hid (addrBits_any f bs W h16)
  have HBT := fun W (k : Nat) (hk : k ≤ 128) => Lib.hid (addrBit_any f bs (k : Int) W h16 hlt (wf_small (by omega)))
  obtain ⟨cs, ecs, HA, HB⟩ := addr_boxed f bs w h16
  have HR := pref_zeroed (w.alloc (.cells cs 30))
  rw [heap_alloc] at HR
  have HRH := Lib.hid HR
  have HA1 := Lib.hid (HA.out.alloc (.cells zP 32))
  have HB1 := Lib.hid (HB.out.alloc HB.out.size (.cells zP 32))
  rw [ecs]
  have HWL : Hid (∀ k, withL (bitsN f) bs k 0 = withL (bitsN f) bs k 0) := Lib.hid (fun _ => rfl)
  have HBA : Hid (∀ k : Nat, k < bitsN f → bitN f bs (k : Int) = bitA bs k) := Lib.hid (fun k hk => bitN_A f bs k hk)
  have HW0 := Lib.hid (withL_zero (bitsN f) bs)
  generalize maskN f n = m at *
  generalize bitsN f = N at *
  have HLZ : Hid ((List.replicate 16 0).length = 16) := Lib.hid rfl
  have HZP := fun W : World => Lib.hid (pref_zeroed W)
  clear ecs h16 hlt HA HB HR
  go_enter Try.func47, Try.ntmps47
  go_upto_region 1 with fail
  generalize ((w.alloc (.cells cs 30)).alloc (.cells zP 32)) = W at *
  go_cut [5] from 7 (fun s5 wx => ∃ G : Nat, s5 = .pointer (some ⟨G, 0, none⟩) ∧ Hid (w.heap.size + 1 < G) ∧ Hid (PrefAt wx G f (List.replicate 16 0) (m : Int)) ∧ Hid (AddrAt wx w.heap.size f bs) ∧ Hid (PrefAt wx (w.heap.size + 1) 0 (List.replicate 16 0) 0) ∧ Hid (Below w.heap.size w wx))
  case first =>
    obtain ⟨L, hL⟩ : ∃ L, [(w.heap.size, 0, addrL f bs)] = L := ⟨_, rfl⟩
    have HK := Lib.hid (show HeldR L w W by rw [← hL]; exact (HeldR.nil HB1.out).addr HA1.out)
    have Mt2 := Lib.hid (show InA L w.heap.size f bs from ⟨by rw [← hL]; simp, H16.out⟩)
    have HNE : Hid (∀ R : Nat, w.heap.size < R → ∀ x ∈ L, x.1 ≠ R) := Lib.hid (by rw [← hL]; intro R hR x hx; simp at hx; rcases hx with rfl; simp; omega)
    have Cf := Lib.hid (famR (show InA L w.heap.size f bs from ⟨by rw [← hL]; simp, H16.out⟩) w)
    clear hL
    have C1 : ∀ w', HeldR L w w' → Hid (Calls Try.prog 45 #[addrV f bs] w' fun e w'' => e = .returned (.int .i64 ((N : Nat) : Int)) ∧ Below w'.heap.size w' w'') := fun w' h => HBI w'
    clear HBI
    replace HRH := Lib.hid (HRH.out.below (Below.refl _ _).drew)
    replace HA1 := Lib.hid (HA1.out.below (Below.refl _ _).drew)
    refine wp_region_noPanic ?_
    refine wp_region_held_drew (S := HeldR L w) (by kernel_rfl) HK.out.drew (fun hHeld => ?_)
    clear HK
    generalize W.drew = V at *
    refine wpAnyH_take (i := 0) (v := ?_) rfl (by kernel_rfl) (by kernel_rfl) (by kernel_rfl) (fun _ _ _ h => h) (Or.inl ⟨by rfl, ?_⟩) (by assumption) ?_
    rotate_left
    · (intro w hSw; go_simp; try (with_reducible rfl))
    try simp only [Act.put, List.getElem_toArray, List.getElem_cons_zero, List.setIfInBounds_toArray, List.set_cons_zero, List.set_cons_succ]
    refine wpAnyH_take (i := 1) (v := ?_) rfl (by kernel_rfl) (by kernel_rfl) (by kernel_rfl) (fun _ _ _ h => h) (Or.inl ⟨by rfl, ?_⟩) (by assumption) ?_
    rotate_left
    · (intro w hSw; have hc0 := Cf.out w hSw; go_simp; try (with_reducible rfl))
    try simp only [Act.put, List.getElem_toArray, List.getElem_cons_zero, List.getElem_cons_succ, List.setIfInBounds_toArray, List.set_cons_zero, List.set_cons_succ]
    refine wpAnyH_take (i := 2) rfl (by kernel_rfl) (by kernel_rfl) (by kernel_rfl) (fun _ _ _ h => h) (yields_build_fam (by rfl) _ rfl rfl) (by assumption) ?_
    try simp only [Act.put, List.getElem_toArray, List.getElem_cons_zero, List.getElem_cons_succ, List.setIfInBounds_toArray, List.set_cons_zero, List.set_cons_succ]
    refine wpAnyH_take (i := 3) (v := ?_) rfl (by kernel_rfl) (by kernel_rfl) (by kernel_rfl) (fun _ _ _ h => h) (Or.inl ⟨by rfl, ?_⟩) (by assumption) ?_
    rotate_left
    · (intro w hSw; go_simp; try (with_reducible rfl))
    try simp only [Act.put, List.getElem_toArray, List.getElem_cons_zero, List.getElem_cons_succ, List.setIfInBounds_toArray, List.set_cons_zero, List.set_cons_succ]
    refine wpAnyH_take (i := 4) (v := ?_) rfl (by kernel_rfl) (by kernel_rfl) (by kernel_rfl) (fun _ _ _ h => h) (Or.inl ⟨by rfl, ?_⟩) (by assumption) ?_
    rotate_left
    · (intro w hSw; go_simp; try (with_reducible rfl))
    try simp only [Act.put, List.getElem_toArray, List.getElem_cons_zero, List.getElem_cons_succ, List.setIfInBounds_toArray, List.set_cons_zero, List.set_cons_succ]
    refine wpAnyH_take (i := 5) rfl (by kernel_rfl) (by kernel_rfl) (by kernel_rfl) (fun _ _ _ h => h) (yields_addr Mt2 (by rfl) _ rfl rfl) (by assumption) ?_
    try simp only [Act.put, List.getElem_toArray, List.getElem_cons_zero, List.getElem_cons_succ, List.setIfInBounds_toArray, List.set_cons_zero, List.set_cons_succ]
    obtain ⟨z, hz⟩ : ∃ z, (if n < 0 then 0 else n) = z := ⟨_, rfl⟩
    have hz2 : max n 0 = z := by rw [← hz]; split <;> omega
    first | rw [hz] | rw [hz2]
    have HZZ : Hid (z = max n 0) := Lib.hid hz2.symm
    clear hz2
    clear hz
    refine wpAnyH_ready (rs := [6, 9]) (by kernel_rfl) (by simp) ?_
    refine AllReadyH.cons rfl (fun K hK => ?_) (AllReadyH.one rfl rfl (fun K hK => ?_))
    · go_simp
      refine (C1 _ (by assumption)).out.mono ?_
      rintro e wr6 ⟨rfl, hb6⟩
      replace HRH := Lib.hid (HRH.out.below hb6)
      replace HA1 := Lib.hid (HA1.out.below hb6)
      have hS6 := HeldR.next (by assumption) hb6
      clear hb6
      go_wp2_with fail
      refine hK.out _ _ hS6 (fun hHeld => ?_)
      clear hK K
      try simp only [Act.put, List.getElem_toArray, List.getElem_cons_zero, List.getElem_cons_succ, List.setIfInBounds_toArray, List.set_cons_zero, List.set_cons_succ]
      refine wpAnyH_take (i := 7) (v := ?_) rfl (by kernel_rfl) (by kernel_rfl) (by kernel_rfl) (fun _ _ _ h => h) (Or.inl ⟨by rfl, ?_⟩) (by assumption) ?_
      rotate_left
      · (intro w hSw; go_simp; try (with_reducible rfl))
      try simp only [Act.put, List.getElem_toArray, List.getElem_cons_zero, List.getElem_cons_succ, List.setIfInBounds_toArray, List.set_cons_zero, List.set_cons_succ]
      obtain ⟨y, hy⟩ : ∃ y, (if (N : Int) < z then (N : Int) else z) = y := ⟨_, rfl⟩
      have hy2 : min z (N : Int) = y := by rw [← hy]; split <;> omega
      have hy3 : min (N : Int) z = y := by rw [← hy]; split <;> omega
      first | rw [hy] | rw [hy2] | rw [hy3]
      have HYM : Hid (y = (m : Int)) := Lib.hid (by rw [← HM.out, ← HZZ.out, ← hy2])
      clear hy2 hy3
      clear hy
      refine wpAnyH_take (i := 8) rfl (by kernel_rfl) (by kernel_rfl) (by kernel_rfl) (fun _ _ _ h => h) (yields_build_pref HLZ (by rfl) _ _ rfl rfl rfl) (by assumption) ?_
      try simp only [Act.put, List.getElem_toArray, List.getElem_cons_zero, List.getElem_cons_succ, List.setIfInBounds_toArray, List.set_cons_zero, List.set_cons_succ]
      refine wpAnyH_ready (rs := [9]) (by kernel_rfl) (by simp) ?_
      refine AllReadyH.one rfl rfl (fun K hK => ?_)
      go_wp2_with fail
      refine hK.out _ _ (HeldR.next (by assumption) ((Below.refl _ _).alloc (Nat.le_refl _) _)) (fun hHeld => ?_)
      clear hK K
      try simp only [Act.put, List.getElem_toArray, List.getElem_cons_zero, List.getElem_cons_succ, List.setIfInBounds_toArray, List.set_cons_zero, List.set_cons_succ]
      have HZ := HZP wr6
      have GL := HRH.out.addr.lt
      replace HRH := Lib.hid (HRH.out.alloc (.cells zP 32))
      replace HA1 := Lib.hid (HA1.out.alloc (.cells zP 32))
      refine wpAnyH_ready (rs := [10]) (by kernel_rfl) (by simp) ?_
      refine AllReadyH.one rfl rfl (fun K hK => ?_)
      refine wp_store_pref HZ _ _ HLZ rfl rfl rfl (fun HQ => ?_)
      refine hK.out _ _ (HeldR.store (by assumption) _ (by omega) (HNE.out _ (by omega))) (fun hHeld2 => ?_)
      clear hK K
      try simp only [Act.put, List.getElem_toArray, List.getElem_cons_zero, List.getElem_cons_succ]
      refine wpAnyH_done (by kernel_rfl) ?_ _
      refine NoPanic.normal ?_
      go_wp2_with fail
      go_meet
      case rel => exact ⟨wr6.heap.size, rfl, Lib.hid GL, Lib.hid (HQ.out.at HYM.out), Lib.hid (HA1.out.apart (by omega) _), Lib.hid (HRH.out.apart (by omega) _), Lib.hid hHeld2.bel⟩
    · go_wp2_with fail
      refine hK.out _ _ (HeldR.next (by assumption) ((Below.refl _ _).alloc (Nat.le_refl _) _)) (fun hHeld => ?_)
      clear hK K
      try simp only [Act.put, List.getElem_toArray, List.getElem_cons_zero, List.getElem_cons_succ, List.setIfInBounds_toArray, List.set_cons_zero, List.set_cons_succ]
      have HZ := HZP V
      have GL := HRH.out.addr.lt
      replace HRH := Lib.hid (HRH.out.alloc (.cells zP 32))
      replace HA1 := Lib.hid (HA1.out.alloc (.cells zP 32))
      generalize V.heap.size = GV at *
      generalize V.alloc (.cells zP 32) = V2 at *
      refine wpAnyH_ready (rs := [6]) (by kernel_rfl) (by simp) ?_
      refine AllReadyH.cons rfl (fun K hK => ?_) AllReadyH.nil
      go_simp
      refine (C1 _ (by assumption)).out.mono ?_
      rintro e wr6 ⟨rfl, hb6⟩
      replace HRH := Lib.hid (HRH.out.below hb6)
      replace HA1 := Lib.hid (HA1.out.below hb6)
      replace HZ := Lib.hid (HZ.out.below hb6)
      have hS6 := HeldR.next (by assumption) hb6
      clear hb6
      go_wp2_with fail
      refine hK.out _ _ hS6 (fun hHeld => ?_)
      clear hK K
      try simp only [Act.put, List.getElem_toArray, List.getElem_cons_zero, List.getElem_cons_succ, List.setIfInBounds_toArray, List.set_cons_zero, List.set_cons_succ]
      refine wpAnyH_take (i := 7) (v := ?_) rfl (by kernel_rfl) (by kernel_rfl) (by kernel_rfl) (fun _ _ _ h => h) (Or.inl ⟨by rfl, ?_⟩) (by assumption) ?_
      rotate_left
      · (intro w hSw; go_simp; try (with_reducible rfl))
      try simp only [Act.put, List.getElem_toArray, List.getElem_cons_zero, List.getElem_cons_succ, List.setIfInBounds_toArray, List.set_cons_zero, List.set_cons_succ]
      obtain ⟨y, hy⟩ : ∃ y, (if (N : Int) < z then (N : Int) else z) = y := ⟨_, rfl⟩
      have hy2 : min z (N : Int) = y := by rw [← hy]; split <;> omega
      have hy3 : min (N : Int) z = y := by rw [← hy]; split <;> omega
      first | rw [hy] | rw [hy2] | rw [hy3]
      have HYM : Hid (y = (m : Int)) := Lib.hid (by rw [← HM.out, ← HZZ.out, ← hy2])
      clear hy2 hy3
      clear hy
      refine wpAnyH_take (i := 8) rfl (by kernel_rfl) (by kernel_rfl) (by kernel_rfl) (fun _ _ _ h => h) (yields_build_pref HLZ (by rfl) _ _ rfl rfl rfl) (by assumption) ?_
      try simp only [Act.put, List.getElem_toArray, List.getElem_cons_zero, List.getElem_cons_succ, List.setIfInBounds_toArray, List.set_cons_zero, List.set_cons_succ]
      refine wpAnyH_ready (rs := [10]) (by kernel_rfl) (by simp) ?_
      refine AllReadyH.one rfl rfl (fun K hK => ?_)
      refine wp_store_pref HZ _ _ HLZ rfl rfl rfl (fun HQ => ?_)
      refine hK.out _ _ (HeldR.store (by assumption) _ (by omega) (HNE.out _ (by omega))) (fun hHeld2 => ?_)
      clear hK K
      try simp only [Act.put, List.getElem_toArray, List.getElem_cons_zero, List.getElem_cons_succ]
      refine wpAnyH_done (by kernel_rfl) ?_ _
      refine NoPanic.normal ?_
      go_wp2_with fail
      go_meet
      case rel => exact ⟨GV, rfl, Lib.hid GL, Lib.hid (HQ.out.at HYM.out), Lib.hid (HA1.out.apart (by omega) _), Lib.hid (HRH.out.apart (by omega) _), Lib.hid hHeld2.bel⟩
  case rest =>
    obtain ⟨G, rfl, HGG, HP2, HA2, HR2, HB2⟩ := hcut
    clear HA1 HRH HB1 HBI HZP HWL
    have HP3 : Hid (PrefAt wc G f (withL N bs 0 0) (m : Int)) := Lib.hid (by rw [HW0.out]; exact HP2.out)
    have hbits := HP2.out.bits
    clear HP2
    go_wp2_with fail
    go_loopw [18] (fun i wr => ∃ k : Nat, k ≤ m ∧ i = .int .i64 (k : Int) ∧ Hid (PrefAt wr G f (withL N bs k 0) (m : Int)) ∧ Hid (AddrAt wr w.heap.size f bs) ∧ Hid (PrefAt wr (w.heap.size + 1) 0 (List.replicate 16 0) 0) ∧ Hid (Below w.heap.size w wr)) (fun i _ => 128 - (intOf i).toNat)
    case atStart => exact ⟨0, by omega, rfl, HP3, HA2, HR2, HB2⟩
    case round =>
      obtain ⟨k, hk, rfl, HP4, HA4, HR4, HB4⟩ := hrel
      clear HP3 HA2 HR2 HB2 hbits
      have hk128 : k ≤ 128 := by omega
      by_cases hkm : k < m
      · have hd : decide ((k : Int) < (m : Int)) = true := by simp; omega
        go_wp2_with (refine load_addr_g HA4 _ rfl rfl rfl ?_)
        refine (HBT _ k hk128).out.mono ?_
        rintro e w1 ⟨rfl, hb1⟩
        have HA5 := Lib.hid (HA4.out.below hb1)
        have HP5 := Lib.hid (HP4.out.below hb1)
        have HR5 := Lib.hid (HR4.out.below hb1)
        have HB5 := Lib.hid (chain HB4.out hb1)
        clear HA4 HP4 HR4 HB4 hb1
        have HP5a := Lib.hid HP5.out.addr
        rw [HBA.out k (by omega)]
        have hv := bitA_le bs k
        have H1 : Hid (bitA bs k = 1 → setB (withL N bs k 0) k = withL N bs (k + 1) 0) := Lib.hid (with_one N bs k (by omega) HN)
        have H0 : Hid (bitA bs k = 0 → withL N bs k 0 = withL N bs (k + 1) 0) := Lib.hid (with_none N bs k (by omega))
        generalize bitA bs k = v at *
        by_cases hv1 : v = 1
        · subst hv1
          have hd1 : (((1 : Nat) : Int) == 1) = true := by rfl
          have HLW : Hid ((withL N bs (k + 1) 0).length = 16) := Lib.hid (withL_len _ _ _ _)
          have HWB := fun W => Lib.hid (withBit_any f (withL N bs k 0) k W (withL_len _ _ _ _) (withL_lt _ _ _ _ (by decide)) (by omega))
          rw [H1.out rfl] at HWB
          go_wp2_with (refine load_addr_g HP5a _ rfl rfl rfl ?_)
          refine (HWB _).out.mono ?_
          rintro e w2 ⟨rfl, hb2⟩
          have HA6 := Lib.hid (HA5.out.below hb2)
          have HP6 := Lib.hid (HP5.out.below hb2)
          have HR6 := Lib.hid (HR5.out.below hb2)
          have HB6 := Lib.hid (chain HB5.out hb2)
          clear HA5 HP5 HR5 HB5 hb2 HP5a
          go_wp2_with (refine store_pref_addr HP6 _ _ HLW rfl rfl rfl rfl (fun W2 HW2 HP7 => ?_))
          have HG := HGG.out
          go_roundw
          case rel => exact ⟨k + 1, by omega, by go_num, HP7, Lib.hid (by rw [HW2.out]; exact HA6.out.apart (by omega) _), Lib.hid (by rw [HW2.out]; exact HR6.out.apart (by omega) _), Lib.hid (by rw [HW2.out]; exact below_cells (by omega) _ _ _ HB6.out)⟩
          case measure => simp [intOf]; omega
        · obtain rfl : v = 0 := by omega
          rw [H0.out rfl] at HP5
          have hd0 : (((0 : Nat) : Int) == 1) = false := by rfl
          go_wp2_with fail
          go_roundw
          case rel => exact ⟨k + 1, by omega, by go_num, HP5, HA5, HR5, HB5⟩
          case measure => simp [intOf]; omega
      · obtain rfl : k = m := by omega
        have hd : decide ((k : Int) < (k : Int)) = false := by simp
        have HLW : Hid ((withL N bs k 0).length = 16) := Lib.hid (withL_len _ _ _ _)
        go_wp2_with (first | refine load_pref_g HP4 _ rfl rfl rfl ?_ | refine store_pref HR4 _ _ HLW rfl rfl rfl rfl (fun W HW HP => ?_))
        refine bodyPost_ret (v := prefV f (withL N bs k 0) k) (results_pref Try.results47 rfl HP.out) rfl ⟨rfl, by rw [HW.out]; exact below_cells (by omega) _ _ _ HB4.out⟩
end Go.Proofs.Ytjpjobbmljlacaa
/- Contract of cidr.May. -/
namespace Go.Proofs.Ytjpjobbmljlacaa
open Go.RowKit
set_option linter.unusedVariables false
set_option maxRecDepth 20000

set_option maxRecDepth 100000 in
set_option maxHeartbeats 1000000 in
theorem cidrMay_any (f : Int) (ps : List Nat) (n : Int) (w : World) (hp : ps.length = 16) (hlt : ∀ x ∈ ps, x < 256) (hn : (Lit.int .i64 n).wf = true) :
    Calls Try.prog 40 #[prefV f ps n] w fun e w' => e = .returned (.bool (mayP f ps n)) ∧ Below w.heap.size w w' := by
  have HP := Lib.hid hp
  have HMK := fun W => Lib.hid (cidrMask_any f ps n W hp hlt hn)
  have HBI := fun W => Lib.hid (addrBits_any f ps W hp)
  have HLR : Hid ((withL (bitsN f) ps (maskN f n) 0).length = 16) := Lib.hid (withL_len _ _ _ _)
  obtain ⟨R, eR⟩ : ∃ R, mayP f ps n = R := ⟨_, rfl⟩
  rw [eR]
  have HE : Hid (decide (0 < bitsN f ∧ ps = withL (bitsN f) ps (maskN f n) 0 ∧ n = (maskN f n : Int)) = R) := Lib.hid (by rw [← eR]; rfl)
  generalize withL (bitsN f) ps (maskN f n) 0 = ms at *
  generalize maskN f n = m at *
  generalize bitsN f = N at *
  obtain ⟨cs, ecs, H1, HB⟩ := pref_boxed f ps n w hp
  rw [ecs]
  clear ecs hp hlt eR
  go_enter Try.func40, Try.ntmps40
  go_upto_region 1 with fail
  generalize (w.alloc (.cells cs 32)) = W at *
  obtain ⟨L, hL⟩ : ∃ L, [(w.heap.size, 0, prefL f ps n), (w.heap.size, 0, addrL f ps)] = L := ⟨_, rfl⟩
  have HK := Lib.hid (show HeldR L w W by rw [← hL]; exact (HeldR.nil HB.out).pref H1.out)
  have Mp := Lib.hid (show InP L w.heap.size f ps n from ⟨by rw [← hL]; simp, HP.out⟩)
  have Ma := Lib.hid (show InA L w.heap.size f ps from ⟨by rw [← hL]; simp, HP.out⟩)
  have Cn := Lib.hid (bitsR Mp.out w)
  clear hL H1 HB
  have C1 : ∀ w', HeldR L w w' → Hid (Calls Try.prog 45 #[addrV f ps] w' fun e w'' => e = .returned (.int .i64 ((N : Nat) : Int)) ∧ Below w'.heap.size w' w'') := fun w' h => HBI w'
  have C2 : ∀ w', HeldR L w w' → Hid (Calls Try.prog 47 #[addrV f ps, .int .i64 n] w' fun e w'' => e = .returned (prefV f ms (m : Int)) ∧ Below w'.heap.size w' w'') := fun w' h => HMK w'
  clear HMK HBI
  by_cases h0 : N = 0
  · subst h0
    rw [decide_eq_false (fun h => absurd h.1 (by decide))] at HE
    have hd : decide ((0 : Int) < ((0 : Nat) : Int)) = false := rfl
    refine wp_region_noPanic ?_
    refine wp_region_held_drew (S := HeldR L w) (by kernel_rfl) HK.out.drew (fun hHeld => ?_)
    refine wpAnyH_take (i := 0) (v := ?_) rfl (by kernel_rfl) (by kernel_rfl) (by kernel_rfl) (fun _ _ _ h => h) (Or.inl ⟨by rfl, ?_⟩) (by assumption) ?_
    rotate_left
    · (intro w hSw; go_simp; try (with_reducible rfl))
    try simp only [Act.put, List.getElem_toArray, List.getElem_cons_zero, List.setIfInBounds_toArray, List.set_cons_zero, List.set_cons_succ]
    refine wpAnyH_take (i := 1) rfl (by kernel_rfl) (by kernel_rfl) (by kernel_rfl) (fun _ _ _ h => h) (yields_addr Ma (by rfl) _ rfl rfl) (by assumption) ?_
    try simp only [Act.put, List.getElem_toArray, List.getElem_cons_zero, List.getElem_cons_succ, List.setIfInBounds_toArray, List.set_cons_zero, List.set_cons_succ]
    refine wpAnyH_ready (rs := [2]) (by kernel_rfl) (by simp) ?_
    refine AllReadyH.cons rfl (fun K hK => ?_) AllReadyH.nil
    go_simp
    refine (Calls.heldR (C1 _ (by assumption)).out (by assumption)).mono ?_
    rintro e wr2 ⟨rfl, hS2⟩
    go_wp2_with fail
    refine hK.out _ _ hS2 (fun hHeld => ?_)
    clear hK K
    try simp only [Act.put, List.getElem_toArray, List.getElem_cons_zero, List.getElem_cons_succ, List.setIfInBounds_toArray, List.set_cons_zero, List.set_cons_succ]
    refine wpAnyH_take (i := 3) (v := ?_) rfl (by kernel_rfl) (by kernel_rfl) (by kernel_rfl) (fun _ _ _ h => h) (Or.inl ⟨by rfl, ?_⟩) (by assumption) ?_
    rotate_left
    · (intro w hSw; go_simp; try (with_reducible rfl))
    try simp only [Act.put, List.getElem_toArray, List.getElem_cons_zero, List.getElem_cons_succ, List.setIfInBounds_toArray, List.set_cons_zero, List.set_cons_succ]
    refine wpAnyH_take (i := 4) (v := ?_) rfl (by kernel_rfl) (by kernel_rfl) (by kernel_rfl) (fun _ _ _ h => h) (Or.inl ⟨by rfl, ?_⟩) (by assumption) ?_
    rotate_left
    · (intro w hSw; go_simp; try (with_reducible rfl))
    try simp only [Act.put, List.getElem_toArray, List.getElem_cons_zero, List.getElem_cons_succ, List.setIfInBounds_toArray, List.set_cons_zero, List.set_cons_succ]
    refine wpAnyH_take (i := 5) (v := undef) rfl (by kernel_rfl) (by kernel_rfl) (by kernel_rfl) (fun _ _ _ h => h) (Or.inr ⟨by rfl, rfl⟩) (by assumption) ?_
    try simp only [Act.put, List.getElem_toArray, List.getElem_cons_zero, List.getElem_cons_succ, List.setIfInBounds_toArray, List.set_cons_zero, List.set_cons_succ]
    refine wpAnyH_take (i := 6) (v := undef) rfl (by kernel_rfl) (by kernel_rfl) (by kernel_rfl) (fun _ _ _ h => h) (Or.inr ⟨by rfl, rfl⟩) (by assumption) ?_
    try simp only [Act.put, List.getElem_toArray, List.getElem_cons_zero, List.getElem_cons_succ, List.setIfInBounds_toArray, List.set_cons_zero, List.set_cons_succ]
    refine wpAnyH_take (i := 7) (v := undef) rfl (by kernel_rfl) (by kernel_rfl) (by kernel_rfl) (fun _ _ _ h => h) (Or.inr ⟨by rfl, rfl⟩) (by assumption) ?_
    try simp only [Act.put, List.getElem_toArray, List.getElem_cons_zero, List.getElem_cons_succ, List.setIfInBounds_toArray, List.set_cons_zero, List.set_cons_succ]
    refine wpAnyH_take (i := 8) (v := undef) rfl (by kernel_rfl) (by kernel_rfl) (by kernel_rfl) (fun _ _ _ h => h) (Or.inr ⟨by rfl, rfl⟩) (by assumption) ?_
    try simp only [Act.put, List.getElem_toArray, List.getElem_cons_zero, List.getElem_cons_succ, List.setIfInBounds_toArray, List.set_cons_zero, List.set_cons_succ]
    refine wpAnyH_take (i := 9) (v := undef) rfl (by kernel_rfl) (by kernel_rfl) (by kernel_rfl) (fun _ _ _ h => h) (Or.inr ⟨by rfl, rfl⟩) (by assumption) ?_
    try simp only [Act.put, List.getElem_toArray, List.getElem_cons_zero, List.getElem_cons_succ, List.setIfInBounds_toArray, List.set_cons_zero, List.set_cons_succ]
    refine wpAnyH_take (i := 10) (v := undef) rfl (by kernel_rfl) (by kernel_rfl) (by kernel_rfl) (fun _ _ _ h => h) (Or.inr ⟨by rfl, rfl⟩) (by assumption) ?_
    try simp only [Act.put, List.getElem_toArray, List.getElem_cons_zero, List.getElem_cons_succ, List.setIfInBounds_toArray, List.set_cons_zero, List.set_cons_succ]
    refine wpAnyH_take (i := 11) (v := undef) rfl (by kernel_rfl) (by kernel_rfl) (by kernel_rfl) (fun _ _ _ h => h) (Or.inr ⟨by rfl, rfl⟩) (by assumption) ?_
    try simp only [Act.put, List.getElem_toArray, List.getElem_cons_zero, List.getElem_cons_succ, List.setIfInBounds_toArray, List.set_cons_zero, List.set_cons_succ]
    refine wpAnyH_take (i := 12) (v := ?_) rfl (by kernel_rfl) (by kernel_rfl) (by kernel_rfl) (fun _ _ _ h => h) (Or.inl ⟨by rfl, ?_⟩) (by assumption) ?_
    rotate_left
    · (intro w hSw; go_simp; try (with_reducible rfl))
    try simp only [Act.put, List.getElem_toArray, List.getElem_cons_zero, List.getElem_cons_succ, List.setIfInBounds_toArray, List.set_cons_zero, List.set_cons_succ]
    refine wpAnyH_take (i := 13) (v := ?_) rfl (by kernel_rfl) (by kernel_rfl) (by kernel_rfl) (fun _ _ _ h => h) (Or.inl ⟨by rfl, ?_⟩) (by assumption) ?_
    rotate_left
    · (intro w hSw; go_simp; try (with_reducible rfl))
    try simp only [Act.put, List.getElem_toArray, List.getElem_cons_zero, List.getElem_cons_succ, List.setIfInBounds_toArray, List.set_cons_zero, List.set_cons_succ]
    refine wpAnyH_done (by kernel_rfl) ?_ _
    refine NoPanic.normal ?_
    go_wp2_with fail
    go_ret
    exact ⟨by rw [← HE.out]; rfl, hHeld.bel⟩
  · have hd : decide ((0 : Int) < ((N : Nat) : Int)) = true := by simp; omega
    have hN : 0 < N := by omega
    have gd := guard_pref
    have q1 := fun W => run_eq_pref f f ps ms n (m : Int) W HP.out HLR.out
    rw [show decide (f = f ∧ ps = ms ∧ n = (m : Int)) = R by rw [← HE.out]; exact decide_eq_decide.2 (by simp [hN])] at q1
    refine wp_region_noPanic ?_
    refine wp_region_held_drew (S := HeldR L w) (by kernel_rfl) HK.out.drew (fun hHeld => ?_)
    refine wpAnyH_take (i := 0) (v := ?_) rfl (by kernel_rfl) (by kernel_rfl) (by kernel_rfl) (fun _ _ _ h => h) (Or.inl ⟨by rfl, ?_⟩) (by assumption) ?_
    rotate_left
    · (intro w hSw; go_simp; try (with_reducible rfl))
    try simp only [Act.put, List.getElem_toArray, List.getElem_cons_zero, List.setIfInBounds_toArray, List.set_cons_zero, List.set_cons_succ]
    refine wpAnyH_take (i := 1) rfl (by kernel_rfl) (by kernel_rfl) (by kernel_rfl) (fun _ _ _ h => h) (yields_addr Ma (by rfl) _ rfl rfl) (by assumption) ?_
    try simp only [Act.put, List.getElem_toArray, List.getElem_cons_zero, List.getElem_cons_succ, List.setIfInBounds_toArray, List.set_cons_zero, List.set_cons_succ]
    refine wpAnyH_ready (rs := [2]) (by kernel_rfl) (by simp) ?_
    refine AllReadyH.cons rfl (fun K hK => ?_) AllReadyH.nil
    go_simp
    refine (Calls.heldR (C1 _ (by assumption)).out (by assumption)).mono ?_
    rintro e wr2 ⟨rfl, hS2⟩
    go_wp2_with fail
    refine hK.out _ _ hS2 (fun hHeld => ?_)
    clear hK K
    try simp only [Act.put, List.getElem_toArray, List.getElem_cons_zero, List.getElem_cons_succ, List.setIfInBounds_toArray, List.set_cons_zero, List.set_cons_succ]
    refine wpAnyH_take (i := 3) (v := ?_) rfl (by kernel_rfl) (by kernel_rfl) (by kernel_rfl) (fun _ _ _ h => h) (Or.inl ⟨by rfl, ?_⟩) (by assumption) ?_
    rotate_left
    · (intro w hSw; go_simp; try (with_reducible rfl))
    try simp only [Act.put, List.getElem_toArray, List.getElem_cons_zero, List.getElem_cons_succ, List.setIfInBounds_toArray, List.set_cons_zero, List.set_cons_succ]
    refine wpAnyH_take (i := 4) (v := ?_) rfl (by kernel_rfl) (by kernel_rfl) (by kernel_rfl) (fun _ _ _ h => h) (Or.inl ⟨by rfl, ?_⟩) (by assumption) ?_
    rotate_left
    · (intro w hSw; go_simp; try (with_reducible rfl))
    try simp only [Act.put, List.getElem_toArray, List.getElem_cons_zero, List.getElem_cons_succ, List.setIfInBounds_toArray, List.set_cons_zero, List.set_cons_succ]
    refine wpAnyH_take (i := 5) rfl (by kernel_rfl) (by kernel_rfl) (by kernel_rfl) (fun _ _ _ h => h) (yields_pref Mp (by rfl) _ rfl rfl) (by assumption) ?_
    try simp only [Act.put, List.getElem_toArray, List.getElem_cons_zero, List.getElem_cons_succ, List.setIfInBounds_toArray, List.set_cons_zero, List.set_cons_succ]
    refine wpAnyH_take (i := 6) (v := ?_) rfl (by kernel_rfl) (by kernel_rfl) (by kernel_rfl) (fun _ _ _ h => h) (Or.inl ⟨by rfl, ?_⟩) (by assumption) ?_
    rotate_left
    · (intro w hSw; go_simp; try (with_reducible rfl))
    try simp only [Act.put, List.getElem_toArray, List.getElem_cons_zero, List.getElem_cons_succ, List.setIfInBounds_toArray, List.set_cons_zero, List.set_cons_succ]
    refine wpAnyH_take (i := 7) rfl (by kernel_rfl) (by kernel_rfl) (by kernel_rfl) (fun _ _ _ h => h) (yields_addr Ma (by rfl) _ rfl rfl) (by assumption) ?_
    try simp only [Act.put, List.getElem_toArray, List.getElem_cons_zero, List.getElem_cons_succ, List.setIfInBounds_toArray, List.set_cons_zero, List.set_cons_succ]
    refine wpAnyH_take (i := 8) (v := ?_) rfl (by kernel_rfl) (by kernel_rfl) (by kernel_rfl) (fun _ _ _ h => h) (Or.inl ⟨by rfl, ?_⟩) (by assumption) ?_
    rotate_left
    · (intro w hSw; go_simp; try (with_reducible rfl))
    try simp only [Act.put, List.getElem_toArray, List.getElem_cons_zero, List.getElem_cons_succ, List.setIfInBounds_toArray, List.set_cons_zero, List.set_cons_succ]
    refine wpAnyH_take (i := 9) (v := ?_) rfl (by kernel_rfl) (by kernel_rfl) (by kernel_rfl) (fun _ _ _ h => h) (Or.inl ⟨by rfl, ?_⟩) (by assumption) ?_
    rotate_left
    · (intro w hSw; have hc0 := Cn.out w hSw; go_simp; try (with_reducible rfl))
    try simp only [Act.put, List.getElem_toArray, List.getElem_cons_zero, List.getElem_cons_succ, List.setIfInBounds_toArray, List.set_cons_zero, List.set_cons_succ]
    refine wpAnyH_ready (rs := [10]) (by kernel_rfl) (by simp) ?_
    refine AllReadyH.cons rfl (fun K hK => ?_) AllReadyH.nil
    go_simp
    refine (Calls.heldR (C2 _ (by assumption)).out (by assumption)).mono ?_
    rintro e wr10 ⟨rfl, hS10⟩
    go_wp2_with fail
    refine hK.out _ _ hS10 (fun hHeld => ?_)
    clear hK K
    try simp only [Act.put, List.getElem_toArray, List.getElem_cons_zero, List.getElem_cons_succ, List.setIfInBounds_toArray, List.set_cons_zero, List.set_cons_succ]
    refine wpAnyH_take (i := 11) (v := ?_) rfl (by kernel_rfl) (by kernel_rfl) (by kernel_rfl) (fun _ _ _ h => h) (Or.inl ⟨by rfl, ?_⟩) (by assumption) ?_
    rotate_left
    · (intro w hSw; go_simp; try (with_reducible rfl))
    try simp only [Act.put, List.getElem_toArray, List.getElem_cons_zero, List.getElem_cons_succ, List.setIfInBounds_toArray, List.set_cons_zero, List.set_cons_succ]
    refine wpAnyH_take (i := 12) (v := ?_) rfl (by kernel_rfl) (by kernel_rfl) (by kernel_rfl) (fun _ _ _ h => h) (Or.inl ⟨by rfl, ?_⟩) (by assumption) ?_
    rotate_left
    · (intro w hSw; go_simp; try (with_reducible rfl))
    try simp only [Act.put, List.getElem_toArray, List.getElem_cons_zero, List.getElem_cons_succ, List.setIfInBounds_toArray, List.set_cons_zero, List.set_cons_succ]
    refine wpAnyH_take (i := 13) (v := ?_) rfl (by kernel_rfl) (by kernel_rfl) (by kernel_rfl) (fun _ _ _ h => h) (Or.inl ⟨by rfl, ?_⟩) (by assumption) ?_
    rotate_left
    · (intro w hSw; go_simp; try (with_reducible rfl))
    try simp only [Act.put, List.getElem_toArray, List.getElem_cons_zero, List.getElem_cons_succ, List.setIfInBounds_toArray, List.set_cons_zero, List.set_cons_succ]
    refine wpAnyH_done (by kernel_rfl) ?_ _
    refine NoPanic.normal ?_
    go_wp2_with fail
    go_ret
    exact ⟨rfl, hHeld.bel⟩
end Go.Proofs.Ytjpjobbmljlacaa
/- The table: what it keeps; contracts of Set and Drop. -/
namespace Go.Proofs.Ytjpjobbmljlacaa
open Go.RowKit
set_option linter.unusedVariables false
set_option maxRecDepth 20000

theorem setCell_one (w : World) (b o : Nat) (u : Value) : w.setCell ⟨b, o, none⟩ u = w.setCells b o [u] := rfl
/-- A value set anew, at its place. -/
theorem rowT_setVal {w : World} {g cap : Nat} {es : List Ent} (hb : Blk w g (cap * 19)) (hc : es.length ≤ cap) (hm : cap ≤ maxLen) (hr : w.rangeAt g 0 (flatE es)) (hg : AllGood es) (hle : es.length ≤ 1000) (i : Nat) (hi : i < es.length) (x : Int) (hx : (Lit.int .i64 x).wf = true) :
    RowT (w.setCell ⟨g, i * 19 + 18, none⟩ (.int .i64 x)) 0 (.slice (some ⟨g, 0, none⟩) es.length cap) (es.take i ++ [⟨es[i].f, es[i].b, es[i].n, x⟩] ++ es.drop (i + 1)) := by
  have hgi := hg _ (List.getElem_mem hi)
  have hlen : (es.take i ++ [(⟨es[i].f, es[i].b, es[i].n, x⟩ : Ent)] ++ es.drop (i + 1)).length = es.length := by simp; omega
  have hgd : AllGood (es.drop (i + 1)) := fun e he => hg e (List.mem_of_mem_drop he)
  have hgt : AllGood (es.take i) := fun e he => hg e (List.mem_of_mem_take he)
  have hft : (flatE (es.take i)).length = i * 19 := by rw [flatE_len _ hgt, List.length_take, Nat.min_eq_left (by omega)]
  have hpl := prefL_len es[i].f es[i].b (es[i].n : Int) hgi.1.len
  rw [setCell_one]
  have := rowT_of (w := w.setCells g (i * 19 + 18) [Value.int .i64 x]) (g := g) (cap := cap) (es := es.take i ++ [⟨es[i].f, es[i].b, es[i].n, x⟩] ++ es.drop (i + 1)) (Blk.setCells g _ _ _ hb) (by omega) hm ?_ (fun e he => by
      rcases List.mem_append.1 he with he | he
      · rcases List.mem_append.1 he with he | he
        · exact hgt e he
        · rw [List.mem_singleton.1 he]; exact ⟨hgi.1, hx⟩
      · exact hgd e he) (by omega)
  · rw [hlen] at this; exact this
  · rw [flatE_append, flatE_append, flatE_single]
    have h1 := World.rangeAt_setCells_apart (cell_take hr i) g (i * 19 + 18) [Value.int .i64 x] (.inr (.inl (by rw [hft]; omega)))
    have h2 := World.rangeAt_setCells_apart (range_pref (range_ent hr hg i hi)) g (i * 19 + 18) [Value.int .i64 x] (.inr (.inl (by rw [hpl]; omega)))
    have h3 := World.rangeAt_setCells_same w g (i * 19 + 18) [Value.int .i64 x] (hb.there _ _ (by simp; omega))
    have h4 := World.rangeAt_setCells_apart (cell_drop hr hg (i + 1) (by omega)) g (i * 19 + 18) [Value.int .i64 x] (.inr (.inr (by simp; omega)))
    refine range_append (range_append h1 ?_) ?_
    · rw [hft, Nat.zero_add]
      show (w.setCells g (i * 19 + 18) [Value.int .i64 x]).rangeAt g (i * 19) (prefL es[i].f es[i].b (es[i].n : Int) ++ [Value.int .i64 x])
      exact range_append h2 (by rw [hpl]; exact h3)
    · rw [List.length_append, hft, Ent.L_len (⟨es[i].f, es[i].b, es[i].n, x⟩ : Ent) hgi.1.len, show 0 + (i * 19 + 19) = (i + 1) * 19 by omega]
      exact h4
/-- The table at G, of entries es, with st steps. -/
def TabAt (w : World) (G : Nat) (es : List Ent) (st : Int) (F : List Nat) : Prop :=
  ∃ v, F = G :: blkL v ∧ Tab w G v st ∧ RowT w 0 v es ∧ SortedE es ∧ ∀ g, v.ownBlock = some g → g ≠ G
theorem mem_blkL {v : Value} {k : Nat} : k ∈ blkL v ↔ v.ownBlock = some k := by unfold blkL; cases v.ownBlock <;> simp [eq_comm]
theorem RowT.same {w w' : World} {base : Nat} {v : Value} {es : List Ent} (h : RowT w base v es) (hk : ∀ g, v.ownBlock = some g → w'.heap[g]? = w.heap[g]?) : RowT w' base v es := by
  obtain ⟨⟨h1, h2⟩, h3⟩ := h
  refine ⟨⟨h1, ?_⟩, h3⟩
  rcases h2 with h2 | ⟨g, cap, cur, e1, e2, e3, e4⟩
  · exact .inl h2
  · exact .inr ⟨g, cap, cur, e1, e2, (hk g (by rw [e1]; rfl)).trans e3, e4⟩
section
variable {w w' : World} {G : Nat} {es : List Ent} {st : Int} {F : List Nat}
theorem TabAt.lt (h : TabAt w G es st F) : G ∈ F ∧ ∀ k ∈ F, k < w.heap.size := by
  obtain ⟨v, rfl, hT, hR, _, _⟩ := h
  refine ⟨by simp, fun k hk => ?_⟩
  rcases List.mem_cons.1 hk with rfl | hk
  · exact hT.lt
  · exact (hR.blockLt k (mem_blkL.1 hk)).2
theorem TabAt.keep (h : TabAt w G es st F) (hs : w.heap.size ≤ w'.heap.size) (hk : ∀ k ∈ F, w'.heap[k]? = w.heap[k]?) : TabAt w' G es st F := by
  obtain ⟨v, rfl, hT, hR, hS, hN⟩ := h
  exact ⟨v, rfl, hT.same hs (hk G (by simp)), hR.same (fun g hg => hk g (List.mem_cons_of_mem _ (mem_blkL.2 hg))), hS, hN⟩
theorem TabAt.below (h : TabAt w G es st F) (hb : Below w.heap.size w w') : TabAt w' G es st F := h.keep hb.size (fun k hk => hb.block k (h.lt.2 k hk))
end
theorem Foot.wide {F F' : List Nat} {w w' : World} {G : Nat} (h : Foot F F' w w') : Foot (G :: F) (G :: F') w w' :=
  ⟨h.os, h.tape, h.output, h.size, fun k hk hn => h.keep k hk (fun e => hn (List.mem_cons_of_mem _ e)), fun k hk => by
    rcases List.mem_cons.1 hk with rfl | hk
    · exact .inl (by simp)
    · rcases h.new k hk with e | e
      · exact .inl (List.mem_cons_of_mem _ e)
      · exact .inr e⟩
theorem Foot.into {F : List Nat} {w w' : World} {G : Nat} (h : Foot [G] [G] w w') (hG : G ∈ F) : Foot F F w w' :=
  ⟨h.os, h.tape, h.output, h.size, fun k hk hn => h.keep k hk (fun e => hn (by rw [List.mem_singleton.1 e]; exact hG)), fun k hk => .inl hk⟩
theorem yields_build_entT {ops : Array Oper} {S : World → Prop} {op : Oper} {a : Act} {f : Int} {bs : List Nat} {n v : Int} (hl : Hid (bs.length = 16)) (hw : Region.wanted op (yielded ops a.tmps) = true) (x y : Operand) (ho : op.op = .build 42 #[(0, x), (1, y)])
    (hx : a.eval x = prefV f bs n) (hy : a.eval y = .int .i64 v) : YieldsIf Try.prog ops S op (entV f bs n v) a :=
  .inl ⟨hw, fun w _ => exec_build ho (by
    simp only [List.map_toArray, List.map_cons, List.map_nil]
    rw [hx, hy]; exact built_entT f bs n v hl.out)⟩
theorem wp_build_entST {op : Oper} {a : Act} {w : World} {K : Act → World → Prop} {Q : Exit → Act → World → Prop} {f : Int} {bs : List Nat} {n v : Int} (hl : Hid (bs.length = 16)) (x : Operand) (ho : op.op = .buildSlice 57 1 #[(0, x)])
    (hx : a.eval x = entV f bs n v) (h : ∀ W, Hid (W = w.alloc (.cells (entL f bs n v).toArray 42)) → K (a.put op.dst (.slice (some ⟨w.heap.size, 0, none⟩) 1 1)) W) : op.wp Try.prog a w K Q := by
  unfold Oper.wp execOp
  simp only [ho, List.map_toArray, List.map_cons, List.map_nil, hx, Sem.run_bind, run_buildT f bs n v w hl.out, Result.andThen_ok]
  exact h _ (Lib.hid rfl)
set_option maxRecDepth 100000 in
set_option maxHeartbeats 1000000 in
theorem tabDrop_any (G : Nat) (es : List Ent) (st : Int) (F : List Nat) (f : Int) (bs : List Nat) (n : Int) (w : World) (hA : TabAt w G es st F) (h16 : bs.length = 16) (hlt : ∀ y ∈ bs, y < 256) :
    Calls Try.prog 26 #[.pointer (some ⟨G, 0, none⟩), prefV f bs n] w fun e w' => e = .returned (.int .i64 (if (dropE es f bs n).length < es.length then 0 else 4)) ∧ ∃ F', TabAt w' G (dropE es f bs n) st F' ∧ Foot F F' w w' := by
  have HAA := Lib.hid hA
  obtain ⟨v, rfl, hT, hR, hs, hN⟩ := hA
  have HPL := fun W (h : Below w.heap.size w W) => Lib.hid (place_any G v st es f bs n W (hT.below h) (hR.below h) hs h16 hlt)
  have HDN : Hid (∀ i, Place es f bs n i false → dropE es f bs n = es) := Lib.hid (fun i hp => drop_none hp hR.2.1 hs h16)
  have HDA : Hid (∀ i, Place es f bs n i true → i < es.length ∧ dropE es f bs n = es.take i ++ es.drop (i + 1)) := Lib.hid (fun i hp => by
    obtain ⟨h, _⟩ := hp.is rfl
    exact ⟨h, drop_at hp hR.2.1 hs h16⟩)
  have HSD := Lib.hid (sorted_drop hs f bs n)
  have HTT := Lib.hid (fun W (h : Below w.heap.size w W) => hT.below h)
  have HRR := Lib.hid (fun W (h : Below w.heap.size w W) => hR.below h)
  have HG := Lib.hid hR.2.1
  have HNN := Lib.hid hN
  have hle := hR.2.2
  generalize dropE es f bs n = R at *
  obtain ⟨c, hc⟩ : ∃ c : Int, (if R.length < es.length then (0 : Int) else 4) = c := ⟨_, rfl⟩
  rw [hc]
  have HCC := Lib.hid hc
  clear hc
  obtain ⟨cs, ecs, HP, HB⟩ := pref_boxed f bs n w h16
  rw [ecs]
  clear ecs h16 hlt hT hR hs hN
  go_enter Try.func26, Try.ntmps26
  go_upto_region 1 with fail
  generalize (w.alloc (.cells cs 32)) = W at *
  go_wp2_with (refine load_pref_g HP _ rfl rfl rfl ?_)
  refine (HPL _ HB.out).out.mono ?_
  rintro e w1 ⟨i, b, rfl, hp, hb1⟩
  have HB1 := Lib.hid (chain HB.out hb1)
  have HT1 := Lib.hid (HTT.out _ HB1.out)
  have HR1 := Lib.hid (HRR.out _ HB1.out)
  clear HP HB hb1 HTT HRR HPL
  cases b with
  | false =>
    have HE := Lib.hid (HDN.out i hp)
    clear HDN HDA hp
    go_wp2_with fail
    go_ret
    refine ⟨by rw [← HCC.out, HE.out, if_neg (by omega)]; rfl, _, by rw [HE.out]; exact HAA.out.below HB1.out, Foot.ofBelow _ HB1.out⟩
  | true =>
    obtain ⟨hil, hE⟩ := HDA.out i hp
    have HE := Lib.hid hE
    clear HDN HDA hp hE
    rcases HR1.out.blk with ⟨rfl, rfl⟩ | ⟨g, cap, rfl, _, hb, hc, hmx, hrg⟩
    · exact absurd hil (by simp)
    · have HD := Lib.hid (delete_any g cap es i w1 hb hc hmx hrg HG.out hle hil)
      have hcell := HT1.out.row
      have hNg : g ≠ G := HNN.out g rfl
      have hw1 : IntKind.i64.wrap ((i : Int) + 1) = (i : Int) + 1 := by rw [IntKind.wrap_i64]; omega
      have HLE : Hid (R.length < es.length) := Lib.hid (by rw [HE.out, List.length_append, List.length_take, List.length_drop]; omega)
      obtain ⟨N, hNn⟩ : ∃ N, es.length = N := ⟨_, rfl⟩
      rw [hNn] at hcell HD hil HR1 HT1
      clear hNn hb hc hrg HR1
      go_wp2_with fail
      refine HD.out.mono ?_
      rintro e w2 ⟨rfl, hr2, hf2⟩
      have HT2 := Lib.hid (HT1.out.foot hf2 (by simp; omega))
      have hcell2 := HT2.out.row
      have hfr2 := HT2.out.frow
      have HF2 := Lib.hid hf2
      have HR2 := Lib.hid hr2
      clear hcell HT1 HD hf2 hr2
      go_wp2_with fail
      go_ret
      have hcc := HCC.out
      rw [if_pos HLE.out] at hcc
      have hf3 := foot_cell w2 G 0 (.slice (some ⟨g, 0, none⟩) (N - 1) cap)
      refine ⟨by rw [← hcc]; rfl, [G, g], ⟨_, rfl, HT2.out.setRow _, ?_, HSD.out, fun k hk => by cases hk; exact hNg⟩, ?_⟩
      · rw [HE.out]
        exact HR2.out.foot hf3 (fun k hk => by cases hk; simp; omega)
      · refine ((Foot.ofBelow _ HB1.out).trans (Foot.wide HF2.out)).trans (hf3.into (by simp))
end Go.Proofs.Ytjpjobbmljlacaa
/- Contract of Table.Set. -/
namespace Go.Proofs.Ytjpjobbmljlacaa
open Go.RowKit
set_option linter.unusedVariables false
set_option maxRecDepth 20000

set_option maxRecDepth 100000 in
set_option maxHeartbeats 1000000 in
theorem tabSet_any (G : Nat) (es : List Ent) (st : Int) (F : List Nat) (f : Int) (bs : List Nat) (n x : Int) (w : World) (hA : TabAt w G es st F) (h16 : bs.length = 16) (hlt : ∀ y ∈ bs, y < 256) (hn : (Lit.int .i64 n).wf = true) (hx : (Lit.int .i64 x).wf = true) (hle : es.length ≤ 999) :
    Calls Try.prog 23 #[.pointer (some ⟨G, 0, none⟩), prefV f bs n, .int .i64 x] w fun e w' => e = .returned (.int .i64 (if mayP f bs n = true then 0 else 1)) ∧ ∃ F', TabAt w' G (setE es f bs n x) st F' ∧ Foot F F' w w' := by
  have HAA := Lib.hid hA
  obtain ⟨v, rfl, hT, hR, hs, hN⟩ := hA
  have HPL := fun W (h : Below w.heap.size w W) => Lib.hid (place_any G v st es f bs n W (hT.below h) (hR.below h) hs h16 hlt)
  have HMA := fun W => Lib.hid (cidrMay_any f bs n W h16 hlt hn)
  have HGD : Hid (mayP f bs n = true → GoodP f bs n.toNat ∧ n = ((n.toNat : Nat) : Int)) := Lib.hid (mayP_good h16 hlt)
  have HNO : Hid (mayP f bs n = false → setE es f bs n x = es) := Lib.hid (fun h => by unfold setE; rw [if_neg (by rw [h]; decide)])
  have HSN : Hid (mayP f bs n = true → ∀ i, Place es f bs n i false → setE es f bs n x = es.take i ++ [⟨f, bs, n.toNat, x⟩] ++ es.drop i) := Lib.hid (fun hm i hp => set_none x hp hR.2.1 hs h16 hlt hm)
  have HSA : Hid (mayP f bs n = true → ∀ i, Place es f bs n i true → ∃ h : i < es.length, setE es f bs n x = es.take i ++ [⟨es[i].f, es[i].b, es[i].n, x⟩] ++ es.drop (i + 1)) := Lib.hid (fun hm i hp => by
    obtain ⟨h, h0⟩ := hp.isAt hR.2.1 h16
    refine ⟨h, ?_⟩
    unfold isEnt at h0
    obtain ⟨e1, e2, e3⟩ := of_decide_eq_true h0
    rw [set_at x hp hR.2.1 hs h16 hlt hm, e1, e2]
    have : n.toNat = es[i].n := by omega
    rw [this])
  have HSS : Hid (∀ i b, Place es f bs n i b → SortedE (setE es f bs n x)) := Lib.hid (fun i b hp => sorted_set x hp hR.2.1 hs h16 hlt)
  have HTT := Lib.hid (fun W (h : Below w.heap.size w W) => hT.below h)
  have HRR := Lib.hid (fun W (h : Below w.heap.size w W) => hR.below h)
  have HG := Lib.hid hR.2.1
  have HNN := Lib.hid hN
  have H16 := Lib.hid h16
  have HWX := Lib.hid hx
  generalize setE es f bs n x = R at *
  obtain ⟨c, hc⟩ : ∃ c : Int, (if mayP f bs n = true then (0 : Int) else 1) = c := ⟨_, rfl⟩
  rw [hc]
  have HCC := Lib.hid hc
  clear hc
  generalize mayP f bs n = m at *
  obtain ⟨cs, ecs, HP, HB⟩ := pref_boxed f bs n w h16
  rw [ecs]
  clear ecs h16 hlt hT hR hs hN hn hx
  go_enter Try.func23, Try.ntmps23
  go_upto_region 1 with fail
  generalize (w.alloc (.cells cs 32)) = W at *
  go_wp2_with (refine load_pref_g HP _ rfl rfl rfl ?_)
  refine (HMA _).out.mono ?_
  rintro e w0 ⟨rfl, hb0⟩
  have HB0 := Lib.hid (chain HB.out hb0)
  have HP0 := Lib.hid (HP.out.below hb0)
  clear HP HB hb0 HMA
  cases m with
  | false =>
    have HE := Lib.hid (HNO.out rfl)
    rw [if_neg (by decide)] at HCC
    clear HNO HSN HSA HSS HPL HGD
    go_wp2_with fail
    go_ret
    exact ⟨by rw [← HCC.out]; rfl, _, by rw [HE.out]; exact HAA.out.below HB0.out, Foot.ofBelow _ HB0.out⟩
  | true =>
    rw [if_pos rfl] at HCC
    obtain ⟨hgp, hnn⟩ := HGD.out rfl
    have HGP := Lib.hid hgp
    have HNT := Lib.hid hnn
    clear HNO HGD hgp hnn
    go_wp2_with (refine load_pref_g HP0 _ rfl rfl rfl ?_)
    refine (HPL _ HB0.out).out.mono ?_
    rintro e w1 ⟨i, b, rfl, hp, hb1⟩
    have HP1 := Lib.hid (HP0.out.below hb1)
    have HB1 := Lib.hid (chain HB0.out hb1)
    have HT1 := Lib.hid (HTT.out _ HB1.out)
    have HR1 := Lib.hid (HRR.out _ HB1.out)
    have HSR := Lib.hid (HSS.out i b hp)
    have hile := hp.le
    clear HP0 HB0 hb1 HTT HRR HPL HSS
    cases b with
    | true =>
      obtain ⟨hil, hE⟩ := HSA.out (by trivial) i hp
      have HE := Lib.hid hE
      clear HSN HSA hp hE
      rcases HR1.out.blk with ⟨rfl, rfl⟩ | ⟨g, cap, rfl, _, hb, hcp, hmx, hrg⟩
      · exact absurd hil (by simp)
      · have hcell := HT1.out.row
        have HRS := Lib.hid (rowT_setVal hb hcp hmx hrg HG.out (by omega) i hil x HWX.out)
        have hval := cell_val (range_ent hrg HG.out i hil) (HG.out _ (List.getElem_mem hil)).1.len
        have hfz := (hb.there (i * 19 + 18) 1 (by omega) 0 (by omega)).2
        rw [Nat.add_zero] at hfz
        have hNg : g ≠ G := HNN.out g rfl
        have hb1 : (0 : Int) ≤ (i : Int) := by omega
        have hb2 : (i : Int) < (es.length : Int) := by omega
        have hb3 : i < es.length := hil
        obtain ⟨y, hy⟩ : ∃ y, es[i] = y := ⟨_, rfl⟩
        rw [hy] at hval
        obtain ⟨N, hNn⟩ : ∃ N, es.length = N := ⟨_, rfl⟩
        rw [hNn] at hcell hb2 hb3
        clear hy hNn hrg hcp hb HP1 HR1
        go_wp2_with fail
        go_ret
        have hf3 := foot_cell w1 g (i * 19 + 18) (.int .i64 x)
        refine ⟨by rw [← HCC.out]; rfl, _, ⟨_, rfl, HT1.out.foot hf3 (by simp; omega), by rw [HE.out]; exact HRS.out, HSR.out, fun k hk => HNN.out k hk⟩, ?_⟩
        exact (Foot.ofBelow _ HB1.out).trans (hf3.into (by simp [blkL, Value.ownBlock]))
    | false =>
      have HE := Lib.hid (HSN.out (by trivial) i hp)
      clear HSN HSA hp
      have FIN : ∀ w5 v5, Hid (Tab w5 G v st) → Hid (RowT w5 0 v5 (es.take i ++ [⟨f, bs, n.toNat, x⟩] ++ es.drop i)) → Hid (Foot (blkL v) (blkL v5) w1 w5) → Hid (∀ g, v5.ownBlock = some g → g ≠ G) →
          (Ending.returned (Value.int IntKind.i64 0) = Ending.returned (Value.int IntKind.i64 c) ∧ ∃ F', TabAt (w5.setCell ⟨G, 0, none⟩ v5) G R st F' ∧ Foot (G :: blkL v) F' w (w5.setCell ⟨G, 0, none⟩ v5)) := fun w5 v5 h1 h2 h3 h4 => by
        have hf3 := foot_cell w5 G 0 v5
        refine ⟨by rw [← HCC.out], G :: blkL v5, ⟨v5, rfl, h1.out.setRow v5, ?_, HSR.out, h4.out⟩, ?_⟩
        · rw [HE.out]
          exact h2.out.foot hf3 (fun k hk e => h4.out k hk (by simpa using e))
        · exact ((Foot.ofBelow _ HB1.out).trans (Foot.wide h3.out)).trans (hf3.into (by simp))
      obtain ⟨e5, he5⟩ : ∃ e5 : Ent, (⟨f, bs, n.toNat, x⟩ : Ent) = e5 := ⟨_, rfl⟩
      have HGE : Hid e5.Good := Lib.hid (by rw [← he5]; exact ⟨HGP.out, HWX.out⟩)
      have HEL : Hid (entL f bs n x = e5.L) := Lib.hid (by rw [← he5, Ent.L_eq]; show entL f bs n x = entL f bs ((n.toNat : Nat) : Int) x; rw [← HNT.out])
      rw [he5] at FIN
      clear he5 HE
      have hcell := HT1.out.row
      go_upto_region 6 with fail
      obtain ⟨L, hL⟩ : ∃ L, [(w.heap.size, 0, prefL f bs n)] = L := ⟨_, rfl⟩
      have HK : Hid (HeldL L w1.drew) := Lib.hid (by rw [← hL]; intro x hx; rw [List.mem_singleton.1 hx]; exact HP1.out.range)
      have MP : Hid (InL L w.heap.size 0 (prefL f bs n)) := Lib.hid (fun W h => h.get (by rw [← hL]; simp))
      have HVL : Hid (∀ g, v.ownBlock = some g → g < w.heap.size) := Lib.hid (fun g hg => HAA.out.lt.2 g (List.mem_cons_of_mem _ (mem_blkL.2 hg)))
      have HGL : Hid (G < w.heap.size) := Lib.hid (HAA.out.lt.2 G (by simp))
      have HKN : Hid (∀ W' v5, Foot (blkL v) (blkL v5) w1 W' → HeldL L W') := Lib.hid (fun W' v5 hf => by
        rw [← hL]; intro x hx; rw [List.mem_singleton.1 hx]
        exact range_foot hf HP1.out.range HP1.out.addr.lt (fun e => by have := HVL.out _ (mem_blkL.1 e); omega))
      have HKN : Hid (∀ W' {v5 : Value}, Foot (blkL v) (blkL v5) w1 W' → HeldL L W') := Lib.hid (fun W' v5 hf => HKN.out W' v5 hf)
      have HKG : Hid (∀ W' (v5 : Value), HeldL L W' → HeldL L (W'.setCell ⟨G, 0, none⟩ v5)) := Lib.hid (fun W' v5 h => by
        rw [← hL] at h ⊢; intro x hx; rw [List.mem_singleton.1 hx]
        exact World.rangeAt_setCells_apart (h _ (by simp)) G 0 [v5] (.inl (by have := HGL.out; show w.heap.size ≠ G; omega)))
      have HIN : ∀ V1, Hid (Below w1.heap.size w1 V1) → Hid (V1 = w1.drew.alloc (.cells e5.L.toArray 42) → Calls Try.prog 42 #[v, .int .i64 (i : Int), .slice (some ⟨w1.heap.size, 0, none⟩) 1 1] V1 (InsE v (es.take i ++ [e5] ++ es.drop i) V1)) := fun V1 hb => Lib.hid (fun hV => by
        refine insert_any v es i e5 w1.heap.size 1 V1 (HR1.out.below hb.out) hile HGE.out hle ?_ ?_ ?_
        · rw [hV]; exact buildS_new (w := w1.drew) _
        · rw [hV]; exact blk_new w1.drew _ _ (by rw [List.size_toArray]; exact Ent.L_len e5 HGE.out.1.len)
        · intro g hg e
          have h1 := HVL.out g hg
          have h2 := HB1.out.size
          omega)
      clear hL HR1
      generalize (es.take i ++ [e5] ++ es.drop i) = Rn at *
      have hcD : w1.drew.cell? ⟨G, 0, none⟩ = some v := hcell
      refine wp_region_noPanic ?_
      refine wp_region_held_drew (S := HeldL L) (by kernel_rfl) HK.out (fun hHeld => ?_)
      refine wpAnyH_take (i := 0) (v := ?_) rfl (by kernel_rfl) (by kernel_rfl) (by kernel_rfl) (fun _ _ _ h => h) (Or.inl ⟨by rfl, ?_⟩) (by assumption) ?_
      rotate_left
      · (intro w hSw; go_simp; try (with_reducible rfl))
      try simp only [Act.put, List.getElem_toArray, List.getElem_cons_zero, List.setIfInBounds_toArray, List.set_cons_zero, List.set_cons_succ]
      refine wpAnyH_take (i := 1) (v := ?_) rfl (by kernel_rfl) (by kernel_rfl) (by kernel_rfl) (fun _ _ _ h => h) (Or.inl ⟨by rfl, ?_⟩) (by assumption) ?_
      rotate_left
      · (intro w hSw; go_simp; try (with_reducible rfl))
      try simp only [Act.put, List.getElem_toArray, List.getElem_cons_zero, List.getElem_cons_succ, List.setIfInBounds_toArray, List.set_cons_zero, List.set_cons_succ]
      refine wpAnyH_take (i := 2) (v := ?_) rfl (by kernel_rfl) (by kernel_rfl) (by kernel_rfl) (fun _ _ _ h => h) (Or.inl ⟨by rfl, ?_⟩) (by assumption) ?_
      rotate_left
      · (intro w hSw; go_simp; try (with_reducible rfl))
      try simp only [Act.put, List.getElem_toArray, List.getElem_cons_zero, List.getElem_cons_succ, List.setIfInBounds_toArray, List.set_cons_zero, List.set_cons_succ]
      refine wpAnyH_take (i := 3) (v := ?_) rfl (by kernel_rfl) (by kernel_rfl) (by kernel_rfl) (fun _ _ _ h => h) (Or.inl ⟨by rfl, ?_⟩) (by assumption) ?_
      rotate_left
      · (intro w hSw; go_simp; try (with_reducible rfl))
      try simp only [Act.put, List.getElem_toArray, List.getElem_cons_zero, List.getElem_cons_succ, List.setIfInBounds_toArray, List.set_cons_zero, List.set_cons_succ]
      refine wpAnyH_take (i := 5) (v := ?_) rfl (by kernel_rfl) (by kernel_rfl) (by kernel_rfl) (fun _ _ _ h => h) (Or.inl ⟨by rfl, ?_⟩) (by assumption) ?_
      rotate_left
      · (intro w hSw; go_simp; try (with_reducible rfl))
      try simp only [Act.put, List.getElem_toArray, List.getElem_cons_zero, List.getElem_cons_succ, List.setIfInBounds_toArray, List.set_cons_zero, List.set_cons_succ]
      refine wpAnyH_take (i := 6) rfl (by kernel_rfl) (by kernel_rfl) (by kernel_rfl) (fun _ _ _ h => h) (yields_pref_l H16 MP (by rfl) _ rfl rfl) (by assumption) ?_
      try simp only [Act.put, List.getElem_toArray, List.getElem_cons_zero, List.getElem_cons_succ, List.setIfInBounds_toArray, List.set_cons_zero, List.set_cons_succ]
      refine wpAnyH_take (i := 7) (v := ?_) rfl (by kernel_rfl) (by kernel_rfl) (by kernel_rfl) (fun _ _ _ h => h) (Or.inl ⟨by rfl, ?_⟩) (by assumption) ?_
      rotate_left
      · (intro w hSw; go_simp; try (with_reducible rfl))
      try simp only [Act.put, List.getElem_toArray, List.getElem_cons_zero, List.getElem_cons_succ, List.setIfInBounds_toArray, List.set_cons_zero, List.set_cons_succ]
      refine wpAnyH_take (i := 8) rfl (by kernel_rfl) (by kernel_rfl) (by kernel_rfl) (fun _ _ _ h => h) (yields_build_entT H16 (by rfl) _ _ rfl rfl rfl) (by assumption) ?_
      try simp only [Act.put, List.getElem_toArray, List.getElem_cons_zero, List.getElem_cons_succ, List.setIfInBounds_toArray, List.set_cons_zero, List.set_cons_succ]
      refine wpAnyH_ready (rs := [4, 9]) (by kernel_rfl) (by simp) ?_
      refine AllReadyH.cons rfl (fun K hK => ?_) (AllReadyH.one rfl rfl (fun K hK => ?_))
      · rw [if_pos (by rfl)]
        go_wp2_with fail
        refine hK.out _ _ hHeld (fun hHeld0 => ?_)
        clear hK K
        try simp only [Act.put, List.getElem_toArray, List.getElem_cons_zero, List.getElem_cons_succ, List.setIfInBounds_toArray, List.set_cons_zero, List.set_cons_succ]
        refine wpAnyH_ready (rs := [9]) (by kernel_rfl) (by simp) ?_
        refine AllReadyH.one rfl rfl (fun K hK => ?_)
        refine wp_build_entST H16 _ rfl rfl (fun V1 HVE => ?_)
        rw [HEL.out] at HVE
        have HV1 : Hid (Below w1.heap.size w1 V1) := Lib.hid (by rw [HVE.out]; exact (Below.refl _ _).drew.alloc (Nat.le_refl _) _)
        have hS1 := HKN.out V1 (v5 := v) (Foot.ofBelow _ HV1.out)
        refine hK.out _ _ hS1 (fun hHeld1 => ?_)
        clear hK K
        try simp only [Act.put, List.getElem_toArray, List.getElem_cons_zero, List.getElem_cons_succ, List.setIfInBounds_toArray, List.set_cons_zero, List.set_cons_succ]
        refine wpAnyH_ready (rs := [10]) (by kernel_rfl) (by simp) ?_
        refine AllReadyH.cons rfl (fun K hK => ?_) AllReadyH.nil
        go_simp
        refine ((HIN V1 HV1).out HVE.out).mono ?_
        rintro e w5 ⟨v5, rfl, hr5, hf5⟩
        have hfT := (Foot.ofBelow (blkL v) HV1.out).trans hf5
        have HT5 := Lib.hid (HT1.out.foot hfT (fun e => HNN.out G (mem_blkL.1 e) rfl))
        have HR5 := Lib.hid hr5
        have HF5 := Lib.hid hfT
        have HN5 : Hid (∀ g, v5.ownBlock = some g → g ≠ G) := Lib.hid (fun g hg => by
          rcases hfT.new g (mem_blkL.2 hg) with e | e
          · exact HNN.out g (mem_blkL.1 e)
          · have := HT1.out.lt; omega)
        have hS5 := HKN.out w5 hfT
        clear hr5 hf5 hfT HIN
        go_wp2_with fail
        refine hK.out _ _ hS5 (fun hHeld5 => ?_)
        clear hK K
        try simp only [Act.put, List.getElem_toArray, List.getElem_cons_zero, List.getElem_cons_succ, List.setIfInBounds_toArray, List.set_cons_zero, List.set_cons_succ]
        have hc5 := HT5.out.row
        have hf5 := HT5.out.frow
        have HS6 := Lib.hid (HKG.out w5 v5 hS5)
        refine wpAnyH_take (i := 11) (v := ?_) rfl (by kernel_rfl) (by kernel_rfl) (by kernel_rfl) (fun _ _ _ h => h) (Or.inl ⟨by rfl, ?_⟩) (by assumption) ?_
        rotate_left
        · (intro w hSw; go_simp; try (with_reducible rfl))
        try simp only [Act.put, List.getElem_toArray, List.getElem_cons_zero, List.getElem_cons_succ, List.setIfInBounds_toArray, List.set_cons_zero, List.set_cons_succ]
        refine wpAnyH_take (i := 12) (v := ?_) rfl (by kernel_rfl) (by kernel_rfl) (by kernel_rfl) (fun _ _ _ h => h) (Or.inl ⟨by rfl, ?_⟩) (by assumption) ?_
        rotate_left
        · (intro w hSw; go_simp; try (with_reducible rfl))
        try simp only [Act.put, List.getElem_toArray, List.getElem_cons_zero, List.getElem_cons_succ, List.setIfInBounds_toArray, List.set_cons_zero, List.set_cons_succ]
        refine wpAnyH_ready (rs := [13]) (by kernel_rfl) (by simp) ?_
        refine AllReadyH.one rfl rfl (fun K hK => ?_)
        rcases HR5.out.form with ⟨rfl, _⟩ | ⟨g5, cap5, rfl, _⟩
        · go_wp2_with fail
          refine hK.out _ _ HS6.out (fun hHeld6 => ?_)
          clear hK K
          try simp only [Act.put, List.getElem_toArray, List.getElem_cons_zero, List.getElem_cons_succ, List.setIfInBounds_toArray, List.set_cons_zero, List.set_cons_succ]
          refine wpAnyH_done (by kernel_rfl) ?_ _
          refine NoPanic.normal ?_
          go_wp2_with fail
          go_ret
          exact FIN w5 _ HT5 HR5 HF5 HN5
        · go_wp2_with fail
          refine hK.out _ _ HS6.out (fun hHeld6 => ?_)
          clear hK K
          try simp only [Act.put, List.getElem_toArray, List.getElem_cons_zero, List.getElem_cons_succ, List.setIfInBounds_toArray, List.set_cons_zero, List.set_cons_succ]
          refine wpAnyH_done (by kernel_rfl) ?_ _
          refine NoPanic.normal ?_
          go_wp2_with fail
          go_ret
          exact FIN w5 _ HT5 HR5 HF5 HN5
      · skip
        refine wp_build_entST H16 _ rfl rfl (fun V1 HVE => ?_)
        rw [HEL.out] at HVE
        have HV1 : Hid (Below w1.heap.size w1 V1) := Lib.hid (by rw [HVE.out]; exact (Below.refl _ _).drew.alloc (Nat.le_refl _) _)
        have hS1 := HKN.out V1 (v5 := v) (Foot.ofBelow _ HV1.out)
        refine hK.out _ _ hS1 (fun hHeld1 => ?_)
        clear hK K
        try simp only [Act.put, List.getElem_toArray, List.getElem_cons_zero, List.getElem_cons_succ, List.setIfInBounds_toArray, List.set_cons_zero, List.set_cons_succ]
        have hc1 : V1.cell? ⟨G, 0, none⟩ = some v := (HT1.out.below HV1.out).row
        refine wpAnyH_ready (rs := [4]) (by kernel_rfl) (by simp) ?_
        refine AllReadyH.one rfl rfl (fun K hK => ?_)
        go_wp2_with fail
        refine hK.out _ _ hS1 (fun hHeld0 => ?_)
        clear hK K
        try simp only [Act.put, List.getElem_toArray, List.getElem_cons_zero, List.getElem_cons_succ, List.setIfInBounds_toArray, List.set_cons_zero, List.set_cons_succ]
        refine wpAnyH_ready (rs := [10]) (by kernel_rfl) (by simp) ?_
        refine AllReadyH.cons rfl (fun K hK => ?_) AllReadyH.nil
        go_simp
        refine ((HIN V1 HV1).out HVE.out).mono ?_
        rintro e w5 ⟨v5, rfl, hr5, hf5⟩
        have hfT := (Foot.ofBelow (blkL v) HV1.out).trans hf5
        have HT5 := Lib.hid (HT1.out.foot hfT (fun e => HNN.out G (mem_blkL.1 e) rfl))
        have HR5 := Lib.hid hr5
        have HF5 := Lib.hid hfT
        have HN5 : Hid (∀ g, v5.ownBlock = some g → g ≠ G) := Lib.hid (fun g hg => by
          rcases hfT.new g (mem_blkL.2 hg) with e | e
          · exact HNN.out g (mem_blkL.1 e)
          · have := HT1.out.lt; omega)
        have hS5 := HKN.out w5 hfT
        clear hr5 hf5 hfT HIN
        go_wp2_with fail
        refine hK.out _ _ hS5 (fun hHeld5 => ?_)
        clear hK K
        try simp only [Act.put, List.getElem_toArray, List.getElem_cons_zero, List.getElem_cons_succ, List.setIfInBounds_toArray, List.set_cons_zero, List.set_cons_succ]
        have hc5 := HT5.out.row
        have hf5 := HT5.out.frow
        have HS6 := Lib.hid (HKG.out w5 v5 hS5)
        refine wpAnyH_take (i := 11) (v := ?_) rfl (by kernel_rfl) (by kernel_rfl) (by kernel_rfl) (fun _ _ _ h => h) (Or.inl ⟨by rfl, ?_⟩) (by assumption) ?_
        rotate_left
        · (intro w hSw; go_simp; try (with_reducible rfl))
        try simp only [Act.put, List.getElem_toArray, List.getElem_cons_zero, List.getElem_cons_succ, List.setIfInBounds_toArray, List.set_cons_zero, List.set_cons_succ]
        refine wpAnyH_take (i := 12) (v := ?_) rfl (by kernel_rfl) (by kernel_rfl) (by kernel_rfl) (fun _ _ _ h => h) (Or.inl ⟨by rfl, ?_⟩) (by assumption) ?_
        rotate_left
        · (intro w hSw; go_simp; try (with_reducible rfl))
        try simp only [Act.put, List.getElem_toArray, List.getElem_cons_zero, List.getElem_cons_succ, List.setIfInBounds_toArray, List.set_cons_zero, List.set_cons_succ]
        refine wpAnyH_ready (rs := [13]) (by kernel_rfl) (by simp) ?_
        refine AllReadyH.one rfl rfl (fun K hK => ?_)
        rcases HR5.out.form with ⟨rfl, _⟩ | ⟨g5, cap5, rfl, _⟩
        · go_wp2_with fail
          refine hK.out _ _ HS6.out (fun hHeld6 => ?_)
          clear hK K
          try simp only [Act.put, List.getElem_toArray, List.getElem_cons_zero, List.getElem_cons_succ, List.setIfInBounds_toArray, List.set_cons_zero, List.set_cons_succ]
          refine wpAnyH_done (by kernel_rfl) ?_ _
          refine NoPanic.normal ?_
          go_wp2_with fail
          go_ret
          exact FIN w5 _ HT5 HR5 HF5 HN5
        · go_wp2_with fail
          refine hK.out _ _ HS6.out (fun hHeld6 => ?_)
          clear hK K
          try simp only [Act.put, List.getElem_toArray, List.getElem_cons_zero, List.getElem_cons_succ, List.setIfInBounds_toArray, List.set_cons_zero, List.set_cons_succ]
          refine wpAnyH_done (by kernel_rfl) ?_ _
          refine NoPanic.normal ?_
          go_wp2_with fail
          go_ret
          exact FIN w5 _ HT5 HR5 HF5 HN5
end Go.Proofs.Ytjpjobbmljlacaa
/- Rows of raw entries; contract of table.New. -/
namespace Go.Proofs.Ytjpjobbmljlacaa
open Go.RowKit
set_option linter.unusedVariables false
set_option maxRecDepth 20000

/-- An entry as it is handed in: its prefix may be none that may be. -/
structure Raw where
  f : Int
  b : List Nat
  n : Int
  v : Int
def Raw.L (r : Raw) : List Value := entL r.f r.b r.n r.v
def Raw.Ok (r : Raw) : Prop := r.b.length = 16 ∧ (∀ y ∈ r.b, y < 256) ∧ (Lit.int .i64 r.n).wf = true ∧ (Lit.int .i64 r.v).wf = true
def flatR (rs : List Raw) : List Value := rs.flatMap Raw.L
def AllOk (rs : List Raw) : Prop := ∀ r ∈ rs, r.Ok
theorem Raw.L_len (r : Raw) (h : r.Ok) : r.L.length = 19 := entL_len r.f r.b r.n r.v h.1
theorem flatR_len : ∀ (rs : List Raw), AllOk rs → (flatR rs).length = rs.length * 19
  | [], _ => rfl
  | r :: rs, h => by
    have h1 := Raw.L_len r (h r (by simp))
    have h2 := flatR_len rs (fun x hx => h x (by simp [hx]))
    show (r.L ++ flatR rs).length = _
    rw [List.length_append, h1, h2, List.length_cons]
    omega
theorem flatR_at : ∀ (rs : List Raw), AllOk rs → ∀ k (hk : k < rs.length) j, j < 19 → (flatR rs)[k * 19 + j]? = (rs[k]).L[j]?
  | [], _, k, hk, j, hj => absurd hk (by simp)
  | r :: rs, h, k, hk, j, hj => by
    have h1 := Raw.L_len r (h r (by simp))
    show (r.L ++ flatR rs)[k * 19 + j]? = _
    cases k with
    | zero => rw [Nat.zero_mul, Nat.zero_add, List.getElem?_append_left (by omega)]; rfl
    | succ k =>
      rw [List.getElem?_append_right (by omega), h1, show (k + 1) * 19 + j - 19 = k * 19 + j by omega]
      exact flatR_at rs (fun x hx => h x (by simp [hx])) k (by simpa using hk) j hj
theorem range_raw {w : World} {g : Nat} {rs : List Raw} (h : w.rangeAt g 0 (flatR rs)) (hg : AllOk rs) (k : Nat) (hk : k < rs.length) : w.rangeAt g (k * 19) (entL rs[k].f rs[k].b rs[k].n rs[k].v) := by
  intro j u hu
  have hl := Raw.L_len (rs[k]) (hg _ (List.getElem_mem hk))
  have hj : j < 19 := by
    apply Classical.byContradiction
    intro h2
    rw [List.getElem?_eq_none (by show (rs[k]).L.length ≤ j; omega)] at hu
    cases hu
  have := h (k * 19 + j) u (by rw [flatR_at rs hg k hk j hj]; exact hu)
  rw [Nat.zero_add] at this
  exact this
/-- What there is when entries are set one behind the other. -/
def newE (rs : List Raw) (k : Nat) : List Ent := (rs.take k).foldl (fun es r => setE es r.f r.b r.n r.v) []
theorem newE_succ (rs : List Raw) (k : Nat) (hk : k < rs.length) : newE rs (k + 1) = setE (newE rs k) rs[k].f rs[k].b rs[k].n rs[k].v := foldl_take (fun (es : List Ent) (r : Raw) => setE es r.f r.b r.n r.v) [] rs k hk
theorem newE_len (rs : List Raw) : ∀ k, (newE rs k).length ≤ k
  | 0 => by simp [newE]
  | k + 1 => by
    by_cases hk : k < rs.length
    · rw [newE_succ rs k hk]
      have h1 := setE_len (newE rs k) rs[k].f rs[k].b rs[k].n rs[k].v
      have h2 := newE_len rs k
      omega
    · have : rs.take (k + 1) = rs.take k := by rw [List.take_of_length_le (by omega), List.take_of_length_le (by omega)]
      unfold newE
      rw [this]
      exact Nat.le_trans (newE_len rs k) (Nat.le_succ _)
theorem EntAt.val {w : World} {G : Nat} {f : Int} {bs : List Nat} {n v : Int} (h : EntAt w G f bs n v) : w.cell? ⟨G, 18, none⟩ = some (.int .i64 v) := by
  have := h.range 18 (.int .i64 v) (by unfold entL; rw [List.getElem?_append_right (by rw [prefL_len _ _ _ h.len]; exact Nat.le_refl _), prefL_len _ _ _ h.len]; rfl)
  rw [Nat.zero_add] at this
  exact this
theorem below_newT {w W : World} {f : Int} {bs : List Nat} {n v : Int} (h : Hid (W = (w.alloc (.cells zE 42)).setCells w.heap.size 0 (entL f bs n v))) : Below w.heap.size w W := by
  rw [h.out]; exact below_cells (Nat.le_refl _) _ _ _ ((Below.refl _ _).alloc (Nat.le_refl _) _)
/-- A fresh table of nothing. -/
theorem tab_new (w : World) : TabAt (w.alloc (.cells #[.slice none 0 0, .int .i64 0] 66)) w.heap.size [] 0 [w.heap.size] := by
  have hh : (w.alloc (.cells #[.slice none 0 0, .int .i64 0] 66)).heap[w.heap.size]? = some (.cells #[.slice none 0 0, .int .i64 0] 66) := by show (w.heap.push _)[w.heap.size]? = _; simp
  refine ⟨.slice none 0 0, rfl, ⟨by simp, ?_, ?_, ?_, ?_⟩, RowT.nil _ _, sorted_nil, (fun g hg => by cases hg)⟩
  · rw [cell_of_row _ _ 0 _ _ _ hh]; rfl
  · rw [cell_of_row _ _ 1 _ _ _ hh]; rfl
  · unfold World.frozen?; rw [hh]; rfl
  · unfold World.frozen?; rw [hh]; rfl
set_option maxRecDepth 100000 in
set_option maxHeartbeats 1000000 in
theorem new_some (g cap : Nat) (rs : List Raw) (w : World) (hr : w.rangeAt g 0 (flatR rs)) (hg : g < w.heap.size) (hok : AllOk rs) (hle : rs.length ≤ 900) :
    Calls Try.prog 9 #[.slice (some ⟨g, 0, none⟩) rs.length cap] w fun e w' => ∃ G F, e = .returned (.pointer (some ⟨G, 0, none⟩)) ∧ TabAt w' G (newE rs rs.length) 0 F ∧ (∀ k ∈ F, w.heap.size ≤ k) ∧ Below w.heap.size w w' := by
  have HR := Lib.hid hr
  have HG := Lib.hid hg
  have HOK := Lib.hid hok
  have HT0 := Lib.hid (tab_new w)
  have HB0 : Hid (Below w.heap.size w (w.alloc (.cells #[.slice none 0 0, .int .i64 0] 66))) := Lib.hid ((Below.refl _ _).alloc (Nat.le_refl _) _)
  obtain ⟨N, hN⟩ : ∃ N, rs.length = N := ⟨_, rfl⟩
  rw [hN] at hle ⊢
  have HN := Lib.hid hN
  clear hr hg hok hN
  go_enter Try.func9, Try.ntmps9
  go_upto_region 2 with fail
  generalize (w.alloc (.cells #[.slice none 0 0, .int .i64 0] 66)) = W at *
  go_wp2_with fail
  go_loopw [10] (fun i wr => ∃ (k : Nat) (F : List Nat), k ≤ N ∧ i = .int .i64 (k : Int) ∧ Hid (TabAt wr w.heap.size (newE rs k) 0 F) ∧ Hid (∀ j ∈ F, w.heap.size ≤ j) ∧ Hid (Below w.heap.size w wr)) (fun i _ => N - (intOf i).toNat)
  case atStart => exact ⟨0, [w.heap.size], Nat.zero_le _, rfl, HT0, Lib.hid (by simp), HB0⟩
  case round =>
    obtain ⟨k, F, hk, rfl, HT, HF, HB⟩ := hrel
    clear HT0 HB0
    by_cases hkN : k < N
    · have hd : decide ((k : Int) < (N : Int)) = true := by simp; omega
      have hkr : k < rs.length := by rw [HN.out]; exact hkN
      obtain ⟨r, hrk⟩ : ∃ r, rs[k] = r := ⟨_, rfl⟩
      have HRK : Hid (wr.rangeAt g (k * 19) (entL r.f r.b r.n r.v)) := Lib.hid (by have := range_raw (range_belowB HR.out HB.out HG.out) HOK.out k hkr; rw [hrk] at this; exact this)
      have HOR : Hid r.Ok := Lib.hid (by rw [← hrk]; exact HOK.out _ (List.getElem_mem hkr))
      have HSU : Hid (newE rs (k + 1) = setE (newE rs k) r.f r.b r.n r.v) := Lib.hid (by rw [newE_succ rs k hkr, hrk])
      have H16 := Lib.hid HOR.out.1
      have HZ := Lib.hid (entT_zeroed wr)
      have hb1 : (0 : Int) ≤ (k : Int) := by omega
      have hb2 : (k : Int) < (N : Int) := by omega
      clear hrk hkr
      go_upto_region 5 with (first | refine load_entT_o H16 HRK _ rfl rfl rfl ?_ | refine store_entT HZ _ _ H16 rfl rfl rfl rfl (fun W1 HW1 HE1 => ?_))
      have HB1 := Lib.hid (below_newT HW1)
      have HT1 := Lib.hid (HT.out.below HB1.out)
      have HBB := Lib.hid (chain HB.out HB1.out)
      have HEP := Lib.hid HE1.out.pref
      have hval := HE1.out.val
      clear HRK HZ HT HW1
      go_wp2_with (refine load_pref_o H16 HEP _ rfl rfl rfl ?_)
      refine (tabSet_any w.heap.size (newE rs k) 0 F r.f r.b r.n r.v W1 HT1.out HOR.out.1 HOR.out.2.1 HOR.out.2.2.1 HOR.out.2.2.2 (Nat.le_trans (newE_len rs k) (by omega))).mono ?_
      rintro e w2 ⟨rfl, F2, hT2, hf2⟩
      have HT2 : Hid (TabAt w2 w.heap.size (newE rs (k + 1)) 0 F2) := Lib.hid (by rw [HSU.out]; exact hT2)
      have HF2 : Hid (∀ j ∈ F2, w.heap.size ≤ j) := Lib.hid (fun j hj => by
        rcases hf2.new j hj with e | e
        · exact HF.out j e
        · exact Nat.le_trans HBB.out.size e)
      have HB2 := Lib.hid (HBB.out.trans (hf2.below HF.out HBB.out.size))
      clear HT1 HEP hval HE1 HBB HF hT2 hf2 HB1 HB
      go_wp2_with fail
      go_roundw
      case rel => exact ⟨k + 1, F2, by omega, by go_num, HT2, HF2, HB2⟩
      case measure => simp [intOf]; omega
    · obtain rfl : k = N := by omega
      have hd : decide ((k : Int) < (k : Int)) = false := by simp
      go_wp2_with fail
      go_ret
      exact ⟨w.heap.size, F, rfl, HT.out, HF.out, HB.out⟩
theorem new_nil (w : World) : Calls Try.prog 9 #[.slice none 0 0] w fun e w' => ∃ G F, e = .returned (.pointer (some ⟨G, 0, none⟩)) ∧ TabAt w' G [] 0 F ∧ (∀ k ∈ F, w.heap.size ≤ k) ∧ Below w.heap.size w w' := by
  have HT0 := Lib.hid (tab_new w)
  have HB0 : Hid (Below w.heap.size w (w.alloc (.cells #[.slice none 0 0, .int .i64 0] 66))) := Lib.hid ((Below.refl _ _).alloc (Nat.le_refl _) _)
  go_enter Try.func9, Try.ntmps9
  go_upto_region 2 with fail
  generalize (w.alloc (.cells #[.slice none 0 0, .int .i64 0] 66)) = W at *
  go_wp2_with fail
  go_loop [10] (fun i => i = .int .i64 0) (fun _ => 0)
  case atStart => rfl
  case round =>
    obtain rfl := hrel
    go_wp2_with fail
    go_ret
    exact ⟨w.heap.size, rfl, [w.heap.size], HT0.out, (fun k hk => by rw [List.mem_singleton.1 hk]; exact Nat.le_refl _), HB0.out⟩
/-- What the laws ask of a table. -/
def ownKit : TabKit where
  At := fun w G es st F => st = 0 ∧ TabAt w G es 0 F
  lt := fun h => h.2.lt
  keep := fun h hs hk => ⟨h.1, h.2.keep hs hk⟩
  set := fun f bs n x h h16 hlt hn hx hle => (tabSet_any _ _ _ _ f bs n x _ h.2 h16 hlt hn hx (by omega)).mono fun e w' ⟨h1, F', h2, h3⟩ => ⟨h1, 0, F', ⟨rfl, h2⟩, h3⟩
  drop := fun f bs n h h16 hlt hn hle => (tabDrop_any _ _ _ _ f bs n _ h.2 h16 hlt).mono fun e w' ⟨h1, F', h2, h3⟩ => ⟨h1, 0, F', ⟨rfl, h2⟩, h3⟩
  new0 := fun w => (new_nil w).mono fun e w' ⟨G, F, h1, h2, h3, h4⟩ => ⟨G, 0, F, h1, ⟨rfl, h2⟩, h3, h4⟩
  get := fun f bs n h h16 hlt hn hle => by
    have h2 := h.2
    obtain ⟨v, rfl, hT, hR, hs, hN⟩ := h2
    exact (tabGet_any _ v _ _ f bs n _ hT hR hs h16 hlt).mono fun e w' ⟨h1, hb⟩ => ⟨h1, 0, _, ⟨rfl, h.2.below hb⟩, Foot.ofBelow _ hb⟩
end Go.Proofs.Ytjpjobbmljlacaa
/- Contracts of slices.Clone, slices.Values and Table.All: the iterator that All answers. -/
namespace Go.Proofs.Ytjpjobbmljlacaa
open Go.RowKit
set_option linter.unusedVariables false
set_option maxRecDepth 20000

def encE (e : Ent) : Value := entV e.f e.b (e.n : Int) e.v
theorem wp_of_listIn {P : Program} {id : Nat} {l : List Oper} {Q : Exit → Act → World → Prop} {a : Act} {w : World} (h : wpListIn Fence.wide 0 P l.toArray Q l a w) : (Code.region id l.toArray false).wp P Q a w :=
  (wpIn_wide (n := 0)).1 (wpIn_region_lit h)
theorem exec_entT {o : Oper} {a : Act} {w : World} {G b : Nat} {f : Int} {bs : List Nat} {n v : Int} (hl : bs.length = 16) (hA : w.rangeAt G b (entL f bs n v)) (x : Operand) (ho : o.op = .load 42 x) (hx : a.eval x = .pointer (some ⟨G, b, none⟩)) :
    (execOp a.eval o).run Try.prog w = .ok (.value (entV f bs n v)) w := by
  unfold execOp
  simp only [ho, hx, Sem.run_bind, run_loadAt_mid w G b 42 (entL f bs n v) _ hA Try.underlying42 rfl (by rw [entT_size, entL_len f bs n v hl])]
  rfl
set_option maxRecDepth 100000 in
set_option maxHeartbeats 1000000 in
theorem values1_some (B g cap : Nat) (es : List Ent) (M : List Nat) (w : World) (hB : w.cell? ⟨B, 0, none⟩ = some (.slice (some ⟨g, 0, none⟩) es.length cap)) (hr : w.rangeAt g 0 (flatE es)) (hgl : g < w.heap.size) (hgM : g ∉ M) (hgood : AllGood es) (hle : es.length ≤ 1000) :
    Tells Try.prog 49 #[.pointer (some ⟨B, 0, none⟩)] es encE M w := by
  intro l J W hb hJ hY h0
  have hBl : B < w.heap.size := World.block_lt_of_cell? w ⟨B, 0, none⟩ hB
  have hcell : W.cell? ⟨B, 0, none⟩ = some (.slice (some ⟨g, 0, none⟩) es.length cap) := (hb.cell (p := ⟨B, 0, none⟩) hBl).trans hB
  have HR := Lib.hid (range_belowB hr hb hgl)
  have HGW : Hid (g < W.heap.size) := Lib.hid (Nat.lt_of_lt_of_le hgl hb.size)
  have HG := Lib.hid hgood
  have HGM := Lib.hid hgM
  have HJ := Lib.hid hJ
  have HY := Lib.hid hY
  have H0 := Lib.hid h0
  obtain ⟨N, hN⟩ : ∃ N, es.length = N := ⟨_, rfl⟩
  rw [hN] at hle hcell
  have HN := Lib.hid hN
  clear hr hgl hgM hgood hJ hY h0 hb hB hBl hN
  refine callsIn_of_wp Try.func49 rfl trivial (wpIn_wide.2 ?_)
  simp only [Try.ntmps49, List.size_toArray, List.length_cons, List.length_nil, Nat.reduceAdd, Nat.reduceSub, Array.replicate_succ, Array.replicate_zero, List.push_toArray, List.append_toArray, List.nil_append, List.cons_append]
  go_wp2_with fail
  clear hcell
  go_loopw [7] (fun i wr => ∃ k : Nat, k ≤ N ∧ i = .int .i64 (k : Int) ∧ Hid (J k wr) ∧ Hid (wr.rangeAt g 0 (flatE es)) ∧ Hid (g < wr.heap.size)) (fun i _ => N - (intOf i).toNat)
  case atStart => exact ⟨0, Nat.zero_le _, rfl, H0, HR, HGW⟩
  case round =>
    clear H0 HR HGW
    obtain ⟨k, hk, rfl, HJk, HR, HGW⟩ := hrel
    by_cases hkN : k < N
    · have hd : decide ((k : Int) < (N : Int)) = true := by simp; omega
      have hkr : k < es.length := by rw [HN.out]; exact hkN
      have HYk := Lib.hid (HY.out k hkr)
      obtain ⟨y, hy⟩ : ∃ y, es[k] = y := ⟨_, rfl⟩
      have HRK : Hid (wr.rangeAt g (k * 19) (entL y.f y.b (y.n : Int) y.v)) := Lib.hid (by have := range_ent HR.out HG.out k hkr; rw [hy] at this; exact this)
      have H16 : Hid (y.b.length = 16) := Lib.hid (by rw [← hy]; exact (HG.out _ (List.getElem_mem hkr)).1.len)
      rw [hy] at HYk
      have HZ := Lib.hid (entT_zeroed wr)
      have hb1 : (0 : Int) ≤ (k : Int) := by omega
      have hb2 : (k : Int) < (N : Int) := by omega
      clear hy hkr HY
      go_upto_region 3 with (first | refine load_entT_o H16 HRK _ rfl rfl rfl ?_ | refine store_entT HZ _ _ H16 rfl rfl rfl rfl (fun W1 HW1 HE1 => ?_))
      have HB1 := Lib.hid (below_newT HW1)
      have HJ1 := Lib.hid (HJ.out k _ _ HJk.out HB1.out)
      have HR1 := Lib.hid (range_belowB HR.out HB1.out HGW.out)
      have HG1 : Hid (g < W1.heap.size) := Lib.hid (Nat.lt_of_lt_of_le HGW.out HB1.out.size)
      clear HRK HZ HJk HR HGW HW1
      refine wp_of_listIn ?_
      refine wide_step rfl rfl ?_
      refine wide_step rfl (exec_entT H16.out HE1.out.range _ rfl rfl) ?_
      refine yield_step (HYk.out _ HJ1.out) rfl _ _ rfl rfl rfl ?_
      rintro e w2 ⟨rfl, hj2, hf2⟩
      refine ⟨_, rfl, ?_⟩
      have HJ2 := Lib.hid hj2
      have HR2 := Lib.hid (range_foot hf2 HR1.out HG1.out HGM.out)
      have HG2 : Hid (g < w2.heap.size) := Lib.hid (Nat.lt_of_lt_of_le HG1.out hf2.size)
      clear hj2 hf2 HJ1 HR1 HG1 HE1 HYk HB1
      refine wide_step (v := .bool false) rfl rfl ?_
      refine wpListIn_nil ?_
      go_wp2_with fail
      go_roundw
      case rel => exact ⟨k + 1, by omega, by go_num, HJ2, HR2, HG2⟩
      case measure => simp [intOf]; omega
    · obtain rfl : k = N := by omega
      have hd : decide ((k : Int) < (k : Int)) = false := by simp
      go_wp2_with fail
      go_end0
      exact ⟨⟨_, rfl⟩, by rw [HN.out]; exact HJk.out⟩
end Go.Proofs.Ytjpjobbmljlacaa
/- Contract of the iterator that Table.having answers. -/
namespace Go.Proofs.Ytjpjobbmljlacaa
open Go.RowKit
set_option linter.unusedVariables false
set_option maxRecDepth 20000

theorem yields_addr_l {ops : Array Oper} {op : Oper} {a : Act} {L : List (Nat × Nat × List Value)} {G o : Nat} {f : Int} {bs : List Nat} (hl : Hid (bs.length = 16)) (hm : Hid (InL L G o (addrL f bs))) (hw : Region.wanted op (yielded ops a.tmps) = true) (x : Operand) (ho : op.op = .load 30 x)
    (hx : a.eval x = .pointer (some ⟨G, o, none⟩)) : YieldsIf Try.prog ops (HeldL L) op (addrV f bs) a :=
  yieldsIf_load_mid hw 30 x ho G o hx (addrL f bs) _ (fun w h => hm.out w h) Try.underlying30 rfl (by rw [addr_size, addrL_len f bs hl.out])
theorem hold_cmps (G : Nat) (v : Value) (st : Int) (f : Int) (bs : List Nat) (n : Int) (es : List Ent) (hg : AllGood es) (h16 : bs.length = 16) (hlt : ∀ y ∈ bs, y < 256) (h0 : 0 ≤ st) (h1 : st ≤ 900000) : Cmps 48 #[.pointer (some ⟨G, 0, none⟩)] f bs n es [G] (fun c W => Tab W G v (st + (c : Int))) := by
  intro c W e hc he hT
  have hG := hg e he
  have := tabHold_any G v (st + (c : Int)) e.f e.b (e.n : Int) e.v f bs n W hT (by omega) (by omega) hG.1.len h16 hG.1.lt hlt
  exact this.mono fun x w' ⟨h1, h2, h3⟩ => ⟨h1, by show Tab w' G v (st + ((c + 1 : Nat) : Int)); rw [show st + ((c + 1 : Nat) : Int) = st + (c : Int) + 1 by omega]; exact h2, h3⟩
theorem exec_indexT {o : Oper} {a : Act} {w : World} {g m cap i : Nat} (x y : Operand) (ho : o.op = .indexAddr 57 x y) (hx : a.eval x = .slice (some ⟨g, 0, none⟩) m cap) (hy : a.eval y = .int .i64 (i : Int)) (hi : i < m) :
    (execOp a.eval o).run Try.prog w = .ok (.value (.pointer (some ⟨g, i * 19, none⟩))) w := by
  have hu := run_underlying Try.underlying57 (w := w)
  have hb1 : (0 : Int) ≤ (i : Int) := by omega
  have hb2 : (i : Int) < (m : Int) := by omega
  have hz := sizeT w
  unfold execOp
  simp only [ho, hx, hy]
  go_simp
/-- What is kept while an address is looked for. -/
def FindInv (G : Nat) (es : List Ent) (st : Int) (F : List Nat) (W : World) : Prop := ∃ st', TabAt W G es st' F ∧ st ≤ st' ∧ st' ≤ st + 129 * ((bl es.length : Int) + 1)
set_option maxRecDepth 100000 in
set_option maxHeartbeats 2000000 in
theorem having1_some (G Bt Ba g cap : Nat) (es : List Ent) (st : Int) (f : Int) (us : List Nat) (w : World) (hT : Tab w G (.slice (some ⟨g, 0, none⟩) es.length cap) st) (hR : RowT w 0 (.slice (some ⟨g, 0, none⟩) es.length cap) es) (hs : SortedE es) (hgG : g ≠ G)
    (hBt : w.cell? ⟨Bt, 0, none⟩ = some (.pointer (some ⟨G, 0, none⟩))) (hBa : AddrAt w Ba f us) (hlt : ∀ y ∈ us, y < 256) (htG : Bt ≠ G) (haG : Ba ≠ G) (h0 : 0 ≤ st) (h1 : st ≤ 800000) :
    TellsOne Try.prog 44 #[.pointer (some ⟨Bt, 0, none⟩), .pointer (some ⟨Ba, 0, none⟩)] (findE es f us) encE G (FindInv G es st [G, g]) w := by
  intro l Jx W hb hY
  have hBtl : Bt < w.heap.size := World.block_lt_of_cell? w ⟨Bt, 0, none⟩ hBt
  have hle := hR.2.2
  have hcap : es.length ≤ cap := by
    rcases hR.form with ⟨e, _⟩ | ⟨g', cap', e, _, _, h, _⟩
    · cases e
    · cases e; exact h
  have hcm : cap ≤ maxLen := by
    rcases hR.form with ⟨e, _⟩ | ⟨g', cap', e, _, _, _, h, _⟩
    · cases e
    · cases e; exact h
  have hmx : maxLen ≤ 9223372036854775807 := by unfold maxLen; omega
  have HG := Lib.hid hR.2.1
  have HSO := Lib.hid hs
  have H16 := Lib.hid hBa.len
  have HLT := Lib.hid hlt
  have HT0 := Lib.hid (hT.below hb)
  have HR0 := Lib.hid (hR.below hb)
  have HA0 := Lib.hid (hBa.below hb)
  have hbt : W.cell? ⟨Bt, 0, none⟩ = some (.pointer (some ⟨G, 0, none⟩)) := (hb.cell (p := ⟨Bt, 0, none⟩) hBtl).trans hBt
  have HBT := Lib.hid hbt
  have HBTL : Hid (Bt < W.heap.size) := Lib.hid (Nat.lt_of_lt_of_le hBtl hb.size)
  have hrow := HT0.out.row
  have HY := Lib.hid hY
  have HBI := fun W => Lib.hid (addrBits_any f us W hBa.len)
  have HNB := bitsN_le f
  have hblh := Lib.hid (bl_small hle)
  clear hT hR hs hBt hBa hlt hb hY hBtl
  refine callsIn_of_wp Try.func44 rfl trivial (wpIn_wide.2 ?_)
  simp only [Try.ntmps44, List.size_toArray, List.length_cons, List.length_nil, Nat.reduceAdd, Nat.reduceSub, Array.replicate_succ, Array.replicate_zero, List.push_toArray, List.append_toArray, List.nil_append, List.cons_append]
  go_wp2_with (refine load_addr_g HA0 _ rfl rfl rfl ?_)
  refine (HBI _).out.mono ?_
  rintro e w1 ⟨rfl, hb1⟩
  have HB1 := Lib.hid (Foot.ofBelow [G] hb1)
  have HT1 := Lib.hid (HT0.out.below hb1)
  clear hb1 hrow hbt HBI
  go_wp2_with fail
  have HF0 := Lib.hid HB1.out
  go_loopw [4, 5] (fun s4 s5 wr => ∃ (m b q : Nat), s4 = .slice (some ⟨g, 0, none⟩) m cap ∧ s5 = .int .i64 ((b : Int) - 1) ∧ m ≤ es.length ∧ b ≤ bitsN f + 1 ∧ Hid (Looked es f us m b) ∧ Hid (Tab wr G (.slice (some ⟨g, 0, none⟩) es.length cap) (st + (q : Int))) ∧ Hid (q ≤ (bitsN f + 1 - b) * (bl es.length + 1)) ∧ Hid (Foot [G] [G] W wr)) (fun _ s5 _ => (intOf s5 + 1).toNat)
  case atStart => exact ⟨es.length, bitsN f + 1, 0, rfl, by rw [show ((bitsN f + 1 : Nat) : Int) - 1 = ((bitsN f : Nat) : Int) by omega], Nat.le_refl _, Nat.le_refl _, Lib.hid looked_all, Lib.hid (by rw [show st + ((0 : Nat) : Int) = st by omega]; exact HT1.out), Lib.hid (Nat.zero_le _), HF0⟩
  case round =>
    clear HT1 HB1 HF0
    obtain ⟨m, b, q, rfl, rfl, hml, hbn, HLK, HTr, HQ, HFr⟩ := hrel
    have HINV : Hid (∀ W' (q' : Nat), Tab W' G (.slice (some ⟨g, 0, none⟩) es.length cap) (st + (q' : Int)) → q' ≤ 129 * (bl es.length + 1) → Foot [G] [G] W W' → FindInv G es st [G, g] W') := Lib.hid (fun W' q' ht hq hf => ⟨st + (q' : Int), ⟨_, rfl, ht, HR0.out.foot hf (fun k hk => by cases hk; simp; omega), HSO.out, fun k hk => by cases hk; exact hgG⟩, by omega, by omega⟩)
    by_cases hb0 : b = 0
    · subst hb0
      have hd : decide ((0 : Int) ≤ ((0 : Nat) : Int) - 1) = false := by decide
      have HNONE := Lib.hid (looked_end HG.out H16.out HLK.out)
      have HFI := Lib.hid (HINV.out wr q HTr.out (by have h1 := HQ.out; have h2 : (bitsN f + 1 - 0) * (bl es.length + 1) ≤ 129 * (bl es.length + 1) := Nat.mul_le_mul_right _ (by omega); omega) HFr.out)
      clear HINV HLK HY HTr
      go_wp2_with fail
      go_end0
      exact ⟨⟨_, rfl⟩, .inl ⟨HNONE.out, HFI.out, HFr.out⟩⟩
    · obtain ⟨c, rfl⟩ : ∃ c, b = c + 1 := ⟨b - 1, by omega⟩
      rw [show ((c + 1 : Nat) : Int) - 1 = ((c : Nat) : Int) by omega]
      have hd : decide ((0 : Int) ≤ (c : Int)) = true := by simp
      have hcN : c ≤ bitsN f := by omega
      have hmask : maskN f (c : Int) = c := by unfold maskN; simp; omega
      have HMK : Hid (Calls Try.prog 47 #[addrV f us, .int .i64 (c : Int)] wr.drew fun e w' => e = .returned (prefV f (withL (bitsN f) us c 0) (c : Int)) ∧ Below wr.drew.heap.size wr.drew w') := Lib.hid (by
        have := cidrMask_any f us (c : Int) wr.drew H16.out HLT.out (wf_small (by omega))
        rw [hmask] at this
        exact this)
      have HSE : ∀ V, Hid (Below wr.drew.heap.size wr.drew V → Calls Try.prog 46 #[.slice (some ⟨g, 0, none⟩) m cap, prefV f (withL (bitsN f) us c 0) (c : Int), .func (.func 48) #[.pointer (some ⟨G, 0, none⟩)] #[]] V fun e w' =>
          ∃ (i : Nat) (t : Bool) (q' : Nat), e = .returned (.tuple #[.int .i64 (i : Int), .bool t]) ∧ Place (es.take m) f (withL (bitsN f) us c 0) (c : Int) i t ∧ Tab w' G (.slice (some ⟨g, 0, none⟩) es.length cap) (st + (q' : Int)) ∧ q' ≤ (bitsN f + 1 - c) * (bl es.length + 1) ∧ Foot [G] [G] W w') := fun V => Lib.hid (fun hbV => by
        have hfV : Foot [G] [G] W V := (HFr.out.trans (Foot.ofBelow _ (Below.refl _ _).drew)).trans (Foot.ofBelow _ hbV)
        have hRV : RowT V 0 (.slice (some ⟨g, 0, none⟩) es.length cap) es := HR0.out.foot hfV (fun k hk => by cases hk; simp; omega)
        have hTV : Tab V G (.slice (some ⟨g, 0, none⟩) es.length cap) (st + (q : Int)) := (HTr.out.below (Below.refl _ _).drew).below hbV
        rcases hRV.form with ⟨e, _⟩ | ⟨g', cap', e, _, hgl, _, _, hrg⟩
        · cases e
        · cases e
          have hlm : (es.take m).length = m := by rw [List.length_take]; omega
          have hq := HQ.out
          have hq2 : (bitsN f + 1 - (c + 1)) * (bl es.length + 1) ≤ 129 * 11 := Nat.mul_le_mul (by omega) (by have := hblh.out; omega)
          have := search_any 48 #[.pointer (some ⟨G, 0, none⟩)] (enters_of Try.func48 (by kernel_rfl) rfl) f (withL (bitsN f) us c 0) (c : Int) g cap (es.take m) [G] (fun j V => Tab V G (.slice (some ⟨g, 0, none⟩) es.length cap) (st + (q : Int) + (j : Int))) V (cell_take hrg m) hgl (by simp; omega) (by simp; exact hTV.lt) (by omega) (good_take HG.out m) (sorted_take HSO.out m) (withL_len _ _ _ _) (hold_cmps G _ _ _ _ _ _ (good_take HG.out m) (withL_len _ _ _ _) (withL_lt _ _ _ _ (by decide)) (by omega) (by omega)) (fun j A B h hb => h.below hb) (by show Tab V G _ (st + (q : Int) + ((0 : Nat) : Int)); rw [show st + (q : Int) + ((0 : Nat) : Int) = st + (q : Int) by omega]; exact hTV)
          rw [hlm] at this
          refine this.mono ?_
          rintro e w' ⟨i, t, j, h1, h2, h3, h4, h5⟩
          refine ⟨i, t, q + j, h1, h2, by rw [show st + ((q + j : Nat) : Int) = st + (q : Int) + (j : Int) by omega]; exact h3, ?_, hfV.trans h5⟩
          have h6 := bl_mono es.length m hml
          have h7 : (bitsN f + 1 - c) * (bl es.length + 1) = (bitsN f + 1 - (c + 1)) * (bl es.length + 1) + (bl es.length + 1) := by rw [show bitsN f + 1 - c = (bitsN f + 1 - (c + 1)) + 1 by omega, Nat.succ_mul]
          omega)
      go_upto_region 4 with fail
      obtain ⟨L, hL⟩ : ∃ L, [(Bt, 0, [Value.pointer (some ⟨G, 0, none⟩)]), (Ba, 0, addrL f us)] = L := ⟨_, rfl⟩
      have HKW : Hid (∀ V, Foot [G] [G] W V → HeldL L V) := Lib.hid (fun V hf => by
        rw [← hL]; intro x hx
        simp only [List.mem_cons, List.not_mem_nil, or_false] at hx
        rcases hx with rfl | rfl
        · refine range_foot hf (fun j u hu => ?_) HBTL.out (by simp; exact htG)
          cases j with
          | zero => rw [Nat.add_zero, HBT.out]; exact hu
          | succ j => simp at hu
        · exact range_foot hf HA0.out.range HA0.out.lt (by simp; exact haG))
      have HKD := Lib.hid (HKW.out wr.drew (HFr.out.trans (Foot.ofBelow _ (Below.refl _ _).drew)))
      have MA : Hid (InL L Ba 0 (addrL f us)) := Lib.hid (fun W h => h.get (by rw [← hL]; simp))
      have CP : Hid (∀ w', HeldL L w' → w'.cell? ⟨Bt, 0, none⟩ = some (.pointer (some ⟨G, 0, none⟩))) := Lib.hid (fun w' h => h.get (b := Bt) (o := 0) (cs := [Value.pointer (some ⟨G, 0, none⟩)]) (by rw [← hL]; simp) 0 _ rfl)
      clear hL hmask
      refine wp_region_noPanic ?_
      refine wp_region_held_drew (S := HeldL L) (by kernel_rfl) HKD.out (fun hHeld => ?_)
      refine wpAnyH_take (i := 0) (v := ?_) rfl (by kernel_rfl) (by kernel_rfl) (by kernel_rfl) (fun _ _ _ h => h) (Or.inl ⟨by rfl, ?_⟩) (by assumption) ?_
      rotate_left
      · (intro w hSw; go_simp; try (with_reducible rfl))
      try simp only [Act.put, List.getElem_toArray, List.getElem_cons_zero, List.setIfInBounds_toArray, List.set_cons_zero, List.set_cons_succ]
      refine wpAnyH_take (i := 1) rfl (by kernel_rfl) (by kernel_rfl) (by kernel_rfl) (fun _ _ _ h => h) (yields_addr_l H16 MA (by rfl) _ rfl rfl) (by assumption) ?_
      try simp only [Act.put, List.getElem_toArray, List.getElem_cons_zero, List.getElem_cons_succ, List.setIfInBounds_toArray, List.set_cons_zero, List.set_cons_succ]
      refine wpAnyH_take (i := 2) (v := ?_) rfl (by kernel_rfl) (by kernel_rfl) (by kernel_rfl) (fun _ _ _ h => h) (Or.inl ⟨by rfl, ?_⟩) (by assumption) ?_
      rotate_left
      · (intro w hSw; go_simp; try (with_reducible rfl))
      try simp only [Act.put, List.getElem_toArray, List.getElem_cons_zero, List.getElem_cons_succ, List.setIfInBounds_toArray, List.set_cons_zero, List.set_cons_succ]
      refine wpAnyH_take (i := 4) (v := ?_) rfl (by kernel_rfl) (by kernel_rfl) (by kernel_rfl) (fun _ _ _ h => h) (Or.inl ⟨by rfl, ?_⟩) (by assumption) ?_
      rotate_left
      · (intro w hSw; have hc0 := CP.out w hSw; go_simp; try (with_reducible rfl))
      try simp only [Act.put, List.getElem_toArray, List.getElem_cons_zero, List.getElem_cons_succ, List.setIfInBounds_toArray, List.set_cons_zero, List.set_cons_succ]
      refine wpAnyH_take (i := 5) (v := ?_) rfl (by kernel_rfl) (by kernel_rfl) (by kernel_rfl) (fun _ _ _ h => h) (Or.inl ⟨by rfl, ?_⟩) (by assumption) ?_
      rotate_left
      · (intro w hSw; go_simp; try (with_reducible rfl))
      try simp only [Act.put, List.getElem_toArray, List.getElem_cons_zero, List.getElem_cons_succ, List.setIfInBounds_toArray, List.set_cons_zero, List.set_cons_succ]
      refine wpAnyH_ready (rs := [3]) (by kernel_rfl) (by simp) ?_
      refine AllReadyH.cons rfl (fun K hK => ?_) AllReadyH.nil
      go_simp
      refine HMK.out.mono ?_
      rintro e V ⟨rfl, hbV⟩
      have HBV := Lib.hid hbV
      have hSV := HKW.out V ((HFr.out.trans (Foot.ofBelow _ (Below.refl _ _).drew)).trans (Foot.ofBelow _ hbV))
      clear hbV HMK
      go_wp2_with fail
      refine hK.out _ _ hSV (fun hHeldV => ?_)
      clear hK K
      try simp only [Act.put, List.getElem_toArray, List.getElem_cons_zero, List.getElem_cons_succ, List.setIfInBounds_toArray, List.set_cons_zero, List.set_cons_succ]
      refine wpAnyH_ready (rs := [6]) (by kernel_rfl) (by simp) ?_
      refine AllReadyH.cons rfl (fun K hK => ?_) AllReadyH.nil
      go_simp
      refine ((HSE V).out HBV.out).mono ?_
      rintro e w6 ⟨i, t, q6, rfl, hp6, hT6, hq6, hf6⟩
      have HP6 := Lib.hid hp6
      have HT6 := Lib.hid hT6
      have HQ6 := Lib.hid hq6
      have HF6 := Lib.hid hf6
      have hS6 := HKW.out w6 hf6
      clear hp6 hT6 hq6 hf6 HSE
      go_wp2_with fail
      refine hK.out _ _ hS6 (fun hHeld6 => ?_)
      clear hK K
      try simp only [Act.put, List.getElem_toArray, List.getElem_cons_zero, List.getElem_cons_succ, List.setIfInBounds_toArray, List.set_cons_zero, List.set_cons_succ]
      refine wpAnyH_take (i := 7) (v := ?_) rfl (by kernel_rfl) (by kernel_rfl) (by kernel_rfl) (fun _ _ _ h => h) (Or.inl ⟨by rfl, ?_⟩) (by assumption) ?_
      rotate_left
      · (intro w hSw; go_simp; try (with_reducible rfl))
      try simp only [Act.put, List.getElem_toArray, List.getElem_cons_zero, List.getElem_cons_succ, List.setIfInBounds_toArray, List.set_cons_zero, List.set_cons_succ]
      refine wpAnyH_take (i := 8) (v := ?_) rfl (by kernel_rfl) (by kernel_rfl) (by kernel_rfl) (fun _ _ _ h => h) (Or.inl ⟨by rfl, ?_⟩) (by assumption) ?_
      rotate_left
      · (intro w hSw; go_simp; try (with_reducible rfl))
      try simp only [Act.put, List.getElem_toArray, List.getElem_cons_zero, List.getElem_cons_succ, List.setIfInBounds_toArray, List.set_cons_zero, List.set_cons_succ]
      refine wpAnyH_take (i := 9) (v := ?_) rfl (by kernel_rfl) (by kernel_rfl) (by kernel_rfl) (fun _ _ _ h => h) (Or.inl ⟨by rfl, ?_⟩) (by assumption) ?_
      rotate_left
      · (intro w hSw; go_simp; try (with_reducible rfl))
      try simp only [Act.put, List.getElem_toArray, List.getElem_cons_zero, List.getElem_cons_succ, List.setIfInBounds_toArray, List.set_cons_zero, List.set_cons_succ]
      refine wpAnyH_take (i := 10) (v := ?_) rfl (by kernel_rfl) (by kernel_rfl) (by kernel_rfl) (fun _ _ _ h => h) (Or.inl ⟨by rfl, ?_⟩) (by assumption) ?_
      rotate_left
      · (intro w hSw; go_simp; try (with_reducible rfl))
      try simp only [Act.put, List.getElem_toArray, List.getElem_cons_zero, List.getElem_cons_succ, List.setIfInBounds_toArray, List.set_cons_zero, List.set_cons_succ]
      refine wpAnyH_take (i := 11) (v := ?_) rfl (by kernel_rfl) (by kernel_rfl) (by kernel_rfl) (fun _ _ _ h => h) (Or.inl ⟨by rfl, ?_⟩) (by assumption) ?_
      rotate_left
      · (intro w hSw; go_simp; try (with_reducible rfl))
      try simp only [Act.put, List.getElem_toArray, List.getElem_cons_zero, List.getElem_cons_succ, List.setIfInBounds_toArray, List.set_cons_zero, List.set_cons_succ]
      refine wpAnyH_done (by kernel_rfl) ?_ _
      refine NoPanic.normal ?_
      cases t with
      | false =>
        obtain ⟨him, hlk⟩ := looked_no HG.out HSO.out H16.out HLK.out hcN HP6.out
        have HLK2 := Lib.hid hlk
        have hic : (i : Int) ≤ (cap : Int) := by omega
        have hw1 : IntKind.i64.wrap ((c : Int) - 1) = (c : Int) - 1 := by rw [IntKind.wrap_i64]; omega
        clear hlk HP6 HLK HINV HY
        go_wp2_with fail
        go_roundw
        case rel => exact ⟨i, c, q6, rfl, rfl, by omega, by omega, HLK2, HT6, HQ6, HF6⟩
        case measure => simp [intOf]
      | true =>
        obtain ⟨hil, him, hfd⟩ := looked_yes HG.out HSO.out H16.out HLK.out hcN HP6.out
        have HFI := Lib.hid (HINV.out w6 q6 HT6.out (by have h1 := HQ6.out; have h2 : (bitsN f + 1 - c) * (bl es.length + 1) ≤ 129 * (bl es.length + 1) := Nat.mul_le_mul_right _ (by omega); omega) HF6.out)
        have HYY := Lib.hid (HY.out es[i] w6 hfd HFI.out HF6.out)
        have HFD : Hid (∃ x, findE es f us = some x ∧ x = es[i]) := Lib.hid ⟨_, hfd, rfl⟩
        have HRI : Hid (w6.rangeAt g (i * 19) (entL es[i].f es[i].b (es[i].n : Int) es[i].v)) := Lib.hid (by
          have hRV : RowT w6 0 (.slice (some ⟨g, 0, none⟩) es.length cap) es := HR0.out.foot HF6.out (fun k hk => by cases hk; simp; omega)
          rcases hRV.form with ⟨e, _⟩ | ⟨g', cap', e, _, hgl, _, _, hrg⟩
          · cases e
          · cases e; exact range_ent hrg HG.out i hil)
        have HL16 : Hid (es[i].b.length = 16) := Lib.hid (HG.out _ (List.getElem_mem hil)).1.len
        have HENC : Hid (encE es[i] = entV es[i].f es[i].b (es[i].n : Int) es[i].v) := Lib.hid rfl
        rw [HENC.out] at HYY
        obtain ⟨y, hy⟩ : ∃ y, es[i] = y := ⟨_, rfl⟩
        rw [hy] at HYY HRI HL16 HFD
        clear hy hfd HLK HP6 HINV HY HENC
        have hb1 : (0 : Int) ≤ (i : Int) := by omega
        have hb2 : (i : Int) < (m : Int) := by omega
        go_upto_region 5 with fail
        refine wp_of_listIn ?_
        refine wide_step (v := .bool true) rfl rfl ?_
        simp only [Act.put, List.setIfInBounds_toArray, List.set_cons_zero, List.set_cons_succ]
        refine wide_step (v := .bool true) rfl rfl ?_
        simp only [Act.put, List.setIfInBounds_toArray, List.set_cons_zero, List.set_cons_succ]
        refine wide_step (v := .func (.yield l) #[] #[]) rfl rfl ?_
        simp only [Act.put, List.setIfInBounds_toArray, List.set_cons_zero, List.set_cons_succ]
        refine wide_step (v := .slice (some ⟨g, 0, none⟩) m cap) rfl rfl ?_
        simp only [Act.put, List.setIfInBounds_toArray, List.set_cons_zero, List.set_cons_succ]
        refine wide_step (v := .int .i64 (i : Int)) rfl rfl ?_
        simp only [Act.put, List.setIfInBounds_toArray, List.set_cons_zero, List.set_cons_succ]
        refine wide_step (v := .pointer (some ⟨g, i * 19, none⟩)) rfl (exec_indexT _ _ rfl rfl rfl him) ?_
        simp only [Act.put, List.setIfInBounds_toArray, List.set_cons_zero, List.set_cons_succ]
        refine wide_step (v := entV y.f y.b (y.n : Int) y.v) rfl (exec_entT HL16.out HRI.out _ rfl rfl) ?_
        simp only [Act.put, List.setIfInBounds_toArray, List.set_cons_zero, List.set_cons_succ]
        refine yield_step HYY.out rfl _ _ rfl rfl rfl ?_
        rintro e w7 ⟨rfl, hj7⟩
        refine ⟨_, rfl, ?_⟩
        have HJ7 := Lib.hid hj7
        clear hj7 HYY
        simp only [Act.put, List.setIfInBounds_toArray, List.set_cons_zero, List.set_cons_succ]
        refine wide_step (v := .bool true) rfl rfl ?_
        simp only [Act.put, List.setIfInBounds_toArray, List.set_cons_zero, List.set_cons_succ]
        refine wide_step (v := .bool true) rfl rfl ?_
        simp only [Act.put, List.setIfInBounds_toArray, List.set_cons_zero, List.set_cons_succ]
        refine wpListIn_nil ?_
        go_wp2_with fail
        refine bodyPost_ret (results_none rfl _ _ _) rfl ?_
        obtain ⟨x, hx, _⟩ := HFD.out
        exact ⟨⟨_, rfl⟩, .inr ⟨x, hx, HJ7.out⟩⟩
end Go.Proofs.Ytjpjobbmljlacaa

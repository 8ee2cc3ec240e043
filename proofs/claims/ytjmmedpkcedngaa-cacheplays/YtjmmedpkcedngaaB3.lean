/- Texts that belong together, one behind the other: CacOps, CacSort, OpenRows, CeSame, AdrRow, CacGet, CacSweep, CacLeast. -/
import Derived.Test.YtjmmedpkcedngaaB2
import Derived.Test.YtjmmedpkcedngaaShelf
import Derived.Deep.Slices
import Derived.Deep.MidRow
import Derived.Deep.RegionHeld3
import Derived.Lib.SliceRun
/- The landed cache in memory; its small functions: keyOf, over, Len, Room, New. -/
namespace Go.Proofs.Ytjmmedpkcedngaa
open Go.RowKit Go.Maps
set_option linter.unusedVariables false
set_option maxRecDepth 20000

/-- A cache at block G, its map at block b, its entries in the row of keys. -/
structure CacAt (w : World) (G b : Nat) (room : Int) (es : List Ce) : Prop where
  cs : CellsAt w G [.int .i64 room, .map (some b)]
  mp : CacMap w b es
  so : SortedC es
  ok : KeysOk es
  le : (es.length : Int) ≤ room
  r1 : 1 ≤ room
  r2 : room ≤ 64
section
variable {w w' : World} {G b : Nat} {room : Int} {es : List Ce}
theorem CellsAt.kept {vs : List Value} (h : CellsAt w G vs) (hs : w.heap.size ≤ w'.heap.size) (hk : w'.heap[G]? = w.heap[G]?) : CellsAt w' G vs :=
  ⟨Nat.lt_of_lt_of_le h.lt hs, fun j u hu => by rw [World.cell?_of_block (w := w) (a := ⟨G, 0 + j, none⟩) hk]; exact h.range j u hu, fun j hj => by
    rw [World.cell?_of_block (w := w) (a := ⟨G, 0 + j, none⟩) hk, World.frozen?_of_block (w := w) (a := ⟨G, 0 + j, none⟩) hk]
    exact h.there j hj⟩
theorem CacAt.kept (h : CacAt w G b room es) (hs : w.heap.size ≤ w'.heap.size) (h1 : w'.heap[G]? = w.heap[G]?) (h2 : w'.heap[b]? = w.heap[b]?) : CacAt w' G b room es :=
  ⟨h.cs.kept hs h1, h.mp.kept h2, h.so, h.ok, h.le, h.r1, h.r2⟩
theorem CacAt.lt (h : CacAt w G b room es) : G < w.heap.size ∧ b < w.heap.size := ⟨h.cs.lt, h.mp.lt⟩
theorem CacAt.below (h : CacAt w G b room es) (hb : Below w.heap.size w w') : CacAt w' G b room es := h.kept hb.size (hb.block G h.lt.1) (hb.block b h.lt.2)
theorem CacAt.len (h : CacAt w G b room es) : es.length ≤ 64 := by have := h.le; have := h.r2; omega
theorem CacAt.ne (h : CacAt w G b room es) : G ≠ b := by
  rintro rfl
  obtain ⟨e0, cl, hb⟩ := h.mp.block
  have := h.cs.cell 0 _ rfl
  simp [World.cell?, hb] at this
end
theorem loadVar_key {w : World} {G : Nat} {p : ByteArray × Int} (h : CellsAt w G (keyL p)) : (loadVar 39 ⟨G, 0, none⟩).run Try.prog w = .ok (keyV p) w :=
  run_loadVar_mid w G 0 39 (keyL p) _ h.range Try.underlying39 rfl (by rw [key_size]; rfl)
theorem results_key {fn : Func} {a : Tmp} {tmps : Array Value} {W : World} {R : Nat} {p : ByteArray × Int} (h : fn.results = #[.cell a 39]) (ha : tmps.getD a undef = .pointer (some ⟨R, 0, none⟩)) (hA : CellsAt W R (keyL p)) : (results fn tmps).run Try.prog W = .ok (keyV p) W := by
  rw [Array.getD_eq_getD_getElem?] at ha
  simp [results, h, ha, asAddr, loadVar_key hA]
theorem results_key2 {fn : Func} {a t : Tmp} {tmps : Array Value} {W : World} {R : Nat} {p : ByteArray × Int} (h : fn.results = #[.cell a 39, .tmp t]) (ha : tmps.getD a undef = .pointer (some ⟨R, 0, none⟩)) (hA : CellsAt W R (keyL p)) : (results fn tmps).run Try.prog W = .ok (.tuple #[keyV p, tmps.getD t undef]) W := by
  rw [Array.getD_eq_getD_getElem?] at ha
  simp [results, h, ha, asAddr, loadVar_key hA]
theorem store_key {ops : Array Oper} {rest : List Oper} {op : Oper} {a : Act} {w : World} {Q : Exit → Act → World → Prop} {G : Nat} {p q : ByteArray × Int} (hA : Hid (CellsAt w G (keyL q))) (x y : Operand) (hgd : op.guard = none) (ho : op.op = .store 39 x y)
    (hx : a.eval x = .pointer (some ⟨G, 0, none⟩)) (hy : a.eval y = keyV p) (h : ∀ W, Hid (W = w.setCells G 0 (keyL p)) → Hid (CellsAt W G (keyL p)) → wpList Try.prog ops Q rest (a.put op.dst undef) W) : wpList Try.prog ops Q (op :: rest) a w :=
  wpList_store_mid hgd 39 x y ho G 0 (keyL p).toArray hx hy (by exact hA.out.there) (by rw [key_size]; rfl) (all_oneCell_toArray (by intro v hv; simp [keyL] at hv; rcases hv with rfl | rfl <;> rfl)) (h _ (Lib.hid rfl) (Lib.hid (hA.out.stored (keyL p) rfl)))
theorem build_key2 {ops : Array Oper} {rest : List Oper} {op : Oper} {a : Act} {w : World} {Q : Exit → Act → World → Prop} {s : ByteArray} {t : Int} (hg : op.guard = none) (x0 x1 : Operand) (ho : op.op = .build 39 #[(0, x0), (1, x1)])
    (h0 : a.eval x0 = .string s) (h1 : a.eval x1 = .int .i64 t) (h : wpList Try.prog ops Q rest (a.put op.dst (keyV (s, t))) w) : wpList Try.prog ops Q (op :: rest) a w := by
  have e0 : Try.prog.built 39 [(0, .string s), (1, .int .i64 t)] = some (keyL (s, t)).toArray := rfl
  have e : Try.prog.built 39 ((#[(0, x0), (1, x1)] : Array (Nat × Operand)).map fun (i, x) => (i, a.eval x)).toList = some (keyL (s, t)).toArray := by
    simp only [List.map_toArray, List.map_cons, List.map_nil]
    rw [h0, h1]; exact e0
  refine wpList_build hg 39 _ ho (by rw [e]; rfl) ?_
  rw [e]
  exact h
abbrev noKey : ByteArray × Int := (⟨#[]⟩, 0)
set_option maxHeartbeats 1000000 in
theorem keyOf_any (s : ByteArray) (t : Int) (w : World) (hs : s.size ≤ 2000000) : Calls Try.prog 31 #[.string s, .int .i64 t] w fun e w' => e = .returned (keyV (lowB s, t)) ∧ Below w.heap.size w w' := by
  have HL := fun W => Lib.hid (lower_any s W hs)
  generalize lowB s = x at *
  obtain ⟨W, hW⟩ : ∃ W, w.alloc (.cells #[.string ⟨#[]⟩, .int .i64 0] 39) = W := ⟨_, rfl⟩
  have HB : Hid (Below w.heap.size w W) := Lib.hid (by rw [← hW]; exact (Below.refl _ _).alloc (Nat.le_refl _) _)
  have HZ : Hid (CellsAt W w.heap.size (keyL noKey)) := Lib.hid (by rw [← hW]; exact CellsAt.new w 39 (keyL noKey))
  go_enter Try.func31, Try.ntmps31
  go_upto_region 1 with fail
  first | rw [hW] | skip
  clear hW
  go_wp2_with fail
  refine (HL _).out.mono ?_
  rintro e w1 ⟨rfl, hb1⟩
  have HZ1 := Lib.hid (HZ.out.below hb1)
  have HB1 := Lib.hid (chain HB.out hb1)
  clear hb1 HZ HB HL
  go_wp2_with (first | refine build_key2 rfl _ _ rfl rfl rfl ?_ | (refine store_key HZ1 _ _ rfl rfl rfl rfl (fun V HV HVC => ?_)))
  refine bodyPost_ret (results_key Try.results31 rfl HVC.out) rfl ⟨rfl, ?_⟩
  rw [HV.out]
  exact below_cells (Nat.le_refl _) _ _ _ HB1.out
theorem over_any (e : Ce) (now : Int) (w : World) : Calls Try.prog 34 #[entV e, .int .i64 now] w fun e' w' => e' = .returned (.bool (decide (e.u ≤ now))) ∧ Below w.heap.size w w' := by
  obtain ⟨s, t, a, n, c, u⟩ := e
  unfold entV
  go_enter Try.func34, Try.ntmps34
  go_wp2_with fail
  go_ret
  exact ⟨rfl, (Below.refl _ _).alloc (Nat.le_refl _) _⟩
theorem len_any (G b : Nat) (room : Int) (es : List Ce) (w : World) (h : CacAt w G b room es) : Calls Try.prog 13 #[.pointer (some ⟨G, 0, none⟩)] w fun e w' => e = .returned (.int .i64 (es.length : Int)) ∧ w' = w := by
  have h1 := h.cs.cell 1 _ rfl
  have hl := fun ty => h.mp.len ty
  clear h
  go_enter Try.func13, Try.ntmps13
  go_wp2_with fail
  go_ret
  exact ⟨rfl, rfl⟩
theorem room_any (G b : Nat) (room : Int) (es : List Ce) (w : World) (h : CacAt w G b room es) : Calls Try.prog 14 #[.pointer (some ⟨G, 0, none⟩)] w fun e w' => e = .returned (.int .i64 room) ∧ w' = w := by
  have h1 := h.cs.cell 0 _ rfl
  clear h
  go_enter Try.func14, Try.ntmps14
  go_wp2_with fail
  go_ret
  exact ⟨rfl, rfl⟩
theorem new_any (n : Int) (w : World) : Calls Try.prog 8 #[.int .i64 n] w fun e w' => ∃ G b, e = .returned (.pointer (some ⟨G, 0, none⟩)) ∧ CacAt w' G b (min (max n 1) 64) [] ∧ w.heap.size ≤ G ∧ w.heap.size ≤ b ∧ Below w.heap.size w w' := by
  have hmk : (Instr.makeMap 66 none).run Try.prog w = .ok (.map (some w.heap.size)) (w.alloc (.map #[] 0)) := by rfl
  have HR : Hid (1 ≤ min (max n 1) 64 ∧ min (max n 1) 64 ≤ 64) := Lib.hid (by omega)
  generalize hm : min (max n 1) 64 = m at *
  go_enter Try.func8, Try.ntmps8
  go_wp2_with fail
  go_ret
  refine ⟨w.heap.size + 1, w.heap.size, rfl, ⟨?_, ?_, List.Pairwise.nil, (fun e h => by cases h), by simpa using Int.le_trans (by decide) HR.out.1, HR.out.1, HR.out.2⟩, by omega, Nat.le_refl _, ?_⟩
  · have := CellsAt.new (w.alloc (.map #[] 0)) 68 [.int .i64 m, .map (some w.heap.size)]
    simpa using this
  · exact (cacMap_made w).kept (Below.heap_alloc _ _ _ (by simp))
  · exact ((Below.refl _ _).alloc (Nat.le_refl _) _).alloc (by simp) _
end Go.Proofs.Ytjmmedpkcedngaa
/- Contracts of slices.SortFunc at the cache's keys (laid off the shelf), slices.SortedFunc, and Cache.Keys. -/
namespace Go.Proofs.Ytjmmedpkcedngaa
open Go.RowKit Go.Maps
set_option linter.unusedVariables false
set_option maxRecDepth 20000

/-- A slice of keys that lies somewhere new. -/
def KeysAt (w : World) (B : Nat) (v : Value) (ks : List (ByteArray × Int)) : Prop :=
  ks.length ≤ 1000 ∧ ((v = .slice none 0 0 ∧ ks = []) ∨ ∃ g cap, v = .slice (some ⟨g, 0, none⟩) ks.length cap ∧ B ≤ g ∧ g < w.heap.size ∧ ks.length ≤ cap ∧ cap ≤ maxLen ∧ w.rangeAt g 0 (flatK ks))
theorem RowK.at {w : World} {B : Nat} {v : Value} {ks : List (ByteArray × Int)} (h : RowK w B v ks) : KeysAt w B v ks := ⟨h.2, h.form⟩
theorem KeysAt.below {w w' : World} {B : Nat} {v : Value} {ks : List (ByteArray × Int)} (h : KeysAt w B v ks) (hb : Below w.heap.size w w') : KeysAt w' B v ks := by
  refine ⟨h.1, h.2.imp id ?_⟩
  rintro ⟨g, cap, e, h1, h2, h3, h4, h5⟩
  exact ⟨g, cap, e, h1, Nat.lt_of_lt_of_le h2 hb.size, h3, h4, range_belowC h5 hb h2⟩
theorem KeysAt.mono {w : World} {B B' : Nat} {v : Value} {ks : List (ByteArray × Int)} (h : KeysAt w B v ks) (hb : B' ≤ B) : KeysAt w B' v ks := by
  refine ⟨h.1, h.2.imp id ?_⟩
  rintro ⟨g, cap, e, h1, h2⟩
  exact ⟨g, cap, e, Nat.le_trans hb h1, h2⟩
theorem KeysAt.slice {w : World} {B : Nat} {v : Value} {ks : List (ByteArray × Int)} (h : KeysAt w B v ks) : ∃ ad c, v = .slice ad ks.length c := by
  rcases h.2 with ⟨rfl, rfl⟩ | ⟨g, cap, rfl, _⟩
  · exact ⟨none, 0, rfl⟩
  · exact ⟨_, _, rfl⟩
theorem swoK : Sort.SWO (ltOf cmpKey) := by
  have e : ltOf cmpKey = ltK := by funext x y; exact cmpKey_neg x y
  rw [e]
  refine ⟨ltK_irrefl, fun x y z => ltK_trans, fun x y z h1 h2 => ?_⟩
  cases h3 : ltK x z
  · rfl
  · by_cases e : x = y
    · subst e; rw [h3] at h2; cases h2
    · rcases ltK_total e with h4 | h4
      · rw [h4] at h1; cases h1
      · rw [ltK_trans h4 h3] at h2; cases h2
theorem partsK (x y : ByteArray × Int) (h1 : ltOf cmpKey x y = false) (h2 : ltOf cmpKey y x = false) : x = y := by
  have e : ltOf cmpKey = ltK := by funext x y; exact cmpKey_neg x y
  rw [e] at h1 h2
  by_cases h : x = y
  · exact h
  · rcases ltK_total h with h3 | h3
    · rw [h3] at h1; cases h1
    · rw [h3] at h2; cases h2
theorem cmpLaysK (blk off size : Nat) (w : World) : CmpLays Try.prog 30 #[] keyL 2 cmpKey blk off size w := fun m os dk _ x y => by
  have := compare_any x y (sortWorldK keyL 2 w blk off m dk os)
  simpa [keyV] using this
theorem sortWorld_keep (w : World) (blk n : Nat) (d : Array (ByteArray × Int)) (os : Array Obj) (B : Nat) (hB : B ≤ blk) (hlt : blk < w.heap.size) : Below B w (sortWorldK keyL 2 w blk 0 n d os) := by
  have e : ∀ k, k < B → (sortWorldK keyL 2 w blk 0 n d os).heap[k]? = w.heap[k]? := fun k hk => by
    show ((w.heap.modify blk _) ++ os)[k]? = _
    rw [Array.getElem?_append_left (by simp; omega), Array.getElem?_modify, if_neg (by omega)]
  exact ⟨rfl, rfl, rfl, by show w.heap.size ≤ ((w.heap.modify blk _) ++ os).size; simp, e⟩
theorem holdsK_of {w : World} {B : Nat} {v : Value} {ks : List (ByteArray × Int)} (h : RowK w B v ks) : (v = .slice none 0 0 ∧ ks = []) ∨ ∃ g cap, v = .slice (some ⟨g, 0, none⟩) ks.length cap ∧ B ≤ g ∧ g < w.heap.size ∧ ks.length ≤ cap ∧ cap ≤ maxLen ∧ Sort.HoldsK keyL 2 w g 0 ks.toArray := by
  rcases h.1.2 with ⟨e1, e2⟩ | ⟨g, cap, cur, e1, e2, e3, e4, e5, e6, e7⟩
  · exact .inl ⟨e1, List.eq_nil_of_length_eq_zero e2⟩
  · refine .inr ⟨g, cap, e1, e2, ?_, e4, e5, fun j hj => ?_⟩
    · apply Classical.byContradiction
      intro h
      rw [Array.getElem?_eq_none (by omega)] at e3
      cases e3
    · have hj2 : j < ks.length * 2 := by simpa using hj
      have hq : j / 2 < ks.length := by omega
      have hr := range_key (o := 0) (w := w) (g := g) (es := ks) (by
        rcases h.form with ⟨e8, e9⟩ | ⟨g2, cap2, e8, _, _, _, _, h8⟩
        · rw [e1] at e8; cases e8
        · rw [e1] at e8; cases e8; exact h8) (j / 2) hq
      refine ⟨?_, by simp [World.frozen?, e3]⟩
      rw [Sort.get_flatK keyL 2 _ j (by simpa using hj2)]
      have hlen : (keyL ks[j / 2]).length = 2 := rfl
      have hm : j % 2 < (keyL ks[j / 2]).length := by rw [hlen]; omega
      have hk := hr (j % 2) (keyL ks[j / 2])[j % 2] (List.getElem?_eq_getElem hm)
      have e : 0 + j / 2 * 2 + j % 2 = 0 + j := by omega
      rw [e] at hk
      rw [hk]
      congr 1
      rw [getElem!_pos _ (j / 2) (by simpa using hq)]
      rw [List.getElem_toArray, getElem!_pos _ (j % 2) hm]
      rfl
theorem range_of_holds {w : World} {g : Nat} {ks : List (ByteArray × Int)} (h : Sort.HoldsK keyL 2 w g 0 ks.toArray) : w.rangeAt g 0 (flatK ks) := by
  intro j u hu
  have hj : j < (flatK ks).length := by
    apply Classical.byContradiction
    intro h2
    rw [List.getElem?_eq_none (by omega)] at hu
    cases hu
  rw [flatK_len] at hj
  have hq : j / 2 < ks.length := by omega
  have e : j = j / 2 * 2 + j % 2 := by omega
  have h1 := flatK_at ks (j / 2) hq (j % 2) (by omega)
  rw [← e, hu] at h1
  have hlen : (keyL ks[j / 2]).length = 2 := rfl
  have hm : j % 2 < (keyL ks[j / 2]).length := by rw [hlen]; omega
  have h2 := (h.cell (i := j / 2) (c := j % 2) (by simpa using hq) (by omega)).1
  rw [List.getElem?_eq_getElem hm] at h1
  cases h1
  rw [show 0 + j / 2 * 2 + j % 2 = 0 + j by omega] at h2
  rw [h2]
  congr 1
  rw [getElem!_pos _ (j / 2) (by simpa using hq), List.getElem_toArray, getElem!_pos _ (j % 2) hm]
set_option maxHeartbeats 1000000 in
theorem sortK_any (v : Value) (ks : List (ByteArray × Int)) (w : World) (B : Nat) (h : RowK w B v ks) :
    Calls Try.prog 37 #[v, .func (.func 30) #[] #[]] w fun e w' => e = .returned (.tuple #[]) ∧ KeysAt w' B v (ks.mergeSort (fun x y => !ltK y x)) ∧ Below B w w' := by
  have eg : ∀ args w, (callFunc 30 args).run Try.prog w = .ok (.enter 30 args) w := enters_of Try.func30 (by kernel_rfl) rfl
  have elt : (fun x y => !(ltOf cmpKey) y x) = (fun x y : ByteArray × Int => !ltK y x) := by funext x y; rw [show ltOf cmpKey y x = ltK y x from cmpKey_neg y x]
  have h1000 := h.2
  rcases holdsK_of h with ⟨rfl, rfl⟩ | ⟨g, cap, rfl, h1, h2, h3, h4, hH⟩
  · have hc := AnyF.slices_SortFunc_none (P := Try.prog) Try.sortK none 0 (.func (.func 30) #[] #[]) w
    refine Calls.mono hc ?_
    rintro e w' ⟨rfl, rfl⟩
    exact ⟨rfl, ⟨by simp, .inl ⟨rfl, by simp⟩⟩, Below.refl _ _⟩
  · have hc := AnyQ.slices_SortFunc_total Try.sortK 2 (fun w => by kernel_rfl) (fun w => by kernel_rfl) keyL (fun _ => rfl) (fun x v hv => by simp [keyL] at hv; rcases hv with rfl | rfl <;> rfl) cmpKey swoK 30 #[] g 0 cap ks.toArray w eg (cmpLaysK g 0 _ w) hH h2 (by simp; omega) partsK
    have hc2 : Calls Try.prog 37 #[.slice (some ⟨g, 0, none⟩) ks.length cap, .func (.func 30) #[] #[]] w _ := hc
    refine Calls.mono hc2 ?_
    rintro e w' ⟨rfl, n, os, rfl⟩
    rw [elt]
    have hlen : (ks.mergeSort (fun x y => !ltK y x)).length = ks.length := List.length_mergeSort _
    refine ⟨rfl, ⟨by rw [hlen]; omega, .inr ⟨g, cap, by rw [hlen], h1, ?_, by rw [hlen]; exact h3, h4, ?_⟩⟩, sortWorld_keep w g n _ os B h1 h2⟩
    · have := (sortWorld_keep w g n (ks.mergeSort (fun x y => !ltK y x)).toArray os g (Nat.le_refl _) h2).size
      exact Nat.lt_of_lt_of_le h2 this
    · refine range_of_holds (Sort.holdsK_grow keyL 2 _ os g 0 _ ?_ (Sort.holdsK_putRowK keyL 2 (Sort.ahead w n) g 0 ks.toArray _ hH (by simp)))
      show g < (w.heap.modify g _).size
      simpa using h2
set_option maxHeartbeats 1000000 in
theorem sortedFunc_any (Bm b : Nat) (es : List Ce) (w : World) (hB : w.cell? ⟨Bm, 0, none⟩ = some (.map (some b))) (hM : CacMap w b es) (hk : KeysOk es) (hs : SortedC es) (hl : es.length ≤ 999) :
    Calls Try.prog 28 #[.func (.func 38) #[] #[.pointer (some ⟨Bm, 0, none⟩)], .func (.func 30) #[] #[]] w fun e w' => ∃ v, e = .returned v ∧ KeysAt w' w.heap.size v (es.map keyC) ∧ Below w.heap.size w w' := by
  have HC := Lib.hid (collect_any 38 #[.pointer (some ⟨Bm, 0, none⟩)] (enters_of Try.func38 (by kernel_rfl) rfl) _ es.length hl w (keysGives Bm b es w hB hM hk hs.apart))
  have HS := Lib.hid (fun ks => @sorted_keys es hs ks)
  clear hB hM hk hs
  go_enter Try.func28, Try.ntmps28
  go_wp2_with fail
  refine HC.out.mono ?_
  rintro e w1 ⟨v, ks, rfl, hS, hr, hb⟩
  have HST := Lib.hid (sortK_any v ks w1 w.heap.size hr)
  have HE : Hid (ks.mergeSort (fun x y => !ltK y x) = es.map keyC) := Lib.hid (HS.out ks hS)
  obtain ⟨ad, c, rfl⟩ := hr.slice
  have HB := Lib.hid hb
  clear hS hr hb HC HS
  go_wp2_with fail
  refine HST.out.mono ?_
  rintro e w2 ⟨rfl, hk2, hb2⟩
  rw [HE.out] at hk2
  have HK2 := Lib.hid hk2
  have HB2 := Lib.hid (HB.out.trans hb2)
  clear hk2 hb2 HST
  go_wp2_with fail
  go_ret
  exact ⟨_, rfl, HK2.out, HB2.out⟩
set_option maxHeartbeats 1000000 in
theorem keys_any (G b : Nat) (room : Int) (es : List Ce) (w : World) (h : CacAt w G b room es) : Calls Try.prog 12 #[.pointer (some ⟨G, 0, none⟩)] w fun e w' => ∃ v, e = .returned v ∧ KeysAt w' w.heap.size v (es.map keyC) ∧ Below w.heap.size w w' := by
  have h1 := h.cs.cell 1 _ rfl
  have HMK := Lib.hid (mapsKeys_any b w)
  have HSF : Hid (Calls Try.prog 28 #[.func (.func 38) #[] #[.pointer (some ⟨w.heap.size, 0, none⟩)], .func (.func 30) #[] #[]] (w.alloc (.cells #[.map (some b)] 66)) fun e w' => ∃ v, e = .returned v ∧ KeysAt w' w.heap.size v (es.map keyC) ∧ Below w.heap.size w w') := Lib.hid (by
    have hb : Below w.heap.size w (w.alloc (.cells #[.map (some b)] 66)) := (Below.refl _ _).alloc (Nat.le_refl _) _
    have h2 := h.below hb
    refine (sortedFunc_any w.heap.size b es _ (by rw [World.cell?_alloc_new]; rfl) h2.mp h2.ok h2.so (by have := h.len; omega)).mono ?_
    rintro e w' ⟨v, rfl, hk, hb2⟩
    exact ⟨v, rfl, hk.mono (by simp), chain hb hb2⟩)
  clear h
  go_enter Try.func12, Try.ntmps12
  go_wp2_with fail
  refine HMK.out.mono ?_
  rintro e w1 ⟨rfl, rfl⟩
  clear HMK
  go_wp2_with fail
  refine HSF.out.mono ?_
  rintro e w2 ⟨v, rfl, hk, hb⟩
  obtain ⟨ad, c, rfl⟩ := hk.slice
  have HK := Lib.hid hk
  have HB := Lib.hid hb
  clear hk hb HSF
  go_wp2_with fail
  go_ret
  exact ⟨_, rfl, by have := HK.out; rw [List.length_map] at this; exact this, HB.out⟩
end Go.Proofs.Ytjmmedpkcedngaa
/- A row (a slice) of structs that came in, opened: the list of its elements, as they lie. -/
namespace Go.Proofs.Ytjmmedpkcedngaa
open Go.ChangeShapes Go.WideShapes Go.ChangeAt Go.RowKit
set_option linter.unusedVariables false
set_option maxRecDepth 20000

theorem flatMap_len {α : Type} (Lf : α → List Value) (S : Nat) : ∀ D : List α, (∀ d ∈ D, (Lf d).length = S) → (D.flatMap Lf).length = D.length * S
  | [], _ => by simp
  | d :: D, h => by
    rw [List.flatMap_cons, List.length_append, h d (by simp), flatMap_len Lf S D (fun x hx => h x (by simp [hx])), List.length_cons, Nat.succ_mul, Nat.add_comm]
theorem flatMap_at {α : Type} (Lf : α → List Value) (S : Nat) : ∀ D : List α, (∀ d ∈ D, (Lf d).length = S) → ∀ k (hk : k < D.length) j, j < S → (D.flatMap Lf)[k * S + j]? = (Lf D[k])[j]?
  | [], _, k, hk, j, hj => absurd hk (by simp)
  | d :: D, h, k, hk, j, hj => by
    have h1 := h d (by simp)
    rw [List.flatMap_cons]
    cases k with
    | zero => rw [Nat.zero_mul, Nat.zero_add, List.getElem?_append_left (by omega)]; rfl
    | succ k =>
      rw [List.getElem?_append_right (by rw [h1, Nat.succ_mul]; omega), h1, show (k + 1) * S + j - S = k * S + j by rw [Nat.succ_mul]; omega]
      exact flatMap_at Lf S D (fun x hx => h x (by simp [hx])) k (by simpa using hk) j hj
/-- Where an element lies. -/
theorem range_at {α : Type} {Lf : α → List Value} {S : Nat} {w : World} {g o : Nat} {D : List α} (h : w.rangeAt g o (D.flatMap Lf)) (hl : ∀ d ∈ D, (Lf d).length = S) (k : Nat) (hk : k < D.length) : w.rangeAt g (o + k * S) (Lf D[k]) := by
  intro j u hu
  have hj : j < S := by
    have := hl _ (List.getElem_mem hk)
    apply Classical.byContradiction
    intro h2
    rw [List.getElem?_eq_none (by omega)] at hu
    cases hu
  have := h (k * S + j) u (by rw [flatMap_at Lf S D hl k hk j hj]; exact hu)
  rw [← Nat.add_assoc] at this
  exact this
theorem choose_list {α : Type} (p : Nat → α → Prop) : ∀ n, (∀ i, i < n → ∃ d, p i d) → ∃ D : List α, D.length = n ∧ ∀ i (hi : i < D.length), p i D[i]
  | 0, _ => ⟨[], rfl, fun i hi => absurd hi (by simp)⟩
  | n + 1, h => by
    obtain ⟨D, h1, h2⟩ := choose_list p n (fun i hi => h i (by omega))
    obtain ⟨d, hd⟩ := h n (by omega)
    refine ⟨D ++ [d], by simp [h1], fun i hi => ?_⟩
    by_cases e : i < D.length
    · rw [List.getElem_append_left e]; exact h2 i e
    · have hin : i = D.length := by simp at hi; omega
      subst hin
      rw [List.getElem_append_right (Nat.le_refl _)]
      simp only [Nat.sub_self, List.getElem_cons_zero]
      rw [h1]
      exact hd
theorem mapM_some {α : Type} (f : Nat → Option α) : ∀ (n : Nat) (cs : List α), (List.range n).mapM f = some cs → cs.length = n ∧ ∀ j (hj : j < cs.length), f j = some cs[j] := by
  intro n
  induction n with
  | zero => intro cs h; simp at h; subst h; exact ⟨rfl, fun j hj => absurd hj (by simp)⟩
  | succ n ih =>
    intro cs h
    rw [List.range_succ, List.mapM_append] at h
    simp only [Option.bind_eq_bind, List.mapM_cons, List.mapM_nil, Option.pure_def] at h
    cases h1 : (List.range n).mapM f with
    | none => rw [h1] at h; simp at h
    | some xs =>
      rw [h1] at h
      cases h2 : f n with
      | none => rw [h2] at h; simp at h
      | some y =>
        rw [h2] at h
        simp at h
        obtain ⟨l1, l2⟩ := ih xs h1
        subst h
        refine ⟨by simp [l1], fun j hj => ?_⟩
        by_cases e : j < xs.length
        · rw [List.getElem_append_left e]; exact l2 j e
        · have hjn : j = xs.length := by simp at hj; omega
          subst hjn
          rw [List.getElem_append_right (Nat.le_refl _)]
          simp only [Nat.sub_self, List.getElem_cons_zero]
          rw [l1]
          exact h2
/-- A row of structs, opened. -/
theorem open_rows {α : Type} {H : Type} {enc : TypeId × Value → H} {W : World} {spare : Nat → Bool} {t e : TypeId} {fuel : Nat} {a : Option Addr} {len cap : Nat} {x : DataW H × List MemPlace} (Lf : α → List Value) (S : Nat) (q : α → Prop)
    (ht : Try.prog.underlying t = some (.slice e)) (hS : Try.prog.cellsOf e = S) (hpos : 0 < S)
    (hel : ∀ (n : Nat) (cs : List Value) (y : DataW H × List MemPlace), cs.length = S → DataW.trod enc Try.prog W 0 spare true n e cs = some y → ∃ d, cs = Lf d ∧ q d)
    (h : DataW.trod enc Try.prog W 0 spare true fuel t [.slice a len cap] = some x) :
    len ≤ cap ∧ cap ≤ maxLen ∧ (len = 0 ∨ ∃ (g o : Nat) (D : List α), a = some ⟨g, o, none⟩ ∧ D.length = len ∧ (∀ d ∈ D, q d ∧ (Lf d).length = S) ∧ W.rangeAt g o (D.flatMap Lf) ∧ g < W.heap.size) := by
  rcases Deep.open_slice ht h with ⟨h0, _⟩ | ⟨a', len', cap', m, n, D, Pl, h0, hb, hl, hm, hmm, _, hc⟩
  · injection h0 with h0 _
    injection h0 with h1 h2 h3
    subst h1 h2 h3
    exact ⟨Nat.le_refl _, Nat.zero_le _, .inl rfl⟩
  · injection h0 with h0 _
    injection h0 with h1 h2 h3
    subst h1 h2 h3
    refine ⟨hl, hm, ?_⟩
    by_cases hz : len = 0
    · exact .inl hz
    · right
      have hle : len ≤ m := by rw [hmm]; split <;> omega
      rw [hS] at hc
      have key : ∀ i, i < len → ∃ d, (∀ j u, (Lf d)[j]? = some u → W.cell? ((a'.add (i * S)).add j) = some u) ∧ q d ∧ (Lf d).length = S := fun i hi => by
        obtain ⟨cs, c1, c2⟩ := hc i (by omega)
        unfold World.cells? at c1
        rw [if_pos (Nat.zero_le _)] at c1
        obtain ⟨l1, l2⟩ := mapM_some _ _ _ c1
        obtain ⟨d, rfl, hq⟩ := hel n cs _ l1 c2
        refine ⟨d, fun j u hu => ?_, hq, l1⟩
        have hj : j < (Lf d).length := by
          apply Classical.byContradiction
          intro h2
          rw [List.getElem?_eq_none (by omega)] at hu
          cases hu
        rw [l2 j hj]
        rw [List.getElem?_eq_getElem hj] at hu
        exact hu
      obtain ⟨D, d1, d2⟩ := choose_list _ len key
      obtain ⟨d0, e1, _, e3⟩ := key 0 (by omega)
      have hc0 := e1 0 _ (List.getElem?_eq_getElem (by omega))
      have hspot : a'.spot = none := by
        rw [Nat.zero_mul] at hc0
        have : (a'.add 0).add 0 = a' := by simp [Addr.add]
        rw [this] at hc0
        unfold World.cell? at hc0
        split at hc0
        · split at hc0
          · cases hc0
          · rename_i h; simpa using h
        · cases hc0
      obtain ⟨g, o, sp⟩ := a'
      simp only at hspot
      subst hspot
      have hadd : ∀ i j, ((⟨g, o, none⟩ : Addr).add i).add j = ⟨g, o + i + j, none⟩ := fun i j => by
        unfold Addr.add
        split <;> split <;> simp_all [Nat.add_assoc]
      have hlen : ∀ d ∈ D, (Lf d).length = S := fun d hd => by
        obtain ⟨i, hi, rfl⟩ := List.getElem_of_mem hd
        exact (d2 i hi).2.2
      refine ⟨g, o, D, rfl, d1, fun d hd => ?_, fun k u hu => ?_, ?_⟩
      · obtain ⟨i, hi, rfl⟩ := List.getElem_of_mem hd
        exact ⟨(d2 i hi).2.1, (d2 i hi).2.2⟩
      · have hk : k < D.length * S := by
          rw [← flatMap_len Lf S D hlen]
          apply Classical.byContradiction
          intro h2
          rw [List.getElem?_eq_none (by omega)] at hu
          cases hu
        have hq : k / S < D.length := Nat.div_lt_of_lt_mul (by rw [Nat.mul_comm]; exact hk)
        have hkk : k / S * S + k % S = k := by rw [Nat.mul_comm]; exact Nat.div_add_mod k S
        have h3 := flatMap_at Lf S D hlen (k / S) hq (k % S) (Nat.mod_lt _ hpos)
        rw [hkk, hu] at h3
        have h4 := (d2 (k / S) hq).1 (k % S) u h3.symm
        rw [hadd] at h4
        rw [← hkk, ← Nat.add_assoc]
        exact h4
      · rw [Nat.zero_mul, hadd] at hc0
        unfold World.cell? at hc0
        apply Classical.byContradiction
        intro h2
        rw [Array.getElem?_eq_none (by simpa using h2)] at hc0
        cases hc0
end Go.Proofs.Ytjmmedpkcedngaa
/- Contract of the reference's SameAddrs of layer 10. -/
namespace Go.Proofs.Ytjmmedpkcedngaa
open Go.RowKit
set_option linter.unusedVariables false
set_option maxRecDepth 20000

/-- An address as plain data: its family, its bytes. -/
def adL (r : Int × List Nat) : List Value := addrL r.1 r.2
/-- A slice of addresses, wherever it lies. -/
def AdsAt (w : World) (a : Option Addr) (cap : Nat) (D : List (Int × List Nat)) : Prop :=
  D.length ≤ cap ∧ cap ≤ maxLen ∧ (∀ r ∈ D, r.2.length = 16) ∧ (D.length = 0 ∨ ∃ g o, a = some ⟨g, o, none⟩ ∧ g < w.heap.size ∧ w.rangeAt g o (D.flatMap adL))
theorem AdsAt.below {w w' : World} {a : Option Addr} {cap : Nat} {D : List (Int × List Nat)} (h : AdsAt w a cap D) (hb : Below w.heap.size w w') : AdsAt w' a cap D := by
  obtain ⟨h1, h2, h3, h4⟩ := h
  refine ⟨h1, h2, h3, ?_⟩
  rcases h4 with h4 | ⟨g, o, e, hg, hr⟩
  · exact .inl h4
  · exact .inr ⟨g, o, e, Nat.lt_of_lt_of_le hg hb.size, fun j u hu => (hb.cell (p := ⟨g, o + j, none⟩) hg).trans (hr j u hu)⟩
theorem AdsAt.at {w : World} {a : Option Addr} {cap : Nat} {D : List (Int × List Nat)} (h : AdsAt w a cap D) (k : Nat) (hk : k < D.length) : ∃ g o, a = some ⟨g, o, none⟩ ∧ g < w.heap.size ∧ w.rangeAt g (o + k * 17) (adL D[k]) := by
  obtain ⟨h1, h2, h3, h4⟩ := h
  rcases h4 with h4 | ⟨g, o, e, hg, hr⟩
  · omega
  · exact ⟨g, o, e, hg, range_at hr (S := 17) (fun d hd => addrL_len d.1 d.2 (h3 d hd)) k hk⟩
theorem run_neq_ad (r s : Int × List Nat) (W : World) (hx : r.2.length = 16) (hy : s.2.length = 16) : (binOp .neq 55 (addrV r.1 r.2) (addrV s.1 s.2)).run Try.prog W = .ok (.bool (!decide (r = s))) W := by
  rw [run_neq_addr r.1 s.1 r.2 s.2 W hx hy]
  have e : decide (r.1 = s.1 ∧ r.2 = s.2) = decide (r = s) := decide_eq_decide.2 (Prod.ext_iff).symm
  rw [e]
theorem guard_ad (op : BinOp) (x y : Operand) (r s : Int × List Nat) (W : World) : (eqGuard op 55 x y (addrV r.1 r.2) (addrV s.1 s.2)).run Try.prog W = .ok () W := guard_addr _ _ _ _ _ _ _ _
theorem yields_ad {ops : Array Oper} {S : World → Prop} {op : Oper} {a : Act} {G o : Nat} {r : Int × List Nat} (h16 : Hid (r.2.length = 16)) (hS : Hid (∀ w, S w → w.rangeAt G o (adL r))) (hw : Region.wanted op (yielded ops a.tmps) = true) (x : Operand) (ho : op.op = .load 55 x) (hx : a.eval x = .pointer (some ⟨G, o, none⟩)) : YieldsIf Try.prog ops S op (addrV r.1 r.2) a :=
  yieldsIf_load_mid hw 55 x ho G o hx (addrL r.1 r.2) _ (fun w h => hS.out w h) Try.underlying55 rfl (by rw [addr_size, addrL_len _ _ h16.out])
set_option maxRecDepth 100000 in
set_option maxHeartbeats 1000000 in
theorem sameAdsC_any (a b : Option Addr) (c d : Nat) (D E : List (Int × List Nat)) (w : World) (hD : AdsAt w a c D) (hE : AdsAt w b d E) (hl : D.length ≤ 1000000) (hl2 : E.length ≤ 1000000) :
    Calls Try.prog 21 #[.slice a D.length c, .slice b E.length d] w fun e w' => e = .returned (.bool (decide (D = E))) ∧ Below w.heap.size w w' := by
  have HD := Lib.hid hD
  have HE := Lib.hid hE
  obtain ⟨R, hR⟩ : ∃ R, decide (D = E) = R := ⟨_, rfl⟩
  have HRR := Lib.hid hR
  rw [hR]
  obtain ⟨N, hN⟩ : ∃ N, D.length = N := ⟨_, rfl⟩
  obtain ⟨M, hM⟩ : ∃ M, E.length = M := ⟨_, rfl⟩
  have HN := Lib.hid hN
  have HM := Lib.hid hM
  rw [hN] at hl ⊢
  rw [hM] at hl2 ⊢
  clear hD hE hR hN hM
  by_cases hNM : N = M
  · subst hNM
    have hne : ((N : Int) != (N : Int)) = false := by simp
    go_enter Try.func21, Try.ntmps21
    go_wp2_with fail
    go_loopw [5] (fun i wr => ∃ k : Nat, k ≤ N ∧ i = .int .i64 (k : Int) ∧ Hid (∀ j (h : j < D.length) (h2 : j < E.length), j < k → D[j] = E[j]) ∧ Hid (Below w.heap.size w wr)) (fun i _ => N - (intOf i).toNat)
    case atStart => exact ⟨0, Nat.zero_le _, rfl, Lib.hid (fun j _ _ h => absurd h (by omega)), Lib.hid (Below.refl _ _)⟩
    case round =>
      obtain ⟨k, hk, rfl, HO, HB⟩ := hrel
      by_cases hkN : k < N
      · have hd : decide ((k : Int) < (N : Int)) = true := decide_eq_true (by omega)
        have hdn : decide (k < N) = true := decide_eq_true hkN
        have hkD : k < D.length := by rw [HN.out]; exact hkN
        have hkE : k < E.length := by rw [HM.out]; exact hkN
        have HBD := Lib.hid HB.out.drew
        obtain ⟨g, o, ha, hg, hrg⟩ := (HD.out.below HBD.out).at k hkD
        obtain ⟨g2, o2, hb, hg2, hrg2⟩ := (HE.out.below HBD.out).at k hkE
        subst ha
        subst hb
        have H16 := Lib.hid (HD.out.2.2.1 _ (List.getElem_mem hkD))
        have H17 := Lib.hid (HE.out.2.2.1 _ (List.getElem_mem hkE))
        have q := fun W => run_neq_ad D[k] E[k] W H16.out H17.out
        have HO2 : Hid (D[k] = E[k] → ∀ j (h : j < D.length) (h2 : j < E.length), j < k + 1 → D[j] = E[j]) := Lib.hid (fun e j h h2 hj => by
          by_cases h3 : j < k
          · exact HO.out j h h2 h3
          · obtain rfl : j = k := by omega
            exact e)
        have HF : Hid (D[k] ≠ E[k] → R = false) := Lib.hid (fun e => by
          rw [← HRR.out]
          refine decide_eq_false (fun h => e ?_)
          subst h
          rfl)
        have gd := guard_ad
        generalize D[k] = r at *
        generalize E[k] = s at *
        have hb1 : (0 : Int) ≤ (k : Int) := by omega
        have hb2 : (k : Int) < (N : Int) := by omega
        obtain ⟨S, hS⟩ : ∃ S : World → Prop, (fun W => W.rangeAt g (o + k * 17) (adL r) ∧ W.rangeAt g2 (o2 + k * 17) (adL s)) = S := ⟨_, rfl⟩
        have C1 : Hid (∀ w', S w' → w'.rangeAt g (o + k * 17) (adL r)) := Lib.hid (fun w' h => by rw [← hS] at h; exact h.1)
        have C2 : Hid (∀ w', S w' → w'.rangeAt g2 (o2 + k * 17) (adL s)) := Lib.hid (fun w' h => by rw [← hS] at h; exact h.2)
        have HSS : Hid (S wr.drew) := Lib.hid (by rw [← hS]; exact ⟨hrg, hrg2⟩)
        clear hS hrg hrg2 hg hg2
        by_cases hrs : r = s
        · have hq : (!decide (r = s)) = false := by rw [decide_eq_true hrs]; rfl
          rw [hq] at q
          have HO3 := Lib.hid (HO2.out hrs)
          clear HO2 HF HO hrs hq
          go_upto_region 6 with fail
          refine wp_region_noPanic ?_
          refine wp_region_held_drew (S := S) (by kernel_rfl) HSS.out (fun hHeld => ?_)
          refine wpAnyH_take (i := 0) (v := ?_) rfl (by kernel_rfl) (by kernel_rfl) (by kernel_rfl) (fun _ _ _ h => h) (Or.inl ⟨by rfl, ?_⟩) (by assumption) ?_
          rotate_left
          · (intro w hSw; go_simp; try (with_reducible rfl))
          try simp only [Act.put, List.getElem_toArray, List.getElem_cons_zero, List.setIfInBounds_toArray, List.set_cons_zero, List.set_cons_succ]
          refine wpAnyH_take (i := 1) (v := ?_) rfl (by kernel_rfl) (by kernel_rfl) (by kernel_rfl) (fun _ _ _ h => h) (Or.inl ⟨by rfl, ?_⟩) (by assumption) ?_
          rotate_left
          · (intro w hSw; go_simp; try (with_reducible rfl))
          try simp only [Act.put, List.getElem_toArray, List.getElem_cons_zero, List.getElem_cons_succ, List.setIfInBounds_toArray, List.set_cons_zero, List.set_cons_succ]
          refine wpAnyH_take (i := 2) (v := ?_) rfl (by kernel_rfl) (by kernel_rfl) (by kernel_rfl) (fun _ _ _ h => h) (Or.inl ⟨by rfl, ?_⟩) (by assumption) ?_
          rotate_left
          · (intro w hSw; go_simp; try (with_reducible rfl))
          try simp only [Act.put, List.getElem_toArray, List.getElem_cons_zero, List.getElem_cons_succ, List.setIfInBounds_toArray, List.set_cons_zero, List.set_cons_succ]
          refine wpAnyH_take (i := 3) rfl (by kernel_rfl) (by kernel_rfl) (by kernel_rfl) (fun _ _ _ h => h) (yields_ad H16 C1 (by rfl) _ rfl rfl) (by assumption) ?_
          try simp only [Act.put, List.getElem_toArray, List.getElem_cons_zero, List.getElem_cons_succ, List.setIfInBounds_toArray, List.set_cons_zero, List.set_cons_succ]
          refine wpAnyH_take (i := 4) (v := ?_) rfl (by kernel_rfl) (by kernel_rfl) (by kernel_rfl) (fun _ _ _ h => h) (Or.inl ⟨by rfl, ?_⟩) (by assumption) ?_
          rotate_left
          · (intro w hSw; go_simp; try (with_reducible rfl))
          try simp only [Act.put, List.getElem_toArray, List.getElem_cons_zero, List.getElem_cons_succ, List.setIfInBounds_toArray, List.set_cons_zero, List.set_cons_succ]
          refine wpAnyH_take (i := 5) (v := ?_) rfl (by kernel_rfl) (by kernel_rfl) (by kernel_rfl) (fun _ _ _ h => h) (Or.inl ⟨by rfl, ?_⟩) (by assumption) ?_
          rotate_left
          · (intro w hSw; go_simp; try (with_reducible rfl))
          try simp only [Act.put, List.getElem_toArray, List.getElem_cons_zero, List.getElem_cons_succ, List.setIfInBounds_toArray, List.set_cons_zero, List.set_cons_succ]
          refine wpAnyH_take (i := 6) (v := ?_) rfl (by kernel_rfl) (by kernel_rfl) (by kernel_rfl) (fun _ _ _ h => h) (Or.inl ⟨by rfl, ?_⟩) (by assumption) ?_
          rotate_left
          · (intro w hSw; go_simp; try (with_reducible rfl))
          try simp only [Act.put, List.getElem_toArray, List.getElem_cons_zero, List.getElem_cons_succ, List.setIfInBounds_toArray, List.set_cons_zero, List.set_cons_succ]
          refine wpAnyH_take (i := 7) rfl (by kernel_rfl) (by kernel_rfl) (by kernel_rfl) (fun _ _ _ h => h) (yields_ad H17 C2 (by rfl) _ rfl rfl) (by assumption) ?_
          try simp only [Act.put, List.getElem_toArray, List.getElem_cons_zero, List.getElem_cons_succ, List.setIfInBounds_toArray, List.set_cons_zero, List.set_cons_succ]
          refine wpAnyH_take (i := 8) (v := ?_) rfl (by kernel_rfl) (by kernel_rfl) (by kernel_rfl) (fun _ _ _ h => h) (Or.inl ⟨by rfl, ?_⟩) (by assumption) ?_
          rotate_left
          · (intro w hSw; go_simp; try (with_reducible rfl))
          try simp only [Act.put, List.getElem_toArray, List.getElem_cons_zero, List.getElem_cons_succ, List.setIfInBounds_toArray, List.set_cons_zero, List.set_cons_succ]
          refine wpAnyH_done (by kernel_rfl) ?_ _
          refine NoPanic.normal ?_
          clear q gd C1 C2 HSS hHeld
          go_wp2_with fail
          go_roundw
          case rel => exact ⟨k + 1, by omega, by go_num, HO3, HBD⟩
          case measure => simp [intOf]; omega
        · have hq : (!decide (r = s)) = true := by rw [decide_eq_false hrs]; rfl
          rw [hq] at q
          have ER := HF.out hrs
          subst ER
          clear HO2 HF HO hrs hq
          go_upto_region 6 with fail
          refine wp_region_noPanic ?_
          refine wp_region_held_drew (S := S) (by kernel_rfl) HSS.out (fun hHeld => ?_)
          refine wpAnyH_take (i := 0) (v := ?_) rfl (by kernel_rfl) (by kernel_rfl) (by kernel_rfl) (fun _ _ _ h => h) (Or.inl ⟨by rfl, ?_⟩) (by assumption) ?_
          rotate_left
          · (intro w hSw; go_simp; try (with_reducible rfl))
          try simp only [Act.put, List.getElem_toArray, List.getElem_cons_zero, List.setIfInBounds_toArray, List.set_cons_zero, List.set_cons_succ]
          refine wpAnyH_take (i := 1) (v := ?_) rfl (by kernel_rfl) (by kernel_rfl) (by kernel_rfl) (fun _ _ _ h => h) (Or.inl ⟨by rfl, ?_⟩) (by assumption) ?_
          rotate_left
          · (intro w hSw; go_simp; try (with_reducible rfl))
          try simp only [Act.put, List.getElem_toArray, List.getElem_cons_zero, List.getElem_cons_succ, List.setIfInBounds_toArray, List.set_cons_zero, List.set_cons_succ]
          refine wpAnyH_take (i := 2) (v := ?_) rfl (by kernel_rfl) (by kernel_rfl) (by kernel_rfl) (fun _ _ _ h => h) (Or.inl ⟨by rfl, ?_⟩) (by assumption) ?_
          rotate_left
          · (intro w hSw; go_simp; try (with_reducible rfl))
          try simp only [Act.put, List.getElem_toArray, List.getElem_cons_zero, List.getElem_cons_succ, List.setIfInBounds_toArray, List.set_cons_zero, List.set_cons_succ]
          refine wpAnyH_take (i := 3) rfl (by kernel_rfl) (by kernel_rfl) (by kernel_rfl) (fun _ _ _ h => h) (yields_ad H16 C1 (by rfl) _ rfl rfl) (by assumption) ?_
          try simp only [Act.put, List.getElem_toArray, List.getElem_cons_zero, List.getElem_cons_succ, List.setIfInBounds_toArray, List.set_cons_zero, List.set_cons_succ]
          refine wpAnyH_take (i := 4) (v := ?_) rfl (by kernel_rfl) (by kernel_rfl) (by kernel_rfl) (fun _ _ _ h => h) (Or.inl ⟨by rfl, ?_⟩) (by assumption) ?_
          rotate_left
          · (intro w hSw; go_simp; try (with_reducible rfl))
          try simp only [Act.put, List.getElem_toArray, List.getElem_cons_zero, List.getElem_cons_succ, List.setIfInBounds_toArray, List.set_cons_zero, List.set_cons_succ]
          refine wpAnyH_take (i := 5) (v := ?_) rfl (by kernel_rfl) (by kernel_rfl) (by kernel_rfl) (fun _ _ _ h => h) (Or.inl ⟨by rfl, ?_⟩) (by assumption) ?_
          rotate_left
          · (intro w hSw; go_simp; try (with_reducible rfl))
          try simp only [Act.put, List.getElem_toArray, List.getElem_cons_zero, List.getElem_cons_succ, List.setIfInBounds_toArray, List.set_cons_zero, List.set_cons_succ]
          refine wpAnyH_take (i := 6) (v := ?_) rfl (by kernel_rfl) (by kernel_rfl) (by kernel_rfl) (fun _ _ _ h => h) (Or.inl ⟨by rfl, ?_⟩) (by assumption) ?_
          rotate_left
          · (intro w hSw; go_simp; try (with_reducible rfl))
          try simp only [Act.put, List.getElem_toArray, List.getElem_cons_zero, List.getElem_cons_succ, List.setIfInBounds_toArray, List.set_cons_zero, List.set_cons_succ]
          refine wpAnyH_take (i := 7) rfl (by kernel_rfl) (by kernel_rfl) (by kernel_rfl) (fun _ _ _ h => h) (yields_ad H17 C2 (by rfl) _ rfl rfl) (by assumption) ?_
          try simp only [Act.put, List.getElem_toArray, List.getElem_cons_zero, List.getElem_cons_succ, List.setIfInBounds_toArray, List.set_cons_zero, List.set_cons_succ]
          refine wpAnyH_take (i := 8) (v := ?_) rfl (by kernel_rfl) (by kernel_rfl) (by kernel_rfl) (fun _ _ _ h => h) (Or.inl ⟨by rfl, ?_⟩) (by assumption) ?_
          rotate_left
          · (intro w hSw; go_simp; try (with_reducible rfl))
          try simp only [Act.put, List.getElem_toArray, List.getElem_cons_zero, List.getElem_cons_succ, List.setIfInBounds_toArray, List.set_cons_zero, List.set_cons_succ]
          refine wpAnyH_done (by kernel_rfl) ?_ _
          refine NoPanic.normal ?_
          clear q gd C1 C2 HSS hHeld
          go_wp2_with fail
          go_ret
          exact ⟨rfl, HBD.out⟩
      · obtain rfl : k = N := by omega
        have hd : decide ((k : Int) < (k : Int)) = false := by simp
        have ER : R = true := by
          rw [← HRR.out]
          refine decide_eq_true (List.ext_getElem (by rw [HN.out, HM.out]) (fun j h1 h2 => HO.out j h1 h2 (by rw [← HN.out]; exact h1)))
        subst ER
        clear HO
        go_wp2_with fail
        go_ret
        exact ⟨rfl, HB.out⟩
  · have hne : ((N : Int) != (M : Int)) = true := by rw [bne_iff_ne]; omega
    have ER : R = false := by
      rw [← HRR.out]
      refine decide_eq_false (fun h => hNM ?_)
      rw [← HN.out, ← HM.out, h]
    subst ER
    go_enter Try.func21, Try.ntmps21
    go_wp2_with fail
    go_ret
    exact ⟨rfl, Below.refl _ _⟩
end Go.Proofs.Ytjmmedpkcedngaa
/- Rows of addresses of one's own (api.Addr: 17 cells), and slices.Clone of addresses. -/
namespace Go.Proofs.Ytjmmedpkcedngaa
open Go.RowKit
set_option linter.unusedVariables false
set_option maxRecDepth 20000

abbrev Ad := Int × List Nat
def flatA (D : List Ad) : List Value := D.flatMap adL
def H16 (D : List Ad) : Prop := ∀ r ∈ D, r.2.length = 16
theorem flatA_len (D : List Ad) (h : H16 D) : (flatA D).length = D.length * 17 := flatMap_len adL 17 D (fun d hd => addrL_len d.1 d.2 (h d hd))
theorem flatA_append (xs ys : List Ad) : flatA (xs ++ ys) = flatA xs ++ flatA ys := by simp [flatA]
theorem flatA_one (D : List Ad) : ∀ u ∈ flatA D, u.oneCell' = true := by
  intro u hu
  obtain ⟨e, he, h2⟩ := List.mem_flatMap.1 hu
  unfold adL addrL at h2
  rcases List.mem_cons.1 h2 with rfl | h2
  · rfl
  · obtain ⟨x, _, rfl⟩ := List.mem_map.1 h2
    rfl
abbrev zAd : Array Value := #[.int .i64 0, .int .u8 0, .int .u8 0, .int .u8 0, .int .u8 0, .int .u8 0, .int .u8 0, .int .u8 0, .int .u8 0, .int .u8 0, .int .u8 0, .int .u8 0, .int .u8 0, .int .u8 0, .int .u8 0, .int .u8 0, .int .u8 0]
theorem infoA : (Try.prog.info? 55).map (fun i => (i.zero, i.size, i.bytes)) = some (some (.agg zAd), 17, 24) := by kernel_rfl
/-- A row of addresses of one's own. -/
def RowA (w : World) (base : Nat) (v : Value) (D : List Ad) : Prop := w.ownsRow base 55 17 v D.length (flatA D) ∧ H16 D ∧ D.length ≤ 1000
theorem RowA.nil (w : World) (base : Nat) : RowA w base (.slice none 0 0) [] := ⟨World.ownsRow_nil _ _ _ _, (fun r h => by cases h), by decide⟩
theorem RowA.kept2 {w w' : World} {B : Nat} {v : Value} {D : List Ad} (h : RowA w B v D) (hk : ∀ g, v.ownBlock = some g → w'.heap[g]? = w.heap[g]?) : RowA w' B v D := by
  obtain ⟨⟨h1, h2⟩, h3⟩ := h
  refine ⟨⟨h1, ?_⟩, h3⟩
  rcases h2 with h2 | ⟨g, cap, cur, e1, e2, e3, e4⟩
  · exact .inl h2
  · exact .inr ⟨g, cap, cur, e1, e2, (hk g (by rw [e1]; rfl)).trans e3, e4⟩
theorem RowA.lt {w : World} {B : Nat} {v : Value} {D : List Ad} (h : RowA w B v D) : ∀ g, v.ownBlock = some g → B ≤ g ∧ g < w.heap.size := fun g hg => h.1.lt g hg
theorem RowA.below {w w' : World} {base : Nat} {v : Value} {D : List Ad} (h : RowA w base v D) (hb : Below w.heap.size w w') : RowA w' base v D := h.kept2 (fun g hg => hb.block g (h.lt g hg).2)
theorem RowA.mono {w : World} {base base' : Nat} {v : Value} {D : List Ad} (h : RowA w base v D) (hb : base' ≤ base) : RowA w base' v D := by
  obtain ⟨⟨h1, h2⟩, h3⟩ := h
  refine ⟨⟨h1, ?_⟩, h3⟩
  rcases h2 with h2 | ⟨g, cap, cur, e1, e2, e3⟩
  · exact .inl h2
  · exact .inr ⟨g, cap, cur, e1, by omega, e3⟩
theorem RowA.form {w : World} {base : Nat} {v : Value} {es : List Ad} (h : RowA w base v es) : (v = .slice none 0 0 ∧ es = []) ∨ ∃ g cap, v = .slice (some ⟨g, 0, none⟩) es.length cap ∧ base ≤ g ∧ g < w.heap.size ∧ es.length ≤ cap ∧ cap ≤ maxLen ∧ w.rangeAt g 0 (flatA es) := by
  obtain ⟨hr, h16, hle⟩ := h
  obtain ⟨h1, h2⟩ := hr
  rcases h2 with ⟨e1, e2⟩ | ⟨g, cap, cur, e1, e2, e3, e4, e5, e6, e7⟩
  · exact .inl ⟨e1, List.eq_nil_of_length_eq_zero e2⟩
  · refine .inr ⟨g, cap, e1, e2, ?_, e4, e5, fun j u hu => ?_⟩
    · apply Classical.byContradiction
      intro h
      rw [Array.getElem?_eq_none (by omega)] at e3
      cases e3
    · rw [Nat.zero_add, cell_of_row w g j cur _ _ e3, ← Array.getElem?_toList]
      rw [← e7, List.getElem?_take] at hu
      split at hu
      · exact hu
      · cases hu
/-- A slice of addresses that came in, or of one's own. -/
def AdsIn (w : World) (a : Option Addr) (cap : Nat) (D : List Ad) : Prop := AdsAt w a cap D ∧ True
theorem AdsIn.below {w w' : World} {a : Option Addr} {cap : Nat} {D : List Ad} (h : AdsIn w a cap D) (hb : Below w.heap.size w w') : AdsIn w' a cap D := ⟨h.1.below hb, h.2⟩
theorem AdsIn.nil (w : World) : AdsIn w none 0 [] := ⟨⟨by simp, by unfold maxLen; omega, (fun r h => by cases h), .inl rfl⟩, trivial⟩
theorem RowA.ads {w : World} {base : Nat} {v : Value} {D : List Ad} (h : RowA w base v D) : ∃ a c, v = .slice a D.length c ∧ AdsIn w a c D := by
  rcases h.form with ⟨rfl, rfl⟩ | ⟨g, cap, rfl, h1, h2, h3, h4, h5⟩
  · exact ⟨none, 0, rfl, AdsIn.nil w⟩
  · exact ⟨_, _, rfl, ⟨h3, h4, h.2.1, .inr ⟨g, 0, rfl, h2, h5⟩⟩, trivial⟩
theorem append_ads {ops : Array Oper} {rest : List Oper} {op : Oper} {a : Act} {w : World} {Q : Exit → Act → World → Prop} {base : Nat} {v : Value} {es : List Ad} (hE : Hid (RowA w base v es)) (s x : Operand) (hgd : op.guard = none) (ho : op.op = .call { callee := .builtin .append, args := #[s, x], argTypes := #[30, 30] })
    (hs : a.eval s = v) {G o m c : Nat} (ys : List Ad) (hx : a.eval x = .slice (some ⟨G, o, none⟩) m c) (hm : Hid (m = ys.length)) (hr : Hid (w.rangeAt G o (flatA ys))) (hy : Hid (H16 ys)) (hle : Hid (es.length + ys.length ≤ 1000)) (hbase : Hid (base ≤ w.heap.size))
    (h : ∀ v' w', Hid (RowA w' base v' (es ++ ys)) → Hid (w.grownBy w' v.ownBlock) → wpList Try.prog ops Q rest (a.put op.dst v') w') : wpList Try.prog ops Q (op :: rest) a w := by
  obtain ⟨i0, hi0, hz0, hz1, hz2⟩ := info_parts infoA
  have hml := hm.out
  have hll := hle.out
  refine wpList_append_own_at w hgd s x 30 ho base 55 i0 _ 17 24 Try.underlying30 hi0 hz0 hz1 hz2 rfl (by decide) v es.length (flatA es) hs hE.out.1 ⟨G, o, none⟩ m c (flatA ys) hx (by rw [flatA_len ys hy.out, hml]) (fun j u hu => ?_) (flatA_one ys) (by unfold maxLen; omega) (by omega) hbase.out (fun v' w' h1 h2 _ h4 => ?_)
  · have := hr.out j u hu
    have hadd : (⟨G, o, none⟩ : Addr).add j = ⟨G, o + j, none⟩ := by unfold Addr.add; split <;> simp_all
    rw [hadd]
    exact this
  · refine h v' w' (Lib.hid ⟨?_, ?_, ?_⟩) (Lib.hid h2)
    · rw [List.length_append, flatA_append, ← hml]; exact h1
    · intro e he
      rcases List.mem_append.1 he with he | he
      · exact hE.out.2.1 e he
      · exact hy.out e he
    · rw [List.length_append]; exact hll
theorem append_adsZ {ops : Array Oper} {rest : List Oper} {op : Oper} {a : Act} {w : World} {Q : Exit → Act → World → Prop} {base : Nat} {v : Value} {es : List Ad} (hE : Hid (RowA w base v es)) (s x : Operand) (hgd : op.guard = none) (ho : op.op = .call { callee := .builtin .append, args := #[s, x], argTypes := #[30, 30] })
    (hs : a.eval s = v) {ad : Addr} {c : Nat} (hx : a.eval x = .slice (some ad) 0 c) (hbase : Hid (base ≤ w.heap.size))
    (h : ∀ v' w', Hid (RowA w' base v' es) → Hid (w.grownBy w' v.ownBlock) → wpList Try.prog ops Q rest (a.put op.dst v') w') : wpList Try.prog ops Q (op :: rest) a w := by
  obtain ⟨i0, hi0, hz0, hz1, hz2⟩ := info_parts infoA
  have hll := hE.out.2.2
  refine wpList_append_own_at w hgd s x 30 ho base 55 i0 _ 17 24 Try.underlying30 hi0 hz0 hz1 hz2 rfl (by decide) v es.length (flatA es) hs hE.out.1 ad 0 c [] hx rfl (fun j u hu => by cases hu) (fun u hu => by cases hu) (by unfold maxLen; omega) (by omega) hbase.out (fun v' w' h1 h2 _ h4 => ?_)
  refine h v' w' (Lib.hid ⟨?_, hE.out.2⟩) (Lib.hid h2)
  simpa using h1
theorem run_buildA0 (w : World) : (Instr.buildSlice 30 0 #[]).run Try.prog w = .ok (.slice (some ⟨w.heap.size, 0, none⟩) 0 0) (w.alloc (.cells #[] 55)) := by
  have hu : (underlying 30).run Try.prog w = .ok _ w := run_underlying Try.underlying30 w
  have hnr : ∀ cs : Array Value, (newRow 55 cs).run Try.prog w = .ok ⟨w.heap.size, 0, none⟩ (w.alloc (.cells cs 55)) := fun cs => by simp [newRow]
  unfold Instr.buildSlice
  simp [Sem.run_bind, hu, hnr, Instr.fill]
  rw [show Array.map (fun _ => (default : Value)) (Array.range 0) = #[] from Array.eq_empty_of_size_eq_zero (by simp)]
theorem build_stepA0 {ops : Array Oper} {rest : List Oper} {op : Oper} {a : Act} {w : World} {Q : Exit → Act → World → Prop} (hg : op.guard = none) (ho : op.op = .buildSlice 30 0 #[])
    (h : ∀ W, Hid (W = w.alloc (.cells #[] 55)) → wpList Try.prog ops Q rest (a.put op.dst (.slice (some ⟨w.heap.size, 0, none⟩) 0 0)) W) : wpList Try.prog ops Q (op :: rest) a w := by
  refine wpList_plain hg fun K hK => ?_
  unfold Oper.wp execOp
  simp only [ho, List.map_toArray, List.map_nil, Sem.run_bind, run_buildA0 w, Result.andThen_ok]
  exact hK _ _ (h _ (Lib.hid rfl))
theorem rowA_empty (w : World) : RowA (w.alloc (.cells #[] 55)) w.heap.size (.slice (some ⟨w.heap.size, 0, none⟩) 0 0) [] :=
  ⟨⟨rfl, .inr ⟨w.heap.size, 0, #[], rfl, Nat.le_refl _, by show (w.heap.push _)[w.heap.size]? = _; simp, Nat.le_refl _, Nat.zero_le _, rfl, rfl⟩⟩, (fun e he => by cases he), by decide⟩
set_option maxRecDepth 100000 in
theorem cloneA_any (a : Option Addr) (c : Nat) (L : List Ad) (w : World) (hA : AdsIn w a c L) (hl : L.length ≤ 1000) :
    Calls Try.prog 33 #[.slice a L.length c] w fun e w' => ∃ v', e = .returned v' ∧ RowA w' w.heap.size v' L ∧ Below w.heap.size w w' := by
  have q : ∀ (w : World) (a : Option Addr) (n c n' c' : Nat), (binOp .eql 30 (.slice a n c) (.slice none n' c')).run Try.prog w = .ok (.bool a.isNone) w := fun w a n c n' c' => Lib.run_eql_slice_nil w _ _ a n c n' c' Try.underlying30
  obtain ⟨⟨h1, h2, h3, h4⟩, hf⟩ := hA
  cases a with
  | none =>
    have : L = [] := by
      rcases h4 with h4 | ⟨g, o, e, _⟩
      · exact List.eq_nil_of_length_eq_zero h4
      · cases e
    subst this
    go_enter Try.func33, Try.ntmps33
    go_wp2_with fail
    go_ret
    exact ⟨_, rfl, RowA.nil _ _, Below.refl _ _⟩
  | some ad =>
    by_cases hz : L = []
    · subst hz
      go_enter Try.func33, Try.ntmps33
      go_wp2_with (first
        | (refine build_stepA0 rfl rfl (fun W HW => ?_); have HE : Hid (RowA W w.heap.size (.slice (some ⟨w.heap.size, 0, none⟩) 0 0) []) := Lib.hid (by rw [HW.out]; exact rowA_empty w); have HB : Hid (Below w.heap.size w W) := Lib.hid (by rw [HW.out]; exact (Below.refl _ _).alloc (Nat.le_refl _) _); have HS : Hid (w.heap.size ≤ W.heap.size) := Lib.hid HB.out.size)
        | (refine append_adsZ HE _ _ rfl rfl rfl rfl HS (fun v' w' H1 H2 => ?_)))
      go_ret
      refine ⟨v', rfl, H1.out, ?_⟩
      exact HB.out.grown H2.out HS.out (fun k hk => by cases hk; exact Nat.le_refl _)
    obtain ⟨g, o, e, hg, hr⟩ : ∃ g o, some ad = some ⟨g, o, none⟩ ∧ g < w.heap.size ∧ w.rangeAt g o (L.flatMap adL) := by
      rcases h4 with h4 | h4
      · exact absurd (List.eq_nil_of_length_eq_zero h4) hz
      · exact h4
    obtain rfl : ad = ⟨g, o, none⟩ := by injection e
    have HRG : Hid (∀ W, Below w.heap.size w W → W.rangeAt g o (flatA L)) := Lib.hid (fun W hb => range_belowC hr hb hg)
    have HY := Lib.hid (show H16 L from h3)
    have HLE : Hid (([] : List Ad).length + L.length ≤ 1000) := Lib.hid (by rw [List.length_nil]; omega)
    clear h1 h2 h3 h4 hz e hg hr
    obtain ⟨N, hN⟩ : ∃ N, L.length = N := ⟨_, rfl⟩
    have HM : Hid (N = L.length) := Lib.hid hN.symm
    rw [hN]
    clear hN hl
    go_enter Try.func33, Try.ntmps33
    go_wp2_with (first
      | (refine build_stepA0 rfl rfl (fun W HW => ?_); have HE : Hid (RowA W w.heap.size (.slice (some ⟨w.heap.size, 0, none⟩) 0 0) []) := Lib.hid (by rw [HW.out]; exact rowA_empty w); have HB : Hid (Below w.heap.size w W) := Lib.hid (by rw [HW.out]; exact (Below.refl _ _).alloc (Nat.le_refl _) _); have HR1 := Lib.hid (HRG.out W HB.out); have HS : Hid (w.heap.size ≤ W.heap.size) := Lib.hid HB.out.size)
      | (refine append_ads HE _ _ rfl rfl rfl L rfl HM HR1 HY HLE HS (fun v' w' H1 H2 => ?_)))
    go_ret
    refine ⟨v', rfl, H1.out, ?_⟩
    exact HB.out.grown H2.out HS.out (fun k hk => by cases hk; exact Nat.le_refl _)
end Go.Proofs.Ytjmmedpkcedngaa
/- Contracts of Cache.Until and Cache.Get. -/
namespace Go.Proofs.Ytjmmedpkcedngaa
open Go.RowKit Go.Maps
set_option linter.unusedVariables false
set_option maxRecDepth 20000

theorem ent_size : (Try.prog.info? 78).map (·.size) = some 2 := by kernel_rfl
def entL (e : Ce) : List Value := [.slice e.a e.n e.c, .int .i64 e.u]
theorem wp_store_ent {op : Oper} {a : Act} {w : World} {K : Act → World → Prop} {Q : Exit → Act → World → Prop} {G : Nat} {us : List Value} {e : Ce} (hA : Hid (CellsAt w G us)) (hu : us.length = 2) (x y : Operand) (ho : op.op = .store 78 x y)
    (hx : a.eval x = .pointer (some ⟨G, 0, none⟩)) (hy : a.eval y = entV e) (h : ∀ W, Hid (W = w.setCells G 0 (entL e)) → Hid (CellsAt W G (entL e)) → K (a.put op.dst undef) W) : op.wp Try.prog a w K Q :=
  wp_store_mid 78 x y ho G 0 (entL e).toArray hx hy (by have := hA.out.there; rw [hu] at this; exact this) (by rw [ent_size]; rfl) (all_oneCell_toArray (by intro v hv; simp [entL] at hv; rcases hv with rfl | rfl <;> rfl)) (h _ (Lib.hid rfl) (Lib.hid (hA.out.stored (entL e) (by rw [hu]; rfl))))
theorem load_ent {ops : Array Oper} {rest : List Oper} {op : Oper} {a : Act} {w : World} {Q : Exit → Act → World → Prop} {G : Nat} {e : Ce} (hA : Hid (CellsAt w G (entL e))) (x : Operand) (hw : Region.wanted op (yielded ops a.tmps) = true) (ho : op.op = .load 78 x)
    (hx : a.eval x = .pointer (some ⟨G, 0, none⟩)) (h : wpList Try.prog ops Q rest (a.put op.dst (entV e)) w) : wpList Try.prog ops Q (op :: rest) a w :=
  wpList_load_row hw 78 x ho G 0 hx (entL e) _ hA.out.range Try.underlying78 rfl (by rw [ent_size]; rfl) h
abbrev noCe : Ce := ⟨⟨#[]⟩, 0, none, 0, 0, 0⟩
/-- The entry of a key, or the zero one. -/
def theE (es : List Ce) (x : ByteArray) (t : Int) : Ce := (getE es x t).getD noCe
theorem CacMap.look2 {w : World} {b : Nat} {es : List Ce} (h : CacMap w b es) (hk : KeysOk es) (ha : KeysApart es) (x : ByteArray) (t : Int) (hp : KeyOk (x, t)) :
    (Instr.lookup 66 (.map (some b)) (keyV (x, t)) true).run Try.prog w = .ok (.tuple #[entV (theE es x t), .bool (getE es x t).isSome]) w := by
  rw [h.look hk ha x t hp]
  unfold theE
  cases getE es x t <;> rfl
set_option maxRecDepth 100000 in
set_option maxHeartbeats 1000000 in
theorem until_any (G b : Nat) (room : Int) (es : List Ce) (s : ByteArray) (t : Int) (w : World) (h : CacAt w G b room es) (hs : s.size ≤ 2000000) (ht : (Lit.int .i64 t).wf = true) :
    Calls Try.prog 20 #[.pointer (some ⟨G, 0, none⟩), .string s, .int .i64 t] w fun e w' => e = .returned (.tuple #[.int .i64 (theE es (lowB s) t).u, .bool (getE es (lowB s) t).isSome]) ∧ Below w.heap.size w w' := by
  obtain ⟨S, hS⟩ : ∃ S : World → Prop, (fun W => Below w.heap.size w W) = S := ⟨_, rfl⟩
  have HSB : Hid (∀ W, S W → Below w.heap.size w W) := Lib.hid (fun W hW => by rw [← hS] at hW; exact hW)
  have HSI : Hid (∀ W W', S W → Below W.heap.size W W' → S W') := Lib.hid (fun W W' hW hb => by rw [← hS] at hW ⊢; exact chain hW hb)
  have HSI2 : Hid (∀ W B vs, S W → w.heap.size ≤ B → S (W.setCells B 0 vs)) := Lib.hid (fun W B vs hW hb => by rw [← hS] at hW ⊢; exact below_cells hb _ _ _ hW)
  have HS0 : Hid (S w.drew) := Lib.hid (by rw [← hS]; exact (Below.refl _ _).drew)
  have HL : Hid (∀ W, S W → (Instr.lookup 66 (.map (some b)) (keyV (lowB s, t)) true).run Try.prog W = .ok (.tuple #[entV (theE es (lowB s) t), .bool (getE es (lowB s) t).isSome]) W) := Lib.hid (fun W hW => ((h.below (HSB.out W hW)).mp).look2 h.ok h.so.apart _ _ (show KeyOk (lowB s, t) from ⟨by rw [lowB_size]; exact hs, ht⟩))
  have HM1 : Hid (∀ W, S W → W.cell? ⟨G, 1, none⟩ = some (.map (some b))) := Lib.hid (fun W hW => (h.below (HSB.out W hW)).cs.cell 1 _ rfl)
  have HKO : Hid (∀ W, S W → Calls Try.prog 31 #[.string s, .int .i64 t] W fun e w' => e = .returned (keyV (lowB s, t)) ∧ S w' ∧ Below W.heap.size W w') := Lib.hid (fun W hW => (keyOf_any s t W hs).mono (by rintro e w' ⟨rfl, hb⟩; exact ⟨rfl, HSI.out W w' hW hb, hb⟩))
  clear h hS
  generalize theE es (lowB s) t = E at *
  generalize (getE es (lowB s) t).isSome = hb at *
  generalize lowB s = x at *
  obtain ⟨es0, et, ea, en, ec, eu⟩ := E
  unfold entV keyV keyL at *
  go_enter Try.func20, Try.ntmps20
  go_upto_region 1 with fail
  refine wp_region_noPanic ?_
  refine wp_region_held_drew (S := S) (by kernel_rfl) HS0.out (fun hHeld => ?_)
  refine wpAnyH_take (i := 0) (v := ?_) rfl (by kernel_rfl) (by kernel_rfl) (by kernel_rfl) (fun _ _ _ h => h) (Or.inl ⟨by rfl, ?_⟩) (by assumption) ?_
  rotate_left
  · (intro w hSw; go_simp; try (with_reducible rfl))
  try simp only [Act.put, List.getElem_toArray, List.getElem_cons_zero, List.setIfInBounds_toArray, List.set_cons_zero, List.set_cons_succ]
  refine wpAnyH_take (i := 1) (v := ?_) rfl (by kernel_rfl) (by kernel_rfl) (by kernel_rfl) (fun _ _ _ h => h) (Or.inl ⟨by rfl, ?_⟩) (by assumption) ?_
  rotate_left
  · (intro w hSw; go_simp; try (with_reducible rfl))
  try simp only [Act.put, List.getElem_toArray, List.getElem_cons_zero, List.getElem_cons_succ, List.setIfInBounds_toArray, List.set_cons_zero, List.set_cons_succ]
  refine wpAnyH_take (i := 2) (v := ?_) rfl (by kernel_rfl) (by kernel_rfl) (by kernel_rfl) (fun _ _ _ h => h) (Or.inl ⟨by rfl, ?_⟩) (by assumption) ?_
  rotate_left
  · (intro w hSw; go_simp; try (with_reducible rfl))
  try simp only [Act.put, List.getElem_toArray, List.getElem_cons_zero, List.getElem_cons_succ, List.setIfInBounds_toArray, List.set_cons_zero, List.set_cons_succ]
  refine wpAnyH_take (i := 3) (v := ?_) rfl (by kernel_rfl) (by kernel_rfl) (by kernel_rfl) (fun _ _ _ h => h) (Or.inl ⟨by rfl, ?_⟩) (by assumption) ?_
  rotate_left
  · (intro w hSw; have hc0 := HM1.out w hSw; go_simp; try (with_reducible rfl))
  try simp only [Act.put, List.getElem_toArray, List.getElem_cons_zero, List.getElem_cons_succ, List.setIfInBounds_toArray, List.set_cons_zero, List.set_cons_succ]
  refine wpAnyH_take (i := 4) (v := ?_) rfl (by kernel_rfl) (by kernel_rfl) (by kernel_rfl) (fun _ _ _ h => h) (Or.inl ⟨by rfl, ?_⟩) (by assumption) ?_
  rotate_left
  · (intro w hSw; go_simp; try (with_reducible rfl))
  try simp only [Act.put, List.getElem_toArray, List.getElem_cons_zero, List.getElem_cons_succ, List.setIfInBounds_toArray, List.set_cons_zero, List.set_cons_succ]
  refine wpAnyH_take (i := 5) (v := ?_) rfl (by kernel_rfl) (by kernel_rfl) (by kernel_rfl) (fun _ _ _ h => h) (Or.inl ⟨by rfl, ?_⟩) (by assumption) ?_
  rotate_left
  · (intro w hSw; go_simp; try (with_reducible rfl))
  try simp only [Act.put, List.getElem_toArray, List.getElem_cons_zero, List.getElem_cons_succ, List.setIfInBounds_toArray, List.set_cons_zero, List.set_cons_succ]
  refine wpAnyH_ready (rs := [6, 11]) (by kernel_rfl) (by simp) ?_
  refine AllReadyH.cons rfl (fun K hK => ?_) (AllReadyH.cons rfl (fun K hK => ?_) AllReadyH.nil)
  · go_simp
    refine (HKO.out _ hHeld).mono ?_
    rintro e wr6 ⟨rfl, hS6, hb6⟩
    go_wp2_with fail
    refine hK.out _ _ hS6 (fun hHeld => ?_)
    clear hK K
    try simp only [Act.put, List.getElem_toArray, List.getElem_cons_zero, List.getElem_cons_succ, List.setIfInBounds_toArray, List.set_cons_zero, List.set_cons_succ]
    clear hb6
    refine wpAnyH_take (i := 7) (v := ?_) rfl (by kernel_rfl) (by kernel_rfl) (by kernel_rfl) (fun _ _ _ h => h) (Or.inl ⟨by rfl, ?_⟩) (by assumption) ?_
    rotate_left
    · (intro w hSw; have hc0 := HL.out w hSw; go_simp; try (with_reducible rfl))
    try simp only [Act.put, List.getElem_toArray, List.getElem_cons_zero, List.getElem_cons_succ, List.setIfInBounds_toArray, List.set_cons_zero, List.set_cons_succ]
    refine wpAnyH_take (i := 8) (v := ?_) rfl (by kernel_rfl) (by kernel_rfl) (by kernel_rfl) (fun _ _ _ h => h) (Or.inl ⟨by rfl, ?_⟩) (by assumption) ?_
    rotate_left
    · (intro w hSw; go_simp; try (with_reducible rfl))
    try simp only [Act.put, List.getElem_toArray, List.getElem_cons_zero, List.getElem_cons_succ, List.setIfInBounds_toArray, List.set_cons_zero, List.set_cons_succ]
    refine wpAnyH_take (i := 9) (v := ?_) rfl (by kernel_rfl) (by kernel_rfl) (by kernel_rfl) (fun _ _ _ h => h) (Or.inl ⟨by rfl, ?_⟩) (by assumption) ?_
    rotate_left
    · (intro w hSw; go_simp; try (with_reducible rfl))
    try simp only [Act.put, List.getElem_toArray, List.getElem_cons_zero, List.getElem_cons_succ, List.setIfInBounds_toArray, List.set_cons_zero, List.set_cons_succ]
    refine wpAnyH_take (i := 10) (v := ?_) rfl (by kernel_rfl) (by kernel_rfl) (by kernel_rfl) (fun _ _ _ h => h) (Or.inl ⟨by rfl, ?_⟩) (by assumption) ?_
    rotate_left
    · (intro w hSw; go_simp; try (with_reducible rfl))
    try simp only [Act.put, List.getElem_toArray, List.getElem_cons_zero, List.getElem_cons_succ, List.setIfInBounds_toArray, List.set_cons_zero, List.set_cons_succ]
    refine wpAnyH_ready (rs := [11]) (by kernel_rfl) (by simp) ?_
    refine AllReadyH.cons rfl (fun K hK => ?_) AllReadyH.nil
    go_simp
    go_wp2_with fail
    have HZ := Lib.hid (CellsAt.new (wr6) 78 [.slice none 0 0, .int .i64 0])
    have HSW : Hid (S ((wr6).alloc (.cells #[.slice none 0 0, .int .i64 0] 78))) := Lib.hid (HSI.out _ _ hHeld ((Below.refl _ _).alloc (Nat.le_refl _) _))
    have HBG : Hid (w.heap.size ≤ (wr6).heap.size) := Lib.hid (HSB.out _ hHeld).size
    refine hK.out _ _ HSW.out (fun hHeld => ?_)
    clear hK K HSW
    try simp only [Act.put, List.getElem_toArray, List.getElem_cons_zero, List.getElem_cons_succ, List.setIfInBounds_toArray, List.set_cons_zero, List.set_cons_succ]
    generalize wr6.alloc (.cells #[.slice none 0 0, .int .i64 0] 78) = W1 at *
    generalize wr6.heap.size = B at *
    refine wpAnyH_ready (rs := [12]) (by kernel_rfl) (by simp) ?_
    refine AllReadyH.one rfl rfl (fun K hK => ?_)
    refine wp_store_ent (e := ⟨es0, et, ea, en, ec, eu⟩) HZ rfl _ _ rfl rfl rfl (fun V HV HVC => ?_)
    have HSV : Hid (S V) := Lib.hid (by rw [HV.out]; exact HSI2.out _ _ _ hHeld HBG.out)
    go_wp2_with fail
    refine hK.out _ _ HSV.out (fun hHeld => ?_)
    clear hK K
    try simp only [Act.put]
    refine wpAnyH_take (i := 13) (v := ?_) rfl (by kernel_rfl) (by kernel_rfl) (by kernel_rfl) (fun _ _ _ h => h) (Or.inl ⟨by rfl, ?_⟩) (by assumption) ?_
    rotate_left
    · (intro w hSw; go_simp; try (with_reducible rfl))
    try simp only [Act.put, List.getElem_toArray, List.getElem_cons_zero, List.getElem_cons_succ, List.setIfInBounds_toArray, List.set_cons_zero, List.set_cons_succ]
    refine wpAnyH_done (by kernel_rfl) ?_ _
    refine NoPanic.normal ?_
    have h8 := HVC.out.cell 1 _ rfl
    go_wp2_with fail
    go_ret2
    exact ⟨rfl, HSB.out _ hHeld⟩
  · go_simp
    go_wp2_with fail
    have HZ := Lib.hid (CellsAt.new (w.drew) 78 [.slice none 0 0, .int .i64 0])
    have HSW : Hid (S ((w.drew).alloc (.cells #[.slice none 0 0, .int .i64 0] 78))) := Lib.hid (HSI.out _ _ hHeld ((Below.refl _ _).alloc (Nat.le_refl _) _))
    have HBG : Hid (w.heap.size ≤ (w.drew).heap.size) := Lib.hid (HSB.out _ hHeld).size
    refine hK.out _ _ HSW.out (fun hHeld => ?_)
    clear hK K HSW
    try simp only [Act.put, List.getElem_toArray, List.getElem_cons_zero, List.getElem_cons_succ, List.setIfInBounds_toArray, List.set_cons_zero, List.set_cons_succ]
    refine wpAnyH_ready (rs := [6]) (by kernel_rfl) (by simp) ?_
    refine AllReadyH.cons rfl (fun K hK => ?_) AllReadyH.nil
    go_simp
    refine (HKO.out _ hHeld).mono ?_
    rintro e wr6 ⟨rfl, hS6, hb6⟩
    go_wp2_with fail
    refine hK.out _ _ hS6 (fun hHeld => ?_)
    clear hK K
    try simp only [Act.put, List.getElem_toArray, List.getElem_cons_zero, List.getElem_cons_succ, List.setIfInBounds_toArray, List.set_cons_zero, List.set_cons_succ]
    have HZ6 : Hid (CellsAt wr6 w.heap.size [.slice none 0 0, .int .i64 0]) := Lib.hid (HZ.out.below hb6)
    clear hb6 HZ
    refine wpAnyH_take (i := 7) (v := ?_) rfl (by kernel_rfl) (by kernel_rfl) (by kernel_rfl) (fun _ _ _ h => h) (Or.inl ⟨by rfl, ?_⟩) (by assumption) ?_
    rotate_left
    · (intro w hSw; have hc0 := HL.out w hSw; go_simp; try (with_reducible rfl))
    try simp only [Act.put, List.getElem_toArray, List.getElem_cons_zero, List.getElem_cons_succ, List.setIfInBounds_toArray, List.set_cons_zero, List.set_cons_succ]
    refine wpAnyH_take (i := 8) (v := ?_) rfl (by kernel_rfl) (by kernel_rfl) (by kernel_rfl) (fun _ _ _ h => h) (Or.inl ⟨by rfl, ?_⟩) (by assumption) ?_
    rotate_left
    · (intro w hSw; go_simp; try (with_reducible rfl))
    try simp only [Act.put, List.getElem_toArray, List.getElem_cons_zero, List.getElem_cons_succ, List.setIfInBounds_toArray, List.set_cons_zero, List.set_cons_succ]
    refine wpAnyH_take (i := 9) (v := ?_) rfl (by kernel_rfl) (by kernel_rfl) (by kernel_rfl) (fun _ _ _ h => h) (Or.inl ⟨by rfl, ?_⟩) (by assumption) ?_
    rotate_left
    · (intro w hSw; go_simp; try (with_reducible rfl))
    try simp only [Act.put, List.getElem_toArray, List.getElem_cons_zero, List.getElem_cons_succ, List.setIfInBounds_toArray, List.set_cons_zero, List.set_cons_succ]
    refine wpAnyH_take (i := 10) (v := ?_) rfl (by kernel_rfl) (by kernel_rfl) (by kernel_rfl) (fun _ _ _ h => h) (Or.inl ⟨by rfl, ?_⟩) (by assumption) ?_
    rotate_left
    · (intro w hSw; go_simp; try (with_reducible rfl))
    try simp only [Act.put, List.getElem_toArray, List.getElem_cons_zero, List.getElem_cons_succ, List.setIfInBounds_toArray, List.set_cons_zero, List.set_cons_succ]
    refine wpAnyH_ready (rs := [12]) (by kernel_rfl) (by simp) ?_
    refine AllReadyH.one rfl rfl (fun K hK => ?_)
    refine wp_store_ent (e := ⟨es0, et, ea, en, ec, eu⟩) HZ6 rfl _ _ rfl rfl rfl (fun V HV HVC => ?_)
    have HSV : Hid (S V) := Lib.hid (by rw [HV.out]; exact HSI2.out _ _ _ hHeld HBG.out)
    go_wp2_with fail
    refine hK.out _ _ HSV.out (fun hHeld => ?_)
    clear hK K
    try simp only [Act.put]
    refine wpAnyH_take (i := 13) (v := ?_) rfl (by kernel_rfl) (by kernel_rfl) (by kernel_rfl) (fun _ _ _ h => h) (Or.inl ⟨by rfl, ?_⟩) (by assumption) ?_
    rotate_left
    · (intro w hSw; go_simp; try (with_reducible rfl))
    try simp only [Act.put, List.getElem_toArray, List.getElem_cons_zero, List.getElem_cons_succ, List.setIfInBounds_toArray, List.set_cons_zero, List.set_cons_succ]
    refine wpAnyH_done (by kernel_rfl) ?_ _
    refine NoPanic.normal ?_
    have h8 := HVC.out.cell 1 _ rfl
    go_wp2_with fail
    go_ret2
    exact ⟨rfl, HSB.out _ hHeld⟩
/-- What Get tells: nothing, or a row of one's own of the entry's addresses. -/
def GotL (E : Ce) (hb : Bool) (now : Int) (L : List Ad) (B : Nat) (e : Ending) (w' : World) : Prop :=
  ((hb = false ∨ E.u ≤ now) ∧ e = .returned (.tuple #[.slice none 0 0, .bool false])) ∨ (hb = true ∧ now < E.u ∧ ∃ v, e = .returned (.tuple #[v, .bool true]) ∧ RowA w' B v L)
set_option maxRecDepth 100000 in
set_option maxHeartbeats 2000000 in
theorem get_any (G b : Nat) (room : Int) (es : List Ce) (s : ByteArray) (t now : Int) (w : World) (h : CacAt w G b room es) (hs : s.size ≤ 2000000) (ht : (Lit.int .i64 t).wf = true) (L : List Ad) (hL : ∀ e, getE es (lowB s) t = some e → e.n = L.length ∧ AdsIn w e.a e.c L) (hl : L.length ≤ 1000) :
    Calls Try.prog 18 #[.pointer (some ⟨G, 0, none⟩), .string s, .int .i64 t, .int .i64 now] w fun e w' => GotL (theE es (lowB s) t) (getE es (lowB s) t).isSome now L w.heap.size e w' ∧ Below w.heap.size w w' := by
  obtain ⟨S, hS⟩ : ∃ S : World → Prop, (fun W => Below w.heap.size w W) = S := ⟨_, rfl⟩
  have HSB : Hid (∀ W, S W → Below w.heap.size w W) := Lib.hid (fun W hW => by rw [← hS] at hW; exact hW)
  have HSI : Hid (∀ W W', S W → Below W.heap.size W W' → S W') := Lib.hid (fun W W' hW hb => by rw [← hS] at hW ⊢; exact chain hW hb)
  have HSI2 : Hid (∀ W B vs, S W → w.heap.size ≤ B → S (W.setCells B 0 vs)) := Lib.hid (fun W B vs hW hb => by rw [← hS] at hW ⊢; exact below_cells hb _ _ _ hW)
  have HS0 : Hid (S w.drew) := Lib.hid (by rw [← hS]; exact (Below.refl _ _).drew)
  have HL : Hid (∀ W, S W → (Instr.lookup 66 (.map (some b)) (keyV (lowB s, t)) true).run Try.prog W = .ok (.tuple #[entV (theE es (lowB s) t), .bool (getE es (lowB s) t).isSome]) W) := Lib.hid (fun W hW => ((h.below (HSB.out W hW)).mp).look2 h.ok h.so.apart _ _ (show KeyOk (lowB s, t) from ⟨by rw [lowB_size]; exact hs, ht⟩))
  have HM1 : Hid (∀ W, S W → W.cell? ⟨G, 1, none⟩ = some (.map (some b))) := Lib.hid (fun W hW => (h.below (HSB.out W hW)).cs.cell 1 _ rfl)
  have HKO : Hid (∀ W, S W → Calls Try.prog 31 #[.string s, .int .i64 t] W fun e w' => e = .returned (keyV (lowB s, t)) ∧ S w' ∧ Below W.heap.size W w') := Lib.hid (fun W hW => (keyOf_any s t W hs).mono (by rintro e w' ⟨rfl, hb⟩; exact ⟨rfl, HSI.out W w' hW hb, hb⟩))
  have HTT : Hid ((getE es (lowB s) t).isSome = true → (theE es (lowB s) t).n = L.length ∧ AdsIn w (theE es (lowB s) t).a (theE es (lowB s) t).c L) := Lib.hid (fun hh => by
    obtain ⟨e, he⟩ := Option.isSome_iff_exists.1 hh
    have : theE es (lowB s) t = e := by unfold theE; rw [he]; rfl
    rw [this]
    exact hL e he)
  have HTRI : Hid (∀ e w', ((getE es (lowB s) t).isSome = false ∨ (theE es (lowB s) t).u ≤ now) → e = .returned (.tuple #[.slice none 0 0, .bool false]) → GotL (theE es (lowB s) t) (getE es (lowB s) t).isSome now L w.heap.size e w') := Lib.hid (fun e w' h1 h2 => .inl ⟨h1, h2⟩)
  have HTRJ : Hid (∀ v w', (getE es (lowB s) t).isSome = true → now < (theE es (lowB s) t).u → RowA w' w.heap.size v L → GotL (theE es (lowB s) t) (getE es (lowB s) t).isSome now L w.heap.size (.returned (.tuple #[v, .bool true])) w') := Lib.hid (fun v w' h1 h2 h3 => .inr ⟨h1, h2, v, rfl, h3⟩)
  obtain ⟨Q, hQ⟩ : ∃ Q, GotL (theE es (lowB s) t) (getE es (lowB s) t).isSome now L w.heap.size = Q := ⟨_, rfl⟩
  rw [hQ] at HTRI HTRJ ⊢
  clear h hS hL hQ
  have HOV := fun W => Lib.hid (over_any (theE es (lowB s) t) now W)
  generalize theE es (lowB s) t = E at *
  generalize (getE es (lowB s) t).isSome = hb at *
  generalize lowB s = x at *
  obtain ⟨es0, et, ea, en, ec, eu⟩ := E
  unfold entV keyV keyL at *
  go_enter Try.func18, Try.ntmps18
  go_upto_region 1 with fail
  refine wp_region_noPanic ?_
  refine wp_region_held_drew (S := S) (by kernel_rfl) HS0.out (fun hHeld => ?_)
  refine wpAnyH_take (i := 0) (v := ?_) rfl (by kernel_rfl) (by kernel_rfl) (by kernel_rfl) (fun _ _ _ h => h) (Or.inl ⟨by rfl, ?_⟩) (by assumption) ?_
  rotate_left
  · (intro w hSw; go_simp; try (with_reducible rfl))
  try simp only [Act.put, List.getElem_toArray, List.getElem_cons_zero, List.setIfInBounds_toArray, List.set_cons_zero, List.set_cons_succ]
  refine wpAnyH_take (i := 1) (v := ?_) rfl (by kernel_rfl) (by kernel_rfl) (by kernel_rfl) (fun _ _ _ h => h) (Or.inl ⟨by rfl, ?_⟩) (by assumption) ?_
  rotate_left
  · (intro w hSw; go_simp; try (with_reducible rfl))
  try simp only [Act.put, List.getElem_toArray, List.getElem_cons_zero, List.getElem_cons_succ, List.setIfInBounds_toArray, List.set_cons_zero, List.set_cons_succ]
  refine wpAnyH_take (i := 2) (v := ?_) rfl (by kernel_rfl) (by kernel_rfl) (by kernel_rfl) (fun _ _ _ h => h) (Or.inl ⟨by rfl, ?_⟩) (by assumption) ?_
  rotate_left
  · (intro w hSw; go_simp; try (with_reducible rfl))
  try simp only [Act.put, List.getElem_toArray, List.getElem_cons_zero, List.getElem_cons_succ, List.setIfInBounds_toArray, List.set_cons_zero, List.set_cons_succ]
  refine wpAnyH_take (i := 3) (v := ?_) rfl (by kernel_rfl) (by kernel_rfl) (by kernel_rfl) (fun _ _ _ h => h) (Or.inl ⟨by rfl, ?_⟩) (by assumption) ?_
  rotate_left
  · (intro w hSw; have hc0 := HM1.out w hSw; go_simp; try (with_reducible rfl))
  try simp only [Act.put, List.getElem_toArray, List.getElem_cons_zero, List.getElem_cons_succ, List.setIfInBounds_toArray, List.set_cons_zero, List.set_cons_succ]
  refine wpAnyH_take (i := 4) (v := ?_) rfl (by kernel_rfl) (by kernel_rfl) (by kernel_rfl) (fun _ _ _ h => h) (Or.inl ⟨by rfl, ?_⟩) (by assumption) ?_
  rotate_left
  · (intro w hSw; go_simp; try (with_reducible rfl))
  try simp only [Act.put, List.getElem_toArray, List.getElem_cons_zero, List.getElem_cons_succ, List.setIfInBounds_toArray, List.set_cons_zero, List.set_cons_succ]
  refine wpAnyH_take (i := 5) (v := ?_) rfl (by kernel_rfl) (by kernel_rfl) (by kernel_rfl) (fun _ _ _ h => h) (Or.inl ⟨by rfl, ?_⟩) (by assumption) ?_
  rotate_left
  · (intro w hSw; go_simp; try (with_reducible rfl))
  try simp only [Act.put, List.getElem_toArray, List.getElem_cons_zero, List.getElem_cons_succ, List.setIfInBounds_toArray, List.set_cons_zero, List.set_cons_succ]
  refine wpAnyH_ready (rs := [6, 11]) (by kernel_rfl) (by simp) ?_
  refine AllReadyH.cons rfl (fun K hK => ?_) (AllReadyH.cons rfl (fun K hK => ?_) AllReadyH.nil)
  · go_simp
    refine (HKO.out _ hHeld).mono ?_
    rintro e wr6 ⟨rfl, hS6, hb6⟩
    go_wp2_with fail
    refine hK.out _ _ hS6 (fun hHeld => ?_)
    clear hK K
    try simp only [Act.put, List.getElem_toArray, List.getElem_cons_zero, List.getElem_cons_succ, List.setIfInBounds_toArray, List.set_cons_zero, List.set_cons_succ]
    clear hb6
    refine wpAnyH_take (i := 7) (v := ?_) rfl (by kernel_rfl) (by kernel_rfl) (by kernel_rfl) (fun _ _ _ h => h) (Or.inl ⟨by rfl, ?_⟩) (by assumption) ?_
    rotate_left
    · (intro w hSw; have hc0 := HL.out w hSw; go_simp; try (with_reducible rfl))
    try simp only [Act.put, List.getElem_toArray, List.getElem_cons_zero, List.getElem_cons_succ, List.setIfInBounds_toArray, List.set_cons_zero, List.set_cons_succ]
    refine wpAnyH_take (i := 8) (v := ?_) rfl (by kernel_rfl) (by kernel_rfl) (by kernel_rfl) (fun _ _ _ h => h) (Or.inl ⟨by rfl, ?_⟩) (by assumption) ?_
    rotate_left
    · (intro w hSw; go_simp; try (with_reducible rfl))
    try simp only [Act.put, List.getElem_toArray, List.getElem_cons_zero, List.getElem_cons_succ, List.setIfInBounds_toArray, List.set_cons_zero, List.set_cons_succ]
    refine wpAnyH_take (i := 9) (v := ?_) rfl (by kernel_rfl) (by kernel_rfl) (by kernel_rfl) (fun _ _ _ h => h) (Or.inl ⟨by rfl, ?_⟩) (by assumption) ?_
    rotate_left
    · (intro w hSw; go_simp; try (with_reducible rfl))
    try simp only [Act.put, List.getElem_toArray, List.getElem_cons_zero, List.getElem_cons_succ, List.setIfInBounds_toArray, List.set_cons_zero, List.set_cons_succ]
    refine wpAnyH_take (i := 10) (v := ?_) rfl (by kernel_rfl) (by kernel_rfl) (by kernel_rfl) (fun _ _ _ h => h) (Or.inl ⟨by rfl, ?_⟩) (by assumption) ?_
    rotate_left
    · (intro w hSw; go_simp; try (with_reducible rfl))
    try simp only [Act.put, List.getElem_toArray, List.getElem_cons_zero, List.getElem_cons_succ, List.setIfInBounds_toArray, List.set_cons_zero, List.set_cons_succ]
    refine wpAnyH_ready (rs := [11]) (by kernel_rfl) (by simp) ?_
    refine AllReadyH.cons rfl (fun K hK => ?_) AllReadyH.nil
    go_simp
    go_wp2_with fail
    have HZ := Lib.hid (CellsAt.new (wr6) 78 [.slice none 0 0, .int .i64 0])
    have HSW : Hid (S ((wr6).alloc (.cells #[.slice none 0 0, .int .i64 0] 78))) := Lib.hid (HSI.out _ _ hHeld ((Below.refl _ _).alloc (Nat.le_refl _) _))
    have HBG : Hid (w.heap.size ≤ (wr6).heap.size) := Lib.hid (HSB.out _ hHeld).size
    refine hK.out _ _ HSW.out (fun hHeld => ?_)
    clear hK K HSW
    try simp only [Act.put, List.getElem_toArray, List.getElem_cons_zero, List.getElem_cons_succ, List.setIfInBounds_toArray, List.set_cons_zero, List.set_cons_succ]
    generalize wr6.alloc (.cells #[.slice none 0 0, .int .i64 0] 78) = W1 at *
    generalize wr6.heap.size = B at *
    refine wpAnyH_ready (rs := [12]) (by kernel_rfl) (by simp) ?_
    refine AllReadyH.one rfl rfl (fun K hK => ?_)
    refine wp_store_ent (e := ⟨es0, et, ea, en, ec, eu⟩) HZ rfl _ _ rfl rfl rfl (fun V HV HVC => ?_)
    have HSV : Hid (S V) := Lib.hid (by rw [HV.out]; exact HSI2.out _ _ _ hHeld HBG.out)
    go_wp2_with fail
    refine hK.out _ _ HSV.out (fun hHeld => ?_)
    clear hK K
    try simp only [Act.put]
    refine wpAnyH_take (i := 13) (v := ?_) rfl (by kernel_rfl) (by kernel_rfl) (by kernel_rfl) (fun _ _ _ h => h) (Or.inl ⟨by rfl, ?_⟩) (by assumption) ?_
    rotate_left
    · (intro w hSw; go_simp; try (with_reducible rfl))
    try simp only [Act.put, List.getElem_toArray, List.getElem_cons_zero, List.getElem_cons_succ, List.setIfInBounds_toArray, List.set_cons_zero, List.set_cons_succ]
    refine wpAnyH_done (by kernel_rfl) ?_ _
    refine NoPanic.normal ?_
    cases hb with
    | false =>
      go_wp2_with fail
      go_ret2
      exact ⟨HTRI.out _ _ (.inl (by simp)) rfl, HSB.out _ hHeld⟩
    | true =>
      obtain ⟨rfl, had⟩ := HTT.out rfl
      go_wp2_with (first | refine load_ent (e := ⟨es0, et, ea, L.length, ec, eu⟩) HVC _ rfl rfl rfl ?_)
      refine (HOV _).out.mono ?_
      rintro e w7 ⟨rfl, hb7⟩
      have HB7 := Lib.hid (HSI.out _ _ hHeld hb7)
      have HV7 := Lib.hid (HVC.out.below hb7)
      clear hb7
      by_cases hu : eu ≤ now
      · have hd : decide (eu ≤ now) = true := decide_eq_true hu
        go_wp2_with fail
        go_ret2
        exact ⟨HTRI.out _ _ (.inr hu) rfl, HSB.out _ HB7.out⟩
      · have hd : decide (eu ≤ now) = false := decide_eq_false hu
        have h7 := HV7.out.cell 0 _ rfl
        have HCL := Lib.hid (cloneA_any ea ec L w7 (had.below (HSB.out _ HB7.out)) hl)
        clear had
        go_wp2_with fail
        refine HCL.out.mono ?_
        rintro e w8 ⟨v, rfl, hr8, hb8⟩
        obtain ⟨a8, c8, rfl, _⟩ := hr8.ads
        have HR8 := Lib.hid (hr8.mono (HSB.out _ HB7.out).size)
        have HB8 := Lib.hid (chain (HSB.out _ HB7.out) hb8)
        clear hr8 hb8 HCL
        go_wp2_with fail
        go_ret2
        exact ⟨HTRJ.out _ _ (by simp) (by omega) HR8.out, HB8.out⟩
  · go_simp
    go_wp2_with fail
    have HZ := Lib.hid (CellsAt.new (w.drew) 78 [.slice none 0 0, .int .i64 0])
    have HSW : Hid (S ((w.drew).alloc (.cells #[.slice none 0 0, .int .i64 0] 78))) := Lib.hid (HSI.out _ _ hHeld ((Below.refl _ _).alloc (Nat.le_refl _) _))
    have HBG : Hid (w.heap.size ≤ (w.drew).heap.size) := Lib.hid (HSB.out _ hHeld).size
    refine hK.out _ _ HSW.out (fun hHeld => ?_)
    clear hK K HSW
    try simp only [Act.put, List.getElem_toArray, List.getElem_cons_zero, List.getElem_cons_succ, List.setIfInBounds_toArray, List.set_cons_zero, List.set_cons_succ]
    refine wpAnyH_ready (rs := [6]) (by kernel_rfl) (by simp) ?_
    refine AllReadyH.cons rfl (fun K hK => ?_) AllReadyH.nil
    go_simp
    refine (HKO.out _ hHeld).mono ?_
    rintro e wr6 ⟨rfl, hS6, hb6⟩
    go_wp2_with fail
    refine hK.out _ _ hS6 (fun hHeld => ?_)
    clear hK K
    try simp only [Act.put, List.getElem_toArray, List.getElem_cons_zero, List.getElem_cons_succ, List.setIfInBounds_toArray, List.set_cons_zero, List.set_cons_succ]
    have HZ6 : Hid (CellsAt wr6 w.heap.size [.slice none 0 0, .int .i64 0]) := Lib.hid (HZ.out.below hb6)
    clear hb6 HZ
    refine wpAnyH_take (i := 7) (v := ?_) rfl (by kernel_rfl) (by kernel_rfl) (by kernel_rfl) (fun _ _ _ h => h) (Or.inl ⟨by rfl, ?_⟩) (by assumption) ?_
    rotate_left
    · (intro w hSw; have hc0 := HL.out w hSw; go_simp; try (with_reducible rfl))
    try simp only [Act.put, List.getElem_toArray, List.getElem_cons_zero, List.getElem_cons_succ, List.setIfInBounds_toArray, List.set_cons_zero, List.set_cons_succ]
    refine wpAnyH_take (i := 8) (v := ?_) rfl (by kernel_rfl) (by kernel_rfl) (by kernel_rfl) (fun _ _ _ h => h) (Or.inl ⟨by rfl, ?_⟩) (by assumption) ?_
    rotate_left
    · (intro w hSw; go_simp; try (with_reducible rfl))
    try simp only [Act.put, List.getElem_toArray, List.getElem_cons_zero, List.getElem_cons_succ, List.setIfInBounds_toArray, List.set_cons_zero, List.set_cons_succ]
    refine wpAnyH_take (i := 9) (v := ?_) rfl (by kernel_rfl) (by kernel_rfl) (by kernel_rfl) (fun _ _ _ h => h) (Or.inl ⟨by rfl, ?_⟩) (by assumption) ?_
    rotate_left
    · (intro w hSw; go_simp; try (with_reducible rfl))
    try simp only [Act.put, List.getElem_toArray, List.getElem_cons_zero, List.getElem_cons_succ, List.setIfInBounds_toArray, List.set_cons_zero, List.set_cons_succ]
    refine wpAnyH_take (i := 10) (v := ?_) rfl (by kernel_rfl) (by kernel_rfl) (by kernel_rfl) (fun _ _ _ h => h) (Or.inl ⟨by rfl, ?_⟩) (by assumption) ?_
    rotate_left
    · (intro w hSw; go_simp; try (with_reducible rfl))
    try simp only [Act.put, List.getElem_toArray, List.getElem_cons_zero, List.getElem_cons_succ, List.setIfInBounds_toArray, List.set_cons_zero, List.set_cons_succ]
    refine wpAnyH_ready (rs := [12]) (by kernel_rfl) (by simp) ?_
    refine AllReadyH.one rfl rfl (fun K hK => ?_)
    refine wp_store_ent (e := ⟨es0, et, ea, en, ec, eu⟩) HZ6 rfl _ _ rfl rfl rfl (fun V HV HVC => ?_)
    have HSV : Hid (S V) := Lib.hid (by rw [HV.out]; exact HSI2.out _ _ _ hHeld HBG.out)
    go_wp2_with fail
    refine hK.out _ _ HSV.out (fun hHeld => ?_)
    clear hK K
    try simp only [Act.put]
    refine wpAnyH_take (i := 13) (v := ?_) rfl (by kernel_rfl) (by kernel_rfl) (by kernel_rfl) (fun _ _ _ h => h) (Or.inl ⟨by rfl, ?_⟩) (by assumption) ?_
    rotate_left
    · (intro w hSw; go_simp; try (with_reducible rfl))
    try simp only [Act.put, List.getElem_toArray, List.getElem_cons_zero, List.getElem_cons_succ, List.setIfInBounds_toArray, List.set_cons_zero, List.set_cons_succ]
    refine wpAnyH_done (by kernel_rfl) ?_ _
    refine NoPanic.normal ?_
    cases hb with
    | false =>
      go_wp2_with fail
      go_ret2
      exact ⟨HTRI.out _ _ (.inl (by simp)) rfl, HSB.out _ hHeld⟩
    | true =>
      obtain ⟨rfl, had⟩ := HTT.out rfl
      go_wp2_with (first | refine load_ent (e := ⟨es0, et, ea, L.length, ec, eu⟩) HVC _ rfl rfl rfl ?_)
      refine (HOV _).out.mono ?_
      rintro e w7 ⟨rfl, hb7⟩
      have HB7 := Lib.hid (HSI.out _ _ hHeld hb7)
      have HV7 := Lib.hid (HVC.out.below hb7)
      clear hb7
      by_cases hu : eu ≤ now
      · have hd : decide (eu ≤ now) = true := decide_eq_true hu
        go_wp2_with fail
        go_ret2
        exact ⟨HTRI.out _ _ (.inr hu) rfl, HSB.out _ HB7.out⟩
      · have hd : decide (eu ≤ now) = false := decide_eq_false hu
        have h7 := HV7.out.cell 0 _ rfl
        have HCL := Lib.hid (cloneA_any ea ec L w7 (had.below (HSB.out _ HB7.out)) hl)
        clear had
        go_wp2_with fail
        refine HCL.out.mono ?_
        rintro e w8 ⟨v, rfl, hr8, hb8⟩
        obtain ⟨a8, c8, rfl, _⟩ := hr8.ads
        have HR8 := Lib.hid (hr8.mono (HSB.out _ HB7.out).size)
        have HB8 := Lib.hid (chain (HSB.out _ HB7.out) hb8)
        clear hr8 hb8 HCL
        go_wp2_with fail
        go_ret2
        exact ⟨HTRJ.out _ _ (by simp) (by omega) HR8.out, HB8.out⟩
end Go.Proofs.Ytjmmedpkcedngaa
/- Contract of Cache.Sweep: all that are over are taken out, while the map is ranged over. -/
namespace Go.Proofs.Ytjmmedpkcedngaa
open Go.RowKit Go.Maps
set_option linter.unusedVariables false
set_option maxRecDepth 20000

def uOf (v : Value) : Int := match v with
  | .agg cs => (match cs[1]? with
    | some (Value.int _ u) => u
    | _ => 0)
  | _ => 0
def pdC (now : Int) (kl : Lit) (d : DataW Value) : Bool := match d with
  | .held v => decide (uOf v ≤ now)
  | _ => false
theorem pdC_ent (now : Int) (e : Ce) (kl : Lit) : pdC now kl (.held (entV e)) = decide (e.u ≤ now) := rfl
theorem sweep_tells {l : List (Lit × DataW Value)} {es : List Ce} (hl : l.Perm (es.map entD)) (now : Int) : TellsC (Lib.deleteFuncD (pdC now) (.map l)) (sweepC es now) := by
  refine ⟨_, rfl, (hl.filter _).trans ?_⟩
  rw [List.filter_map]
  unfold sweepC
  refine List.Perm.of_eq ?_
  congr 1
  refine List.filter_congr (fun e he => ?_)
  show (!pdC now (entD e).1 (entD e).2) = _
  rw [show (entD e).2 = .held (entV e) from rfl, pdC_ent]
  by_cases h : e.u ≤ now
  · have h2 : ¬ now < e.u := by omega
    simp [h, h2]
  · have h2 : now < e.u := by omega
    simp [h, h2]
/-- The entry that comes is one of the cache's. -/
theorem ent_of_at {l l' : List (Lit × DataW Value)} {es : List Ce} (hl : l.Perm (es.map entD)) (hk : KeysOk es) (ha : KeysApart es) (hs : l'.Sublist l) {key v : Value} {kl : Lit} {y : DataW Value} {ps : List MemPlace} (hkey : keyOf Try.prog 39 key = some kl) (hv : elemV v = some (y, ps)) (hat : ∀ zd, (DataW.map l').atKey kl zd = y) :
    ∃ e ∈ es, kl = keyLit (keyC e) ∧ key = keyV (keyC e) ∧ v = entV e ∧ y = .held (entV e) := by
  have hh := Maps.has_true_of_atKey hat
  rw [has_eq, List.any_eq_true] at hh
  obtain ⟨p, hp, hsk⟩ := hh
  obtain ⟨e, he, rfl⟩ := List.mem_map.1 (hl.mem_iff.1 (hs.mem hp))
  have e1 : keyLit (keyC e) = kl := WideAt.sameKey_eq hsk
  subst e1
  have hap : l'.Pairwise (fun p q => p.1 ≠ q.1) := ((hl.pairwise_iff (fun {_ _} hne => Ne.symm hne)).2 (entD_apart hk ha)).sublist hs
  have h2 := WideAt.atKey_mem .nil (isKeyLit (keyC e)) hap hp
  have h3 : y = .held (entV e) := (hat .nil).symm.trans h2
  have h4 := elemV_inv hv
  rw [h3] at h4
  injection h4 with h4
  exact ⟨e, he, rfl, lawK.inj hkey (keyOf_key _ (hk e he)), h4.symm, h3⟩
theorem yields_key {ops : Array Oper} {S : World → Prop} {op : Oper} {a : Act} {G o : Nat} {p : ByteArray × Int} (hS : Hid (∀ w, S w → w.rangeAt G o (keyL p))) (hw : Region.wanted op (yielded ops a.tmps) = true) (x : Operand) (ho : op.op = .load 39 x) (hx : a.eval x = .pointer (some ⟨G, o, none⟩)) : YieldsIf Try.prog ops S op (keyV p) a :=
  yieldsIf_load_mid hw 39 x ho G o hx (keyL p) _ (fun w h => hS.out w h) Try.underlying39 rfl (by rw [key_size]; rfl)
theorem grown_of_below {w w' : World} (h : Below w.heap.size w w') : w.grownBy w' none := ⟨h.os, h.tape, h.output, h.size, fun k hk _ => h.block k hk⟩
theorem grown_undrew {w w' : World} {r : Option Nat} (h : w.drew.grownBy w' r) : w.grownBy w' r := ⟨h.os, h.tape, h.output, h.size, h.block⟩
theorem wp_delete_ranges {o : Oper} {a : Act} {w : World} {K : Act → World → Prop} {Q : Exit → Act → World → Prop} (m x : Operand) (hop : o.op = Op.call { callee := Callee.builtin Builtin.delete, args := #[m, x], argTypes := #[66, 39] })
    {b r n : Nat} {D : DataW Value} {left : Lit → Bool} {cnt : Nat} (hm : a.eval m = .map (some b)) (h : w.ranges Try.prog 39 elemV b r n D left cnt) {key : Value} {kl : Lit} (hx : a.eval x = key) (hkey : keyOf Try.prog 39 key = some kl)
    (hK : ∀ w' cnt', w'.ranges Try.prog 39 elemV b r n (D.del kl) (fun z => left z && !z.sameKey kl) cnt' → cnt' ≤ cnt → w.mapTurned w' b → K (a.put o.dst (.tuple #[])) w') : o.wp Try.prog a w K Q := by
  obtain ⟨w', cnt', hrun, r1, r2, r3⟩ := h.drop lawK Try.underlying66 hkey o.type
  unfold Oper.wp
  simp [execOp, hop, resolve, invoke, builtin, hm, hx, hrun, Result.andThen]
  exact hK w' cnt' r1 r2 r3
set_option maxRecDepth 100000 in
set_option maxHeartbeats 2000000 in
theorem sweep_any (G b : Nat) (room : Int) (es : List Ce) (now : Int) (w : World) (h : CacAt w G b room es) :
    Calls Try.prog 24 #[.pointer (some ⟨G, 0, none⟩), .int .i64 now] w fun e w' => e = .returned (.int .i64 ((es.length - (sweepC es now).length : Nat) : Int)) ∧ CacAt w' G b room (sweepC es now) ∧ w.grownBy w' (some b) := by
  have h64 := h.len
  have h1 := h.cs.cell 1 _ rfl
  have HG1 : Hid (∀ W, w.grownBy W (some b) → W.cell? ⟨G, 1, none⟩ = some (.map (some b))) := Lib.hid (fun W hg => (World.cell?_of_block (w := w) (a := ⟨G, 1, none⟩) (hg.block G h.lt.1 (fun e => h.ne (by injection e)))).trans h1)
  have HLEN := Lib.hid (len_any G b room es w h)
  have HFIN : Hid (∀ W n l, w.grownBy W (some b) → W.ownsMap Try.prog 39 elemV b n (Lib.deleteFuncD (pdC now) (.map l)) → n ≤ 1000000 → l.Perm (es.map entD) → CacAt W G b room (sweepC es now)) := Lib.hid (fun W n l hg ho hn hl =>
    ⟨h.cs.kept hg.size (hg.block G h.lt.1 (fun e => h.ne (by injection e))), ⟨n, _, ho, hn, sweep_tells hl now⟩, sweepC_sorted h.so now, (fun e he => h.ok e (List.mem_filter.1 he).1), by have := sweepC_len es now; have := h.le; omega, h.r1, h.r2⟩)
  obtain ⟨D, hown, l, rfl, hl⟩ := h.mp.owns
  have HL := Lib.hid hl
  have HK := Lib.hid h.ok
  have HA := Lib.hid h.so.apart
  have HLT := Lib.hid h.lt
  obtain ⟨l0, hl0, hap, hkeys⟩ := hown.entries lawK
  obtain rfl : l = l0 := by injection hl0
  have HAP := Lib.hid hap
  have HKEYS := Lib.hid hkeys
  have hle := sweepC_len es now
  obtain ⟨n, hn⟩ : ∃ n, es.length = n := ⟨_, rfl⟩
  have HSL := Lib.hid (show ∀ W, CacAt W G b room (sweepC es now) → Calls Try.prog 13 #[.pointer (some ⟨G, 0, none⟩)] W fun e w' => e = .returned (.int .i64 ((sweepC es now).length : Int)) ∧ w' = W from fun W hc => len_any G b room _ W hc)
  obtain ⟨m, hm⟩ : ∃ m, (sweepC es now).length = m := ⟨_, rfl⟩
  rw [hm] at hle HSL ⊢
  rw [hn] at hle hown HLEN ⊢ h64
  clear h hl hap hkeys hl0 hm hn
  go_enter Try.func24, Try.ntmps24
  go_wp2_with fail
  refine HLEN.out.mono ?_
  rintro e w0 ⟨rfl, rfl⟩
  clear HLEN
  go_wp2_with (first
    | (at_range; refine wpList_range_own _ rfl _ 66 rfl 39 78 lawK Try.underlying66 _ b n _ rfl hown ?_; intro w1 hrg1 hg1 hs1))
  go_frame
  have HG0 := Lib.hid (hg1.but (some b))
  have HRG : Hid (w1.ranges Try.prog 39 elemV b w0.heap.size n (Fk (pdC now) l (Maps.has (.map l))) (Maps.has (.map l)) (Maps.size (.map l))) := Lib.hid (by rw [Fk_start HKEYS.out]; exact hrg1)
  clear hrg1 hg1 hs1 hown h1
  go_loopw [6, 7, 15] (fun _ _ _ wr => ∃ (left : Lit → Bool) (cnt : Nat), Hid (wr.ranges Try.prog 39 elemV b w0.heap.size n (Fk (pdC now) l left) left cnt) ∧ Hid (w0.grownBy wr (some b))) (fun _ _ _ wr => wr.rangeLeft b w0.heap.size)
  case atStart => exact ⟨_, _, HRG, HG0⟩
  case round =>
    clear HRG HG0
    obtain ⟨left, cnt, HR, HG⟩ := hrel
    have hrg := HR.out
    go_wp2_with (first
      | (at_next; refine wpList_next_ranges _ rfl _ rfl 39 lawK elemV id id (fun key _ _ => ⟨key, rfl⟩) (fun v _ _ => ⟨v, rfl⟩) b w0.heap.size n _ _ _ rfl hrg ?_ ?_))
    · intro hc0 hl0
      have HC : Hid (CacAt wr G b room (sweepC es now)) := Lib.hid (HFIN.out wr n l HG.out (by rw [← Fk_end hl0]; exact hrg.owns) (by omega) HL.out)
      have HSL2 := Lib.hid (HSL.out wr HC.out)
      clear hl0 hc0 hrg HR HSL
      go_wp2_with fail
      refine HSL2.out.mono ?_
      rintro e w5 ⟨rfl, rfl⟩
      clear HSL2
      have hw : IntKind.i64.wrap ((n : Int) - (m : Int)) = ((n - m : Nat) : Int) := by rw [IntKind.wrap_i64]; omega
      go_wp2_with fail
      go_ret
      exact ⟨by first | rfl | (rw [← hw]; rfl), HC.out, HG.out⟩
    · intro key v kl y yp w2 cnt2 hkey hlk hv hat hrg2 hlt hg2 hs2 hen
      obtain ⟨e, he, rfl, hke, hve, rfl⟩ := ent_of_at HL.out HK.out HA.out (List.filter_sublist) hkey hv hat
      have HLT2 : Hid (cnt2 < cnt) := Lib.hid hlt
      have HLE := Lib.hid hrg.left_eq
      have HKE := Lib.hid hkey
      have HDEL : Hid (e.u ≤ now → (Fk (pdC now) l left).del (keyLit (keyC e)) = Fk (pdC now) l (fun z => left z && !z.sameKey (keyLit (keyC e)))) := Lib.hid (fun hu => Fk_struck HAP.out (isKeyLit _) hlk (by rw [pdC_ent]; exact decide_eq_true hu) hat)
      have HSTY : Hid (¬ e.u ≤ now → Fk (pdC now) l left = Fk (pdC now) l (fun z => left z && !z.sameKey (keyLit (keyC e)))) := Lib.hid (fun hu => Fk_stays HAP.out (isKeyLit _) hlk (by rw [pdC_ent]; exact decide_eq_false hu) hat)
      have HR2 := Lib.hid hrg2
      have HG2 := Lib.hid (HG.out.andThen hg2 (fun j hj => by cases hj; exact .inl (Nat.le_refl _)))
      clear hrg hrg2 hkey hlk hv hat hlt hg2 hs2 HR HG
      obtain ⟨s, t, ea, en, ec, u⟩ := e
      have hke2 : key = .agg #[.string s, .int .i64 t] := hke
      have hve2 : v = .agg #[.slice ea en ec, .int .i64 u] := hve
      subst hke2
      subst hve2
      clear hke hve he
      rw [show keyC ⟨s, t, ea, en, ec, u⟩ = (s, t) from rfl] at *
      have HOV := fun W => Lib.hid (over_any ⟨s, t, ea, en, ec, u⟩ now W)
      unfold entV at HOV
      obtain ⟨W3, hW3⟩ : ∃ W3, (w2.alloc (.cells #[.string s, .int .i64 t] 39)).alloc (.cells #[.slice ea en ec, .int .i64 u] 78) = W3 := ⟨_, rfl⟩
      have HR3 := Lib.hid (show W3.ranges Try.prog 39 elemV b w0.heap.size n _ _ cnt2 from by rw [← hW3]; exact (HR2.out.alloc _).alloc _)
      have HG3 := Lib.hid (show w0.grownBy W3 (some b) from by rw [← hW3]; exact (HG2.out.andThen (World.grownBy_alloc _ _ (some b)) (fun j hj => by cases hj; exact .inr rfl)).andThen (World.grownBy_alloc _ _ (some b)) (fun j hj => by cases hj; exact .inr rfl))
      have HKB := Lib.hid (show W3.rangeAt w2.heap.size 0 (keyL (s, t)) ∧ w2.heap.size < W3.heap.size from by
        rw [← hW3]
        exact ⟨range_belowC (CellsAt.new w2 39 (keyL (s, t))).range ((Below.refl _ _).alloc (Nat.le_refl _) _) (by simp), by simp; omega⟩)
      have hE : CellsAt W3 (w2.heap.size + 1) [.slice ea en ec, .int .i64 u] := by
        have := CellsAt.new (w2.alloc (.cells #[.string s, .int .i64 t] 39)) 78 [.slice ea en ec, .int .i64 u]
        rw [← hW3]; simpa using this
      have hE0 := hE.cell 0 _ rfl
      have hE1 := hE.cell 1 _ rfl
      clear HR2 HG2 hE
      go_upto_region 5 with fail
      first | rw [hW3] | skip
      clear hen
      go_wp2_with fail
      first | rw [hW3] | skip
      clear hW3
      refine (HOV _).out.mono ?_
      rintro e w4 ⟨rfl, hb4⟩
      have HR4 := Lib.hid (HR3.out.kept (row := none) (grown_of_below hb4) (by simp) (by simp))
      have HG4 := Lib.hid (HG3.out.andThen (grown_of_below hb4) (fun j hj => by cases hj))
      have HK4 := Lib.hid (range_belowC HKB.out.1 hb4 HKB.out.2)
      have HKL4 := Lib.hid (Nat.lt_of_lt_of_le HKB.out.2 hb4.size)
      clear hb4 HR3 HG3 HKB HOV
      by_cases hu : u ≤ now
      · have hd : decide (u ≤ now) = true := decide_eq_true hu
        have HD := Lib.hid (HDEL.out hu)
        clear HDEL HSTY
        obtain ⟨S, hS⟩ : ∃ S : World → Prop, (fun W => W.cell? ⟨G, 1, none⟩ = some (.map (some b)) ∧ W.rangeAt w2.heap.size 0 (keyL (s, t))) = S := ⟨_, rfl⟩
        have HS0 : Hid (S w4.drew) := Lib.hid (by rw [← hS]; exact ⟨HG1.out w4 HG4.out, HK4.out⟩)
        have HS1 : Hid (∀ W, w4.drew.mapTurned W b → S W) := Lib.hid (fun W ht => by
          rw [← hS]
          have hg : w4.grownBy W (some b) := grown_undrew ht.grown
          refine ⟨HG1.out W (HG4.out.andThen hg (fun j hj => .inr hj)), range_farC HK4.out hg HKL4.out (fun e => ?_)⟩
          injection e with e
          obtain ⟨e0, cl, hb⟩ := (show ∃ e0 cl, w4.heap[b]? = some (.map e0 cl) from by obtain ⟨e0, cl, _, _, hb, _⟩ := ht; exact ⟨e0, cl, hb⟩)
          have := HK4.out 0 _ rfl
          rw [e] at this
          simp [World.cell?, hb] at this)
        have M1 : Hid (∀ W, S W → W.cell? ⟨G, 1, none⟩ = some (.map (some b))) := Lib.hid (fun W h => by rw [← hS] at h; exact h.1)
        have M2 : Hid (∀ W, S W → W.rangeAt w2.heap.size 0 (keyL (s, t))) := Lib.hid (fun W h => by rw [← hS] at h; exact h.2)
        have HR4D := Lib.hid (HR4.out.kept (w' := w4.drew) (row := none) ⟨rfl, rfl, rfl, Nat.le_refl _, fun _ _ _ => rfl⟩ (by simp) (by simp))
        clear hS
        go_upto_region 6 with fail
        refine wp_region_noPanic ?_
        refine wp_region_held_drew (S := S) (by kernel_rfl) HS0.out (fun hHeld => ?_)
        refine wpAnyH_take (i := 0) (v := ?_) rfl (by kernel_rfl) (by kernel_rfl) (by kernel_rfl) (fun _ _ _ h => h) (Or.inl ⟨by rfl, ?_⟩) (by assumption) ?_
        rotate_left
        · (intro w hSw; go_simp; try (with_reducible rfl))
        try simp only [Act.put, List.getElem_toArray, List.getElem_cons_zero, List.setIfInBounds_toArray, List.set_cons_zero, List.set_cons_succ]
        refine wpAnyH_take (i := 1) (v := ?_) rfl (by kernel_rfl) (by kernel_rfl) (by kernel_rfl) (fun _ _ _ h => h) (Or.inl ⟨by rfl, ?_⟩) (by assumption) ?_
        rotate_left
        · (intro w hSw; go_simp; try (with_reducible rfl))
        try simp only [Act.put, List.getElem_toArray, List.getElem_cons_zero, List.getElem_cons_succ, List.setIfInBounds_toArray, List.set_cons_zero, List.set_cons_succ]
        refine wpAnyH_take (i := 2) (v := ?_) rfl (by kernel_rfl) (by kernel_rfl) (by kernel_rfl) (fun _ _ _ h => h) (Or.inl ⟨by rfl, ?_⟩) (by assumption) ?_
        rotate_left
        · (intro w hSw; go_simp; try (with_reducible rfl))
        try simp only [Act.put, List.getElem_toArray, List.getElem_cons_zero, List.getElem_cons_succ, List.setIfInBounds_toArray, List.set_cons_zero, List.set_cons_succ]
        refine wpAnyH_take (i := 3) (v := ?_) rfl (by kernel_rfl) (by kernel_rfl) (by kernel_rfl) (fun _ _ _ h => h) (Or.inl ⟨by rfl, ?_⟩) (by assumption) ?_
        rotate_left
        · (intro w hSw; have hc0 := M1.out w hSw; go_simp; try (with_reducible rfl))
        try simp only [Act.put, List.getElem_toArray, List.getElem_cons_zero, List.getElem_cons_succ, List.setIfInBounds_toArray, List.set_cons_zero, List.set_cons_succ]
        refine wpAnyH_take (i := 4) rfl (by kernel_rfl) (by kernel_rfl) (by kernel_rfl) (fun _ _ _ h => h) (yields_key M2 (by rfl) _ rfl rfl) (by assumption) ?_
        try simp only [Act.put, List.getElem_toArray, List.getElem_cons_zero, List.getElem_cons_succ, List.setIfInBounds_toArray, List.set_cons_zero, List.set_cons_succ]
        refine wpAnyH_ready (rs := [5]) (by kernel_rfl) (by simp) ?_
        refine AllReadyH.one rfl rfl (fun K hK => ?_)
        refine wp_delete_ranges (w := w4.drew) _ _ rfl rfl HR4D.out rfl HKE.out (fun w5 cnt3 hr5 hle5 ht5 => ?_)
        rw [strike_twice, HD.out] at hr5
        have HR5 := Lib.hid hr5
        have HLE5 := Lib.hid hle5
        have HG5 := Lib.hid (HG4.out.andThen (grown_undrew ht5.grown) (fun j hj => .inr hj))
        refine hK.out _ _ (HS1.out _ ht5) (fun hHeld => ?_)
        clear hK K hr5 hle5 ht5
        try simp only [Act.put]
        refine wpAnyH_done (by kernel_rfl) ?_ _
        refine NoPanic.normal ?_
        go_wp2_with fail
        go_roundw
        case rel => exact ⟨_, cnt3, HR5, HG5⟩
        case measure => rw [HR5.out.left_eq, HLE.out]; have := HLE5.out; have := HLT2.out; omega
      · have hd : decide (u ≤ now) = false := decide_eq_false hu
        have hst := HSTY.out (by omega)
        have HR5 := HR4.out
        rw [hst] at HR5
        have HR6 := Lib.hid HR5
        clear HDEL HSTY hst HR5
        go_wp2_with fail
        go_roundw
        case rel => exact ⟨_, cnt2, HR6, HG4⟩
        case measure => rw [HR6.out.left_eq, HLE.out]; exact HLT2.out
end Go.Proofs.Ytjmmedpkcedngaa
/- Contracts of the cache's least: the closure that compares two keys' untils, slices.MinFunc over the row of keys, Cache.soonest. -/
namespace Go.Proofs.Ytjmmedpkcedngaa
open Go.RowKit Go.Maps
set_option linter.unusedVariables false
set_option maxRecDepth 20000

theorem CacMap.look1 {w : World} {b : Nat} {es : List Ce} (h : CacMap w b es) (hk : KeysOk es) (ha : KeysApart es) (x : ByteArray) (t : Int) (hp : KeyOk (x, t)) :
    (Instr.lookup 66 (.map (some b)) (keyV (x, t)) false).run Try.prog w = .ok (entV (theE es x t)) w := by
  obtain ⟨n, D, ho, hn, l, rfl, hl⟩ := h
  have hz : (zeroValue 78).run Try.prog w = .ok zeroE w := by kernel_rfl
  obtain ⟨v, ps, hr, hv⟩ := ho.lookup lawK Try.underlying66 hz (show elemV zeroE = some (.held zeroE, []) from rfl) (keyOf_key _ hp)
  have hv2 := elemV_inv hv
  rw [hr]
  unfold theE
  cases hg : getE es x t with
  | none =>
    have hno : Maps.has (DataW.map l) (keyLit (x, t)) = false := by
      rw [has_eq, List.any_eq_false]
      intro p hp2
      obtain ⟨e, he, rfl⟩ := List.mem_map.1 (hl.mem_iff.1 hp2)
      show ¬ (keyLit (keyC e)).sameKey (keyLit (x, t)) = true
      rw [same_lit (hk e he) hp]
      simpa using getE_none hg e he
    rw [Maps.atKey_of_not_has hno] at hv2
    injection hv2 with hv2
    rw [← hv2]; rfl
  | some e =>
    obtain ⟨he, hke⟩ := getE_some hg
    have hm : (keyLit (x, t), DataW.held (entV e)) ∈ l := hl.mem_iff.2 (by rw [← hke]; exact List.mem_map.2 ⟨e, he, rfl⟩)
    have hap : l.Pairwise (fun p q => p.1 ≠ q.1) := (hl.pairwise_iff (fun {_ _} hne => Ne.symm hne)).2 (entD_apart hk ha)
    rw [WideAt.atKey_mem _ (isKeyLit (x, t)) hap hm] at hv2
    injection hv2 with hv2
    rw [← hv2]; rfl
theorem getE_at {es : List Ce} (ha : KeysApart es) (j : Nat) (hj : j < es.length) : getE es es[j].s es[j].t = some es[j] := by
  unfold getE
  rw [findC_at es[j].s es[j].t es j hj ⟨rfl, rfl⟩ (fun i hi hij h => by
    have := List.pairwise_iff_getElem.1 ha i j hi hj hij
    exact this (Prod.ext h.1 h.2))]
  simp only [List.getElem?_eq_getElem hj]
theorem theE_at {es : List Ce} (ha : KeysApart es) (j : Nat) (hj : j < es.length) : theE es es[j].s es[j].t = es[j] := by unfold theE; rw [getE_at ha j hj]; rfl
theorem cmpI_neg (a b : Int) : decide (cmpI a b < 0) = decide (a < b) := by
  unfold cmpI
  by_cases h : a < b
  · simp [h]
  · by_cases h2 : b < a <;> simp [h, h2]
set_option maxRecDepth 100000 in
set_option maxHeartbeats 1000000 in
theorem sooner_any (Bx G b : Nat) (room : Int) (es : List Ce) (p q : ByteArray × Int) (w : World) (h : CacAt w G b room es) (hB : w.cell? ⟨Bx, 0, none⟩ = some (.pointer (some ⟨G, 0, none⟩))) (hp : KeyOk p) (hq : KeyOk q) :
    Calls Try.prog 51 #[keyV p, keyV q, .pointer (some ⟨Bx, 0, none⟩)] w fun e w' => e = .returned (.int .i64 (cmpI (theE es p.1 p.2).u (theE es q.1 q.2).u)) ∧ Below w.heap.size w w' := by
  obtain ⟨x, i⟩ := p
  obtain ⟨y, j⟩ := q
  have hBl : Bx < w.heap.size := World.block_lt_of_cell? w ⟨Bx, 0, none⟩ hB
  obtain ⟨W2, hW2⟩ : ∃ W2, (w.alloc (.cells #[.string x, .int .i64 i] 39)).alloc (.cells #[.string y, .int .i64 j] 39) = W2 := ⟨_, rfl⟩
  have hb2 : Below w.heap.size w W2 := by rw [← hW2]; exact ((Below.refl _ _).alloc (Nat.le_refl _) _).alloc (by simp) _
  have hz2 : W2.heap.size = w.heap.size + 2 := by rw [← hW2]; simp
  have hk1 : W2.rangeAt w.heap.size 0 (keyL (x, i)) := by rw [← hW2]; exact range_belowC (CellsAt.new w 39 (keyL (x, i))).range ((Below.refl _ _).alloc (Nat.le_refl _) _) (by simp)
  have hk2 : W2.rangeAt (w.heap.size + 1) 0 (keyL (y, j)) := by
    have := CellsAt.new (w.alloc (.cells #[.string x, .int .i64 i] 39)) 39 (keyL (y, j))
    rw [← hW2]; simpa [keyL] using this.range
  obtain ⟨S, hS⟩ : ∃ S : World → Prop, (fun W => Below W2.heap.size W2 W) = S := ⟨_, rfl⟩
  have h2 := h.below hb2
  have HEND : Hid (∀ W, S W → Below w.heap.size w W) := Lib.hid (fun W hW => by rw [← hS] at hW; exact chain hb2 hW)
  have HS0 : Hid (S W2.drew) := Lib.hid (by rw [← hS]; exact (Below.refl _ _).drew)
  have MB : Hid (∀ W, S W → W.cell? ⟨Bx, 0, none⟩ = some (.pointer (some ⟨G, 0, none⟩))) := Lib.hid (fun W hW => by
    rw [← hS] at hW
    exact (hW.cell (p := ⟨Bx, 0, none⟩) (Nat.lt_of_lt_of_le hBl hb2.size)).trans ((hb2.cell (p := ⟨Bx, 0, none⟩) hBl).trans hB))
  have MG : Hid (∀ W, S W → W.cell? ⟨G, 1, none⟩ = some (.map (some b))) := Lib.hid (fun W hW => by rw [← hS] at hW; exact (h2.below hW).cs.cell 1 _ rfl)
  have MK1 : Hid (∀ W, S W → W.rangeAt w.heap.size 0 (keyL (x, i))) := Lib.hid (fun W hW => by rw [← hS] at hW; exact range_belowC hk1 hW (by omega))
  have MK2 : Hid (∀ W, S W → W.rangeAt (w.heap.size + 1) 0 (keyL (y, j))) := Lib.hid (fun W hW => by rw [← hS] at hW; exact range_belowC hk2 hW (by omega))
  have HL1 : Hid (∀ W, S W → (Instr.lookup 66 (.map (some b)) (keyV (x, i)) false).run Try.prog W = .ok (entV (theE es x i)) W) := Lib.hid (fun W hW => by rw [← hS] at hW; exact (h2.below hW).mp.look1 h.ok h.so.apart x i hp)
  have HL2 : Hid (∀ W, S W → (Instr.lookup 66 (.map (some b)) (keyV (y, j)) false).run Try.prog W = .ok (entV (theE es y j)) W) := Lib.hid (fun W hW => by rw [← hS] at hW; exact (h2.below hW).mp.look1 h.ok h.so.apart y j hq)
  have HC : ∀ W, S W → Hid (Calls Try.prog 41 #[.int .i64 (theE es x i).u, .int .i64 (theE es y j).u] W fun e w' => e = .returned (.int .i64 (cmpI (theE es x i).u (theE es y j).u)) ∧ S w') := fun W hW => Lib.hid ((cmpI_any _ _ W).mono (by rintro e w' ⟨rfl, rfl⟩; exact ⟨rfl, hW⟩))
  clear hS h h2 hb2 hz2 hk1 hk2 hB hBl hp hq
  generalize theE es x i = E1 at *
  generalize theE es y j = E2 at *
  obtain ⟨s1, t1, a1, n1, c1, u1⟩ := E1
  obtain ⟨s2, t2, a2, n2, c2, u2⟩ := E2
  unfold entV at HL1 HL2
  have HF1 : Hid (∀ W, S W → (Instr.field 78 (.agg #[.slice a1 n1 c1, .int .i64 u1]) 1).run Try.prog W = .ok (.int .i64 u1) W) := Lib.hid (fun W _ => by kernel_rfl)
  have HF2 : Hid (∀ W, S W → (Instr.field 78 (.agg #[.slice a2 n2 c2, .int .i64 u2]) 1).run Try.prog W = .ok (.int .i64 u2) W) := Lib.hid (fun W _ => by kernel_rfl)
  simp only at HL1 HL2 HC
  unfold keyV keyL
  go_enter Try.func51, Try.ntmps51
  go_upto_region 1 with fail
  first | rw [hW2] | skip
  clear hW2
  refine wp_region_noPanic ?_
  refine wp_region_held_drew (S := S) (by kernel_rfl) HS0.out (fun hHeld => ?_)
  refine wpAnyH_take (i := 0) (v := ?_) rfl (by kernel_rfl) (by kernel_rfl) (by kernel_rfl) (fun _ _ _ h => h) (Or.inl ⟨by rfl, ?_⟩) (by assumption) ?_
  rotate_left
  · (intro w hSw; have hc0 := MB.out w hSw; go_simp; try (with_reducible rfl))
  try simp only [Act.put, List.getElem_toArray, List.getElem_cons_zero, List.setIfInBounds_toArray, List.set_cons_zero, List.set_cons_succ]
  refine wpAnyH_take (i := 1) (v := ?_) rfl (by kernel_rfl) (by kernel_rfl) (by kernel_rfl) (fun _ _ _ h => h) (Or.inl ⟨by rfl, ?_⟩) (by assumption) ?_
  rotate_left
  · (intro w hSw; go_simp; try (with_reducible rfl))
  try simp only [Act.put, List.getElem_toArray, List.getElem_cons_zero, List.getElem_cons_succ, List.setIfInBounds_toArray, List.set_cons_zero, List.set_cons_succ]
  refine wpAnyH_take (i := 2) (v := ?_) rfl (by kernel_rfl) (by kernel_rfl) (by kernel_rfl) (fun _ _ _ h => h) (Or.inl ⟨by rfl, ?_⟩) (by assumption) ?_
  rotate_left
  · (intro w hSw; go_simp; try (with_reducible rfl))
  try simp only [Act.put, List.getElem_toArray, List.getElem_cons_zero, List.getElem_cons_succ, List.setIfInBounds_toArray, List.set_cons_zero, List.set_cons_succ]
  refine wpAnyH_take (i := 3) (v := ?_) rfl (by kernel_rfl) (by kernel_rfl) (by kernel_rfl) (fun _ _ _ h => h) (Or.inl ⟨by rfl, ?_⟩) (by assumption) ?_
  rotate_left
  · (intro w hSw; have hc0 := MG.out w hSw; go_simp; try (with_reducible rfl))
  try simp only [Act.put, List.getElem_toArray, List.getElem_cons_zero, List.getElem_cons_succ, List.setIfInBounds_toArray, List.set_cons_zero, List.set_cons_succ]
  refine wpAnyH_take (i := 4) rfl (by kernel_rfl) (by kernel_rfl) (by kernel_rfl) (fun _ _ _ h => h) (yields_key (p:=(x,i)) MK1 (by rfl) _ rfl rfl) (by assumption) ?_
  try simp only [Act.put, List.getElem_toArray, List.getElem_cons_zero, List.getElem_cons_succ, List.setIfInBounds_toArray, List.set_cons_zero, List.set_cons_succ]
  refine wpAnyH_take (i := 5) (v := ?_) rfl (by kernel_rfl) (by kernel_rfl) (by kernel_rfl) (fun _ _ _ h => h) (Or.inl ⟨by rfl, ?_⟩) (by assumption) ?_
  rotate_left
  · (intro w hSw; have hc0 := HL1.out w hSw; go_simp; try (with_reducible rfl))
  try simp only [Act.put, List.getElem_toArray, List.getElem_cons_zero, List.getElem_cons_succ, List.setIfInBounds_toArray, List.set_cons_zero, List.set_cons_succ]
  refine wpAnyH_take (i := 6) (v := ?_) rfl (by kernel_rfl) (by kernel_rfl) (by kernel_rfl) (fun _ _ _ h => h) (Or.inl ⟨by rfl, ?_⟩) (by assumption) ?_
  rotate_left
  · (intro w hSw; have hc0 := HF1.out w hSw; go_simp; try (with_reducible rfl))
  try simp only [Act.put, List.getElem_toArray, List.getElem_cons_zero, List.getElem_cons_succ, List.setIfInBounds_toArray, List.set_cons_zero, List.set_cons_succ]
  refine wpAnyH_take (i := 7) (v := ?_) rfl (by kernel_rfl) (by kernel_rfl) (by kernel_rfl) (fun _ _ _ h => h) (Or.inl ⟨by rfl, ?_⟩) (by assumption) ?_
  rotate_left
  · (intro w hSw; have hc0 := MB.out w hSw; go_simp; try (with_reducible rfl))
  try simp only [Act.put, List.getElem_toArray, List.getElem_cons_zero, List.getElem_cons_succ, List.setIfInBounds_toArray, List.set_cons_zero, List.set_cons_succ]
  refine wpAnyH_take (i := 8) (v := ?_) rfl (by kernel_rfl) (by kernel_rfl) (by kernel_rfl) (fun _ _ _ h => h) (Or.inl ⟨by rfl, ?_⟩) (by assumption) ?_
  rotate_left
  · (intro w hSw; go_simp; try (with_reducible rfl))
  try simp only [Act.put, List.getElem_toArray, List.getElem_cons_zero, List.getElem_cons_succ, List.setIfInBounds_toArray, List.set_cons_zero, List.set_cons_succ]
  refine wpAnyH_take (i := 9) (v := ?_) rfl (by kernel_rfl) (by kernel_rfl) (by kernel_rfl) (fun _ _ _ h => h) (Or.inl ⟨by rfl, ?_⟩) (by assumption) ?_
  rotate_left
  · (intro w hSw; go_simp; try (with_reducible rfl))
  try simp only [Act.put, List.getElem_toArray, List.getElem_cons_zero, List.getElem_cons_succ, List.setIfInBounds_toArray, List.set_cons_zero, List.set_cons_succ]
  refine wpAnyH_take (i := 10) (v := ?_) rfl (by kernel_rfl) (by kernel_rfl) (by kernel_rfl) (fun _ _ _ h => h) (Or.inl ⟨by rfl, ?_⟩) (by assumption) ?_
  rotate_left
  · (intro w hSw; have hc0 := MG.out w hSw; go_simp; try (with_reducible rfl))
  try simp only [Act.put, List.getElem_toArray, List.getElem_cons_zero, List.getElem_cons_succ, List.setIfInBounds_toArray, List.set_cons_zero, List.set_cons_succ]
  refine wpAnyH_take (i := 11) rfl (by kernel_rfl) (by kernel_rfl) (by kernel_rfl) (fun _ _ _ h => h) (yields_key (p:=(y,j)) MK2 (by rfl) _ rfl rfl) (by assumption) ?_
  try simp only [Act.put, List.getElem_toArray, List.getElem_cons_zero, List.getElem_cons_succ, List.setIfInBounds_toArray, List.set_cons_zero, List.set_cons_succ]
  refine wpAnyH_take (i := 12) (v := ?_) rfl (by kernel_rfl) (by kernel_rfl) (by kernel_rfl) (fun _ _ _ h => h) (Or.inl ⟨by rfl, ?_⟩) (by assumption) ?_
  rotate_left
  · (intro w hSw; have hc0 := HL2.out w hSw; go_simp; try (with_reducible rfl))
  try simp only [Act.put, List.getElem_toArray, List.getElem_cons_zero, List.getElem_cons_succ, List.setIfInBounds_toArray, List.set_cons_zero, List.set_cons_succ]
  refine wpAnyH_take (i := 13) (v := ?_) rfl (by kernel_rfl) (by kernel_rfl) (by kernel_rfl) (fun _ _ _ h => h) (Or.inl ⟨by rfl, ?_⟩) (by assumption) ?_
  rotate_left
  · (intro w hSw; have hc0 := HF2.out w hSw; go_simp; try (with_reducible rfl))
  try simp only [Act.put, List.getElem_toArray, List.getElem_cons_zero, List.getElem_cons_succ, List.setIfInBounds_toArray, List.set_cons_zero, List.set_cons_succ]
  refine wpAnyH_ready (rs := [14]) (by kernel_rfl) (by simp) ?_
  refine AllReadyH.cons rfl (fun K hK => ?_) AllReadyH.nil
  go_simp
  refine (HC _ (by assumption)).out.mono ?_
  rintro e wr14 ⟨rfl, hS14⟩
  go_wp2_with fail
  refine hK.out _ _ hS14 (fun hHeld => ?_)
  clear hK K
  try simp only [Act.put, List.getElem_toArray, List.getElem_cons_zero, List.getElem_cons_succ, List.setIfInBounds_toArray, List.set_cons_zero, List.set_cons_succ]
  refine wpAnyH_take (i := 15) (v := ?_) rfl (by kernel_rfl) (by kernel_rfl) (by kernel_rfl) (fun _ _ _ h => h) (Or.inl ⟨by rfl, ?_⟩) (by assumption) ?_
  rotate_left
  · (intro w hSw; go_simp; try (with_reducible rfl))
  try simp only [Act.put, List.getElem_toArray, List.getElem_cons_zero, List.getElem_cons_succ, List.setIfInBounds_toArray, List.set_cons_zero, List.set_cons_succ]
  refine wpAnyH_done (by kernel_rfl) ?_ _
  refine NoPanic.normal ?_
  go_wp2_with fail
  go_ret
  exact ⟨rfl, HEND.out _ hHeld⟩
def kAt (es : List Ce) (k : Nat) : ByteArray × Int := match es[k]? with
  | some e => keyC e
  | none => noKey
theorem kAt_eq {es : List Ce} {k : Nat} (hk : k < es.length) : kAt es k = keyC es[k] := by unfold kAt; rw [List.getElem?_eq_getElem hk]
theorem bestC_next (es : List Ce) (k : Nat) : bestC es (k + 1) = if uAt es k < uAt es (bestC es k) then k else bestC es k := rfl
set_option maxRecDepth 100000 in
set_option maxHeartbeats 2000000 in
theorem minFunc_any (Bx G b g cap : Nat) (room : Int) (es : List Ce) (w : World) (h : CacAt w G b room es) (hB : w.cell? ⟨Bx, 0, none⟩ = some (.pointer (some ⟨G, 0, none⟩))) (hr : w.rangeAt g 0 (flatK (es.map keyC))) (hg : g < w.heap.size) (h1 : 1 ≤ es.length) :
    Calls Try.prog 50 #[.slice (some ⟨g, 0, none⟩) es.length cap, .func (.func 51) #[] #[.pointer (some ⟨Bx, 0, none⟩)]] w fun e w' => e = .returned (keyV (kAt es (bestC es es.length))) ∧ Below w.heap.size w w' := by
  have h64 := h.len
  have hBl : Bx < w.heap.size := World.block_lt_of_cell? w ⟨Bx, 0, none⟩ hB
  have HKR : Hid (∀ W k, Below w.heap.size w W → k < es.length → W.rangeAt g (k * 2) (keyL (kAt es k))) := Lib.hid (fun W k hb hk => by
    have := range_key (range_belowC hr hb hg) k (by simpa using hk)
    rw [kAt_eq hk]
    simpa using this)
  have HCL : Hid (∀ W k j, Below w.heap.size w W → k < es.length → j < es.length → Calls Try.prog 51 #[keyV (kAt es k), keyV (kAt es j), .pointer (some ⟨Bx, 0, none⟩)] W fun e w' => e = .returned (.int .i64 (cmpI (uAt es k) (uAt es j))) ∧ Below W.heap.size W w') := Lib.hid (fun W k j hb hk hj => by
    have := sooner_any Bx G b room es (keyC es[k]) (keyC es[j]) W (h.below hb) ((hb.cell (p := ⟨Bx, 0, none⟩) hBl).trans hB) (h.ok _ (List.getElem_mem hk)) (h.ok _ (List.getElem_mem hj))
    rw [kAt_eq hk, kAt_eq hj, uAt_eq hk, uAt_eq hj]
    rw [show theE es (keyC es[k]).1 (keyC es[k]).2 = es[k] from theE_at h.so.apart k hk, show theE es (keyC es[j]).1 (keyC es[j]).2 = es[j] from theE_at h.so.apart j hj] at this
    exact this)
  have HBE : Hid (∀ k, k ≤ es.length → bestC es k < es.length) := Lib.hid (fun k hk => by
    cases k with
    | zero => exact h1
    | succ k => have := bestC_lt es k; omega)
  have HNX := Lib.hid (bestC_next es)
  have HB1 := Lib.hid (bestC_one es)
  obtain ⟨uu, huu⟩ : ∃ uu, uAt es = uu := ⟨_, rfl⟩
  obtain ⟨kk, hkk⟩ : ∃ kk, kAt es = kk := ⟨_, rfl⟩
  obtain ⟨bb, hbb⟩ : ∃ bb, bestC es = bb := ⟨_, rfl⟩
  obtain ⟨n, hn⟩ : ∃ n, es.length = n := ⟨_, rfl⟩
  rw [huu, hbb] at HNX
  rw [huu] at HCL
  rw [hkk, hn] at HKR HCL
  rw [hbb, hn] at HBE
  rw [hbb] at HB1
  rw [hkk, hbb, hn]
  rw [hn] at h1 h64
  clear h hB hr hBl huu hkk hbb hn
  obtain ⟨W0, hW0⟩ : ∃ W0, w.alloc (.cells #[.string ⟨#[]⟩, .int .i64 0] 39) = W0 := ⟨_, rfl⟩
  have HB0 : Hid (Below w.heap.size w W0) := Lib.hid (by rw [← hW0]; exact (Below.refl _ _).alloc (Nat.le_refl _) _)
  have HZ0 : Hid (CellsAt W0 w.heap.size (keyL noKey)) := Lib.hid (by rw [← hW0]; exact CellsAt.new w 39 (keyL noKey))
  have hn1 : ¬ ((n : Int) < 1) := by omega
  have hd1 : decide ((n : Int) < 1) = false := decide_eq_false hn1
  have HK0 := Lib.hid (show W0.rangeAt g 0 (keyL (kk 0)) from by have := HKR.out W0 0 HB0.out (by omega); rw [Nat.zero_mul] at this; exact this)
  have hn0 : (0 : Int) < (n : Int) := by omega
  go_enter Try.func50, Try.ntmps50
  go_upto_region 1 with fail
  first | rw [hW0] | skip
  clear hW0
  have HZ5 : Hid (CellsAt (W0.alloc (.cells #[.string ⟨#[]⟩, .int .i64 0] 39)) W0.heap.size (keyL noKey)) := Lib.hid (CellsAt.new W0 39 (keyL noKey))
  have HB5 : Hid (Below w.heap.size w (W0.alloc (.cells #[.string ⟨#[]⟩, .int .i64 0] 39))) := Lib.hid (HB0.out.alloc HB0.out.size _)
  have HZ4 : Hid (CellsAt (W0.alloc (.cells #[.string ⟨#[]⟩, .int .i64 0] 39)) w.heap.size (keyL noKey)) := Lib.hid (HZ0.out.below ((Below.refl _ _).alloc (Nat.le_refl _) _))
  have HLT0 : Hid (w.heap.size < W0.heap.size) := Lib.hid HZ0.out.lt
  go_upto_region 4 with (first | refine load_key HK0 _ rfl rfl rfl ?_ | (refine store_key HZ5 _ _ rfl rfl rfl rfl (fun W1 HW1 HC1 => ?_)))
  have HB1' : Hid (Below w.heap.size w W1) := Lib.hid (by rw [HW1.out]; exact below_cells HB0.out.size _ _ _ HB5.out)
  have HZ1 : Hid (CellsAt W1 w.heap.size (keyL noKey)) := Lib.hid (by rw [HW1.out]; exact HZ4.out.apart (by have := HLT0.out; omega) _)
  generalize hP5 : W0.heap.size = P5 at *
  clear HW1 HZ5 HB5 HZ4 HZ0 HB0 HK0 hP5
  go_wp2_with fail
  go_loopw [6] (fun i wr => ∃ k : Nat, 1 ≤ k ∧ k ≤ n ∧ i = .int .i64 (k : Int) ∧ Hid (CellsAt wr w.heap.size (keyL noKey)) ∧ Hid (CellsAt wr P5 (keyL (kk (bb k)))) ∧ Hid (Below w.heap.size w wr)) (fun i _ => n - (intOf i).toNat)
  case atStart => exact ⟨1, Nat.le_refl _, h1, rfl, HZ1, by rw [HB1.out]; exact HC1, HB1'⟩
  case round =>
    obtain ⟨k, hk1, hk, rfl, HZ, HM, HB⟩ := hrel
    clear HZ1 HC1 HB1'
    by_cases hkn : k < n
    · have hd : decide ((k : Int) < (n : Int)) = true := decide_eq_true (by omega)
      have hdn : decide (k < n) = true := decide_eq_true hkn
      have hb1 : (0 : Int) ≤ (k : Int) := by omega
      have hb2 : (k : Int) < (n : Int) := by omega
      obtain ⟨S, hS⟩ : ∃ S : World → Prop, (fun W => Below w.heap.size w W ∧ CellsAt W w.heap.size (keyL noKey) ∧ CellsAt W P5 (keyL (kk (bb k)))) = S := ⟨_, rfl⟩
      have HS0 : Hid (S wr.drew) := Lib.hid (by rw [← hS]; exact ⟨HB.out.drew, HZ.out.below (Below.refl _ _).drew, HM.out.below (Below.refl _ _).drew⟩)
      have HSO : Hid (∀ W, S W → Below w.heap.size w W ∧ CellsAt W w.heap.size (keyL noKey) ∧ CellsAt W P5 (keyL (kk (bb k)))) := Lib.hid (fun W h => by rw [← hS] at h; exact h)
      have MK : Hid (∀ W, S W → W.rangeAt g (k * 2) (keyL (kk k))) := Lib.hid (fun W h => HKR.out W k (HSO.out W h).1 hkn)
      have MM : Hid (∀ W, S W → W.rangeAt P5 0 (keyL (kk (bb k)))) := Lib.hid (fun W h => (HSO.out W h).2.2.range)
      have HC6 : ∀ W, S W → Hid (Calls Try.prog 51 #[keyV (kk k), keyV (kk (bb k)), .pointer (some ⟨Bx, 0, none⟩)] W fun e w' => e = .returned (.int .i64 (cmpI (uu k) (uu (bb k)))) ∧ S w') := fun W h => Lib.hid ((HCL.out W k (bb k) (HSO.out W h).1 hkn (HBE.out k hk)).mono (by
        rintro e w' ⟨rfl, hb⟩
        refine ⟨rfl, ?_⟩
        rw [← hS]
        obtain ⟨h1, h2, h3⟩ := HSO.out W h
        exact ⟨chain h1 hb, h2.below hb, h3.below hb⟩))
      have HNXK := Lib.hid (HNX.out k)
      have HCN := Lib.hid (cmpI_neg (uu k) (uu (bb k)))
      generalize cmpI (uu k) (uu (bb k)) = c at HC6 HCN
      clear hS HZ HM HB
      go_upto_region 7 with fail
      refine wp_region_noPanic ?_
      refine wp_region_held_drew (S := S) (by kernel_rfl) HS0.out (fun hHeld => ?_)
      refine wpAnyH_take (i := 0) (v := ?_) rfl (by kernel_rfl) (by kernel_rfl) (by kernel_rfl) (fun _ _ _ h => h) (Or.inl ⟨by rfl, ?_⟩) (by assumption) ?_
      rotate_left
      · (intro w hSw; go_simp; try (with_reducible rfl))
      try simp only [Act.put, List.getElem_toArray, List.getElem_cons_zero, List.setIfInBounds_toArray, List.set_cons_zero, List.set_cons_succ]
      refine wpAnyH_take (i := 1) (v := ?_) rfl (by kernel_rfl) (by kernel_rfl) (by kernel_rfl) (fun _ _ _ h => h) (Or.inl ⟨by rfl, ?_⟩) (by assumption) ?_
      rotate_left
      · (intro w hSw; go_simp; try (with_reducible rfl))
      try simp only [Act.put, List.getElem_toArray, List.getElem_cons_zero, List.getElem_cons_succ, List.setIfInBounds_toArray, List.set_cons_zero, List.set_cons_succ]
      refine wpAnyH_take (i := 2) (v := ?_) rfl (by kernel_rfl) (by kernel_rfl) (by kernel_rfl) (fun _ _ _ h => h) (Or.inl ⟨by rfl, ?_⟩) (by assumption) ?_
      rotate_left
      · (intro w hSw; go_simp; try (with_reducible rfl))
      try simp only [Act.put, List.getElem_toArray, List.getElem_cons_zero, List.getElem_cons_succ, List.setIfInBounds_toArray, List.set_cons_zero, List.set_cons_succ]
      refine wpAnyH_take (i := 3) (v := ?_) rfl (by kernel_rfl) (by kernel_rfl) (by kernel_rfl) (fun _ _ _ h => h) (Or.inl ⟨by rfl, ?_⟩) (by assumption) ?_
      rotate_left
      · (intro w hSw; go_simp; try (with_reducible rfl))
      try simp only [Act.put, List.getElem_toArray, List.getElem_cons_zero, List.getElem_cons_succ, List.setIfInBounds_toArray, List.set_cons_zero, List.set_cons_succ]
      refine wpAnyH_take (i := 4) rfl (by kernel_rfl) (by kernel_rfl) (by kernel_rfl) (fun _ _ _ h => h) (yields_key (p:=kk k) MK (by rfl) _ rfl rfl) (by assumption) ?_
      try simp only [Act.put, List.getElem_toArray, List.getElem_cons_zero, List.getElem_cons_succ, List.setIfInBounds_toArray, List.set_cons_zero, List.set_cons_succ]
      refine wpAnyH_take (i := 5) rfl (by kernel_rfl) (by kernel_rfl) (by kernel_rfl) (fun _ _ _ h => h) (yields_key (p:=kk (bb k)) MM (by rfl) _ rfl rfl) (by assumption) ?_
      try simp only [Act.put, List.getElem_toArray, List.getElem_cons_zero, List.getElem_cons_succ, List.setIfInBounds_toArray, List.set_cons_zero, List.set_cons_succ]
      refine wpAnyH_ready (rs := [6]) (by kernel_rfl) (by simp) ?_
      refine AllReadyH.cons rfl (fun K hK => ?_) AllReadyH.nil
      go_simp
      refine (HC6 _ (by assumption)).out.mono ?_
      rintro e wr6 ⟨rfl, hS6⟩
      go_wp2_with fail
      refine hK.out _ _ hS6 (fun hHeld => ?_)
      clear hK K
      try simp only [Act.put, List.getElem_toArray, List.getElem_cons_zero, List.getElem_cons_succ, List.setIfInBounds_toArray, List.set_cons_zero, List.set_cons_succ]
      refine wpAnyH_take (i := 7) (v := ?_) rfl (by kernel_rfl) (by kernel_rfl) (by kernel_rfl) (fun _ _ _ h => h) (Or.inl ⟨by rfl, ?_⟩) (by assumption) ?_
      rotate_left
      · (intro w hSw; go_simp; try (with_reducible rfl))
      try simp only [Act.put, List.getElem_toArray, List.getElem_cons_zero, List.getElem_cons_succ, List.setIfInBounds_toArray, List.set_cons_zero, List.set_cons_succ]
      refine wpAnyH_done (by kernel_rfl) ?_ _
      refine NoPanic.normal ?_
      have hH := HSO.out _ hHeld
      have HB7 := Lib.hid hH.1
      have HZ7 := Lib.hid hH.2.1
      have HM7 := Lib.hid hH.2.2
      have HK7 := Lib.hid (HKR.out _ k HB7.out hkn)
      clear hH HSO MK MM HC6 HS0
      by_cases hu : uu k < uu (bb k)
      · have hc : decide (c < 0) = true := by rw [HCN.out]; exact decide_eq_true hu
        have hc2 : c < 0 := of_decide_eq_true hc
        have HN := HNXK.out
        rw [if_pos hu] at HN
        have HN2 := Lib.hid HN
        clear HN HNXK HCN
        go_wp2_with (first | refine load_key HK7 _ rfl rfl rfl ?_ | (refine store_key HM7 _ _ rfl rfl rfl rfl (fun W8 HW8 HC8 => ?_)))
        have hlt := HZ7.out.lt
        go_roundw
        case rel => exact ⟨k + 1, by omega, by omega, by go_num, Lib.hid (by rw [HW8.out]; exact HZ7.out.apart (by have := HLT0.out; omega) _), by rw [HN2.out]; exact HC8, Lib.hid (by rw [HW8.out]; exact below_cells (by have := HLT0.out; omega) _ _ _ HB7.out)⟩
        case measure => simp [intOf]; omega
      · have hc : decide (c < 0) = false := by rw [HCN.out]; exact decide_eq_false hu
        have hc2 : ¬ c < 0 := of_decide_eq_false hc
        have HN := HNXK.out
        rw [if_neg hu] at HN
        have HN2 := Lib.hid HN
        clear HN HNXK HCN
        go_wp2_with fail
        go_roundw
        case rel => exact ⟨k + 1, by omega, by omega, by go_num, HZ7, by rw [HN2.out]; exact HM7, HB7⟩
        case measure => simp [intOf]; omega
    · obtain rfl : k = n := by omega
      have hd : decide ((k : Int) < (k : Int)) = false := by simp
      have HMR := Lib.hid HM.out.range
      go_wp2_with (first | refine load_key HMR _ rfl rfl rfl ?_ | (refine store_key HZ _ _ rfl rfl rfl rfl (fun W8 HW8 HC8 => ?_)))
      refine bodyPost_ret (results_key Try.results50 rfl HC8.out) rfl ⟨rfl, ?_⟩
      rw [HW8.out]
      exact below_cells (Nat.le_refl _) _ _ _ HB.out
set_option maxRecDepth 100000 in
set_option maxHeartbeats 1000000 in
theorem soonest_any (G b : Nat) (room : Int) (es : List Ce) (w : World) (h : CacAt w G b room es) (h1 : 1 ≤ es.length) :
    Calls Try.prog 43 #[.pointer (some ⟨G, 0, none⟩)] w fun e w' => e = .returned (keyV (kAt es (bestC es es.length))) ∧ Below w.heap.size w w' := by
  obtain ⟨W1, hW1⟩ : ∃ W1, (w.alloc (.cells #[.pointer (some ⟨G, 0, none⟩)] 23)).alloc (.cells #[.string ⟨#[]⟩, .int .i64 0] 39) = W1 := ⟨_, rfl⟩
  have hb1 : Below w.heap.size w W1 := by rw [← hW1]; exact ((Below.refl _ _).alloc (Nat.le_refl _) _).alloc (by simp) _
  have hbx : W1.cell? ⟨w.heap.size, 0, none⟩ = some (.pointer (some ⟨G, 0, none⟩)) := by rw [← hW1, World.cell?_alloc_old _ _ _ (by simp), World.cell?_alloc_new]; rfl
  have hz1 : CellsAt W1 (w.heap.size + 1) (keyL noKey) := by
    have := CellsAt.new (w.alloc (.cells #[.pointer (some ⟨G, 0, none⟩)] 23)) 39 (keyL noKey)
    rw [← hW1]; simpa [keyL] using this
  have hlt : w.heap.size + 2 = W1.heap.size := by rw [← hW1]; simp
  have HKS := Lib.hid (keys_any G b room es W1 (h.below hb1))
  have HMF : Hid (∀ W v, Below W1.heap.size W1 W → KeysAt W W1.heap.size v (es.map keyC) → ∃ g cap, v = .slice (some ⟨g, 0, none⟩) es.length cap ∧ Calls Try.prog 50 #[.slice (some ⟨g, 0, none⟩) es.length cap, .func (.func 51) #[] #[.pointer (some ⟨w.heap.size, 0, none⟩)]] W fun e w' => e = .returned (keyV (kAt es (bestC es es.length))) ∧ Below W.heap.size W w') := Lib.hid (fun W v hb hk => by
    rcases hk.2 with ⟨_, e⟩ | ⟨g, cap, rfl, _, hg, _, _, hr⟩
    · have := congrArg List.length e
      simp at this
      rw [this] at h1; simp at h1
    · refine ⟨g, cap, by rw [List.length_map], minFunc_any w.heap.size G b g cap room es W ((h.below hb1).below hb) ?_ hr hg h1⟩
      exact (hb.cell (p := ⟨w.heap.size, 0, none⟩) (by show w.heap.size < _; omega)).trans hbx)
  have HZ := Lib.hid hz1
  have HB := Lib.hid hb1
  have HLT := Lib.hid hlt
  clear h hb1 hz1 hlt h1
  generalize kAt es (bestC es es.length) = kb at *
  go_enter Try.func43, Try.ntmps43
  go_upto_region 1 with fail
  first | rw [hW1] | skip
  clear hW1
  go_wp2_with fail
  refine HKS.out.mono ?_
  rintro e w2 ⟨v, rfl, hk, hb2⟩
  obtain ⟨g, cap, rfl, hmf⟩ := HMF.out w2 v hb2 hk
  have HMF2 := Lib.hid hmf
  have HZ2 := Lib.hid (HZ.out.below hb2)
  have HB2 := Lib.hid (chain HB.out hb2)
  clear hk hb2 hmf HMF HKS HZ HB hbx
  go_wp2_with fail
  refine HMF2.out.mono ?_
  rintro e w3 ⟨rfl, hb3⟩
  have HZ3 := Lib.hid (HZ2.out.below hb3)
  have HB3 := Lib.hid (chain HB2.out hb3)
  clear hb3 HMF2 HZ2 HB2
  go_wp2_with (first | (refine store_key HZ3 _ _ rfl rfl rfl rfl (fun W8 HW8 HC8 => ?_)))
  refine bodyPost_ret (results_key Try.results43 rfl HC8.out) rfl ⟨rfl, ?_⟩
  rw [HW8.out]
  exact below_cells (Nat.le_succ _) _ _ _ HB3.out
end Go.Proofs.Ytjmmedpkcedngaa

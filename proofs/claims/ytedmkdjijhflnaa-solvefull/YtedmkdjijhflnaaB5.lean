/- Texts that belong together, one behind the other: CacOps, CacGet, Cuts, LabMath, LabOwn, SolStart, SolNew, SolQ. -/
import Derived.Test.YtedmkdjijhflnaaB4
import Derived.Deep.RegionHeld3
import Derived.Lib.Join
import Derived.Lib.Bytealg
/- The landed cache in memory; its small functions: keyOf, over, Len, Room, New. -/
namespace Go.Proofs.Ytedmkdjijhflnaa
open Go.RowKit Go.Maps
set_option linter.unusedVariables false
set_option maxRecDepth 20000

/-- A cache at block G, its map at block b, its entries in the row of keys. -/
structure CacAt (w : World) (G b : Nat) (room : Int) (es : List Ce) : Prop where
  cs : CellsAt w G [.int .i64 room, .map (some b)]
  mp : CacMap w b es
  so : SortedC es
  ok : KeysOk es
  le : (es.length : Int) ≤ room
  r1 : 1 ≤ room
  r2 : room ≤ 64
section
variable {w w' : World} {G b : Nat} {room : Int} {es : List Ce}
theorem CellsAt.kept {vs : List Value} (h : CellsAt w G vs) (hs : w.heap.size ≤ w'.heap.size) (hk : w'.heap[G]? = w.heap[G]?) : CellsAt w' G vs :=
  ⟨Nat.lt_of_lt_of_le h.lt hs, fun j u hu => by rw [World.cell?_of_block (w := w) (a := ⟨G, 0 + j, none⟩) hk]; exact h.range j u hu, fun j hj => by
    rw [World.cell?_of_block (w := w) (a := ⟨G, 0 + j, none⟩) hk, World.frozen?_of_block (w := w) (a := ⟨G, 0 + j, none⟩) hk]
    exact h.there j hj⟩
theorem CacAt.kept (h : CacAt w G b room es) (hs : w.heap.size ≤ w'.heap.size) (h1 : w'.heap[G]? = w.heap[G]?) (h2 : w'.heap[b]? = w.heap[b]?) : CacAt w' G b room es :=
  ⟨h.cs.kept hs h1, h.mp.kept h2, h.so, h.ok, h.le, h.r1, h.r2⟩
theorem CacAt.lt (h : CacAt w G b room es) : G < w.heap.size ∧ b < w.heap.size := ⟨h.cs.lt, h.mp.lt⟩
theorem CacAt.below (h : CacAt w G b room es) (hb : Below w.heap.size w w') : CacAt w' G b room es := h.kept hb.size (hb.block G h.lt.1) (hb.block b h.lt.2)
theorem CacAt.len (h : CacAt w G b room es) : es.length ≤ 64 := by have := h.le; have := h.r2; omega
theorem CacAt.ne (h : CacAt w G b room es) : G ≠ b := by
  rintro rfl
  obtain ⟨e0, cl, hb⟩ := h.mp.block
  have := h.cs.cell 0 _ rfl
  simp [World.cell?, hb] at this
end
theorem loadVar_key {w : World} {G : Nat} {p : ByteArray × Int} (h : CellsAt w G (keyL p)) : (loadVar 103 ⟨G, 0, none⟩).run Try.prog w = .ok (keyV p) w :=
  run_loadVar_mid w G 0 103 (keyL p) _ h.range Try.underlying103 rfl (by rw [key_size]; rfl)
theorem results_key {fn : Func} {a : Tmp} {tmps : Array Value} {W : World} {R : Nat} {p : ByteArray × Int} (h : fn.results = #[.cell a 103]) (ha : tmps.getD a undef = .pointer (some ⟨R, 0, none⟩)) (hA : CellsAt W R (keyL p)) : (results fn tmps).run Try.prog W = .ok (keyV p) W := by
  rw [Array.getD_eq_getD_getElem?] at ha
  simp [results, h, ha, asAddr, loadVar_key hA]
theorem results_key2 {fn : Func} {a t : Tmp} {tmps : Array Value} {W : World} {R : Nat} {p : ByteArray × Int} (h : fn.results = #[.cell a 103, .tmp t]) (ha : tmps.getD a undef = .pointer (some ⟨R, 0, none⟩)) (hA : CellsAt W R (keyL p)) : (results fn tmps).run Try.prog W = .ok (.tuple #[keyV p, tmps.getD t undef]) W := by
  rw [Array.getD_eq_getD_getElem?] at ha
  simp [results, h, ha, asAddr, loadVar_key hA]
theorem store_key {ops : Array Oper} {rest : List Oper} {op : Oper} {a : Act} {w : World} {Q : Exit → Act → World → Prop} {G : Nat} {p q : ByteArray × Int} (hA : Hid (CellsAt w G (keyL q))) (x y : Operand) (hgd : op.guard = none) (ho : op.op = .store 103 x y)
    (hx : a.eval x = .pointer (some ⟨G, 0, none⟩)) (hy : a.eval y = keyV p) (h : ∀ W, Hid (W = w.setCells G 0 (keyL p)) → Hid (CellsAt W G (keyL p)) → wpList Try.prog ops Q rest (a.put op.dst undef) W) : wpList Try.prog ops Q (op :: rest) a w :=
  wpList_store_mid hgd 103 x y ho G 0 (keyL p).toArray hx hy (by exact hA.out.there) (by rw [key_size]; rfl) (all_oneCell_toArray (by intro v hv; simp [keyL] at hv; rcases hv with rfl | rfl <;> rfl)) (h _ (Lib.hid rfl) (Lib.hid (hA.out.stored (keyL p) rfl)))
theorem build_key2 {ops : Array Oper} {rest : List Oper} {op : Oper} {a : Act} {w : World} {Q : Exit → Act → World → Prop} {s : ByteArray} {t : Int} (hg : op.guard = none) (x0 x1 : Operand) (ho : op.op = .build 103 #[(0, x0), (1, x1)])
    (h0 : a.eval x0 = .string s) (h1 : a.eval x1 = .int .i64 t) (h : wpList Try.prog ops Q rest (a.put op.dst (keyV (s, t))) w) : wpList Try.prog ops Q (op :: rest) a w := by
  have e0 : Try.prog.built 103 [(0, .string s), (1, .int .i64 t)] = some (keyL (s, t)).toArray := rfl
  have e : Try.prog.built 103 ((#[(0, x0), (1, x1)] : Array (Nat × Operand)).map fun (i, x) => (i, a.eval x)).toList = some (keyL (s, t)).toArray := by
    simp only [List.map_toArray, List.map_cons, List.map_nil]
    rw [h0, h1]; exact e0
  refine wpList_build hg 103 _ ho (by rw [e]; rfl) ?_
  rw [e]
  exact h
abbrev noKey : ByteArray × Int := (⟨#[]⟩, 0)
set_option maxHeartbeats 1000000 in
theorem keyOf_any (s : ByteArray) (t : Int) (w : World) (hs : s.size ≤ 2000000) : Calls Try.prog 41 #[.string s, .int .i64 t] w fun e w' => e = .returned (keyV (lowB s, t)) ∧ Below w.heap.size w w' := by
  have HL := fun W => Lib.hid (lower_any s W hs)
  generalize lowB s = x at *
  obtain ⟨W, hW⟩ : ∃ W, w.alloc (.cells #[.string ⟨#[]⟩, .int .i64 0] 103) = W := ⟨_, rfl⟩
  have HB : Hid (Below w.heap.size w W) := Lib.hid (by rw [← hW]; exact (Below.refl _ _).alloc (Nat.le_refl _) _)
  have HZ : Hid (CellsAt W w.heap.size (keyL noKey)) := Lib.hid (by rw [← hW]; exact CellsAt.new w 103 (keyL noKey))
  go_enter Try.func41, Try.ntmps41
  go_upto_region 1 with fail
  first | rw [hW] | skip
  clear hW
  go_wp2_with fail
  refine (HL _).out.mono ?_
  rintro e w1 ⟨rfl, hb1⟩
  have HZ1 := Lib.hid (HZ.out.below hb1)
  have HB1 := Lib.hid (chain HB.out hb1)
  clear hb1 HZ HB HL
  go_wp2_with (first | refine build_key2 rfl _ _ rfl rfl rfl ?_ | (refine store_key HZ1 _ _ rfl rfl rfl rfl (fun V HV HVC => ?_)))
  refine bodyPost_ret (results_key Try.results41 rfl HVC.out) rfl ⟨rfl, ?_⟩
  rw [HV.out]
  exact below_cells (Nat.le_refl _) _ _ _ HB1.out
theorem over_any (e : Ce) (now : Int) (w : World) : Calls Try.prog 42 #[entV e, .int .i64 now] w fun e' w' => e' = .returned (.bool (decide (e.u ≤ now))) ∧ Below w.heap.size w w' := by
  obtain ⟨s, t, a, n, c, u⟩ := e
  unfold entV
  go_enter Try.func42, Try.ntmps42
  go_wp2_with fail
  go_ret
  exact ⟨rfl, (Below.refl _ _).alloc (Nat.le_refl _) _⟩
theorem room_any (G b : Nat) (room : Int) (es : List Ce) (w : World) (h : CacAt w G b room es) : Calls Try.prog 27 #[.pointer (some ⟨G, 0, none⟩)] w fun e w' => e = .returned (.int .i64 room) ∧ w' = w := by
  have h1 := h.cs.cell 0 _ rfl
  clear h
  go_enter Try.func27, Try.ntmps27
  go_wp2_with fail
  go_ret
  exact ⟨rfl, rfl⟩
theorem new_any (n : Int) (w : World) : Calls Try.prog 25 #[.int .i64 n] w fun e w' => ∃ G b, e = .returned (.pointer (some ⟨G, 0, none⟩)) ∧ CacAt w' G b (min (max n 1) 64) [] ∧ w.heap.size ≤ G ∧ w.heap.size ≤ b ∧ Below w.heap.size w w' := by
  have hmk : (Instr.makeMap 95 none).run Try.prog w = .ok (.map (some w.heap.size)) (w.alloc (.map #[] 0)) := by rfl
  have HR : Hid (1 ≤ min (max n 1) 64 ∧ min (max n 1) 64 ≤ 64) := Lib.hid (by omega)
  generalize hm : min (max n 1) 64 = m at *
  go_enter Try.func25, Try.ntmps25
  go_wp2_with fail
  go_ret
  refine ⟨w.heap.size + 1, w.heap.size, rfl, ⟨?_, ?_, List.Pairwise.nil, (fun e h => by cases h), by simpa using Int.le_trans (by decide) HR.out.1, HR.out.1, HR.out.2⟩, by omega, Nat.le_refl _, ?_⟩
  · have := CellsAt.new (w.alloc (.map #[] 0)) 97 [.int .i64 m, .map (some w.heap.size)]
    simpa using this
  · exact (cacMap_made w).kept (Below.heap_alloc _ _ _ (by simp))
  · exact ((Below.refl _ _).alloc (Nat.le_refl _) _).alloc (by simp) _
end Go.Proofs.Ytedmkdjijhflnaa
/- Contracts of Cache.Until and Cache.Get. -/
namespace Go.Proofs.Ytedmkdjijhflnaa
open Go.RowKit Go.Maps
set_option linter.unusedVariables false
set_option maxRecDepth 20000

theorem ent_size : (Try.prog.info? 100).map (·.size) = some 2 := by kernel_rfl
def entL (e : Ce) : List Value := [.slice e.a e.n e.c, .int .i64 e.u]
theorem wp_store_ent {op : Oper} {a : Act} {w : World} {K : Act → World → Prop} {Q : Exit → Act → World → Prop} {G : Nat} {us : List Value} {e : Ce} (hA : Hid (CellsAt w G us)) (hu : us.length = 2) (x y : Operand) (ho : op.op = .store 100 x y)
    (hx : a.eval x = .pointer (some ⟨G, 0, none⟩)) (hy : a.eval y = entV e) (h : ∀ W, Hid (W = w.setCells G 0 (entL e)) → Hid (CellsAt W G (entL e)) → K (a.put op.dst undef) W) : op.wp Try.prog a w K Q :=
  wp_store_mid 100 x y ho G 0 (entL e).toArray hx hy (by have := hA.out.there; rw [hu] at this; exact this) (by rw [ent_size]; rfl) (all_oneCell_toArray (by intro v hv; simp [entL] at hv; rcases hv with rfl | rfl <;> rfl)) (h _ (Lib.hid rfl) (Lib.hid (hA.out.stored (entL e) (by rw [hu]; rfl))))
theorem load_ent {ops : Array Oper} {rest : List Oper} {op : Oper} {a : Act} {w : World} {Q : Exit → Act → World → Prop} {G : Nat} {e : Ce} (hA : Hid (CellsAt w G (entL e))) (x : Operand) (hw : Region.wanted op (yielded ops a.tmps) = true) (ho : op.op = .load 100 x)
    (hx : a.eval x = .pointer (some ⟨G, 0, none⟩)) (h : wpList Try.prog ops Q rest (a.put op.dst (entV e)) w) : wpList Try.prog ops Q (op :: rest) a w :=
  wpList_load_row hw 100 x ho G 0 hx (entL e) _ hA.out.range Try.underlying100 rfl (by rw [ent_size]; rfl) h
abbrev noCe : Ce := ⟨⟨#[]⟩, 0, none, 0, 0, 0⟩
/-- The entry of a key, or the zero one. -/
def theE (es : List Ce) (x : ByteArray) (t : Int) : Ce := (getE es x t).getD noCe
theorem CacMap.look2 {w : World} {b : Nat} {es : List Ce} (h : CacMap w b es) (hk : KeysOk es) (ha : KeysApart es) (x : ByteArray) (t : Int) (hp : KeyOk (x, t)) :
    (Instr.lookup 95 (.map (some b)) (keyV (x, t)) true).run Try.prog w = .ok (.tuple #[entV (theE es x t), .bool (getE es x t).isSome]) w := by
  rw [h.look hk ha x t hp]
  unfold theE
  cases getE es x t <;> rfl
/-- What Get tells: nothing, or a row of one's own of the entry's addresses. -/
def GotL (E : Ce) (hb : Bool) (now : Int) (L : List Ad) (B : Nat) (e : Ending) (w' : World) : Prop :=
  ((hb = false ∨ E.u ≤ now) ∧ e = .returned (.tuple #[.slice none 0 0, .bool false])) ∨ (hb = true ∧ now < E.u ∧ ∃ v, e = .returned (.tuple #[v, .bool true]) ∧ RowA w' B v L)
set_option maxRecDepth 100000 in
set_option maxHeartbeats 2000000 in
theorem get_any (G b : Nat) (room : Int) (es : List Ce) (s : ByteArray) (t now : Int) (w : World) (h : CacAt w G b room es) (hs : s.size ≤ 2000000) (ht : (Lit.int .i64 t).wf = true) (L : List Ad) (hL : ∀ e, getE es (lowB s) t = some e → e.n = L.length ∧ AdsIn w e.a e.c L) (hl : L.length ≤ 1000) :
    Calls Try.prog 30 #[.pointer (some ⟨G, 0, none⟩), .string s, .int .i64 t, .int .i64 now] w fun e w' => GotL (theE es (lowB s) t) (getE es (lowB s) t).isSome now L w.heap.size e w' ∧ Below w.heap.size w w' := by
  obtain ⟨S, hS⟩ : ∃ S : World → Prop, (fun W => Below w.heap.size w W) = S := ⟨_, rfl⟩
  have HSB : Hid (∀ W, S W → Below w.heap.size w W) := Lib.hid (fun W hW => by rw [← hS] at hW; exact hW)
  have HSI : Hid (∀ W W', S W → Below W.heap.size W W' → S W') := Lib.hid (fun W W' hW hb => by rw [← hS] at hW ⊢; exact chain hW hb)
  have HSI2 : Hid (∀ W B vs, S W → w.heap.size ≤ B → S (W.setCells B 0 vs)) := Lib.hid (fun W B vs hW hb => by rw [← hS] at hW ⊢; exact below_cells hb _ _ _ hW)
  have HS0 : Hid (S w.drew) := Lib.hid (by rw [← hS]; exact (Below.refl _ _).drew)
  have HL : Hid (∀ W, S W → (Instr.lookup 95 (.map (some b)) (keyV (lowB s, t)) true).run Try.prog W = .ok (.tuple #[entV (theE es (lowB s) t), .bool (getE es (lowB s) t).isSome]) W) := Lib.hid (fun W hW => ((h.below (HSB.out W hW)).mp).look2 h.ok h.so.apart _ _ (show KeyOk (lowB s, t) from ⟨by rw [lowB_size]; exact hs, ht⟩))
  have HM1 : Hid (∀ W, S W → W.cell? ⟨G, 1, none⟩ = some (.map (some b))) := Lib.hid (fun W hW => (h.below (HSB.out W hW)).cs.cell 1 _ rfl)
  have HKO : Hid (∀ W, S W → Calls Try.prog 41 #[.string s, .int .i64 t] W fun e w' => e = .returned (keyV (lowB s, t)) ∧ S w' ∧ Below W.heap.size W w') := Lib.hid (fun W hW => (keyOf_any s t W hs).mono (by rintro e w' ⟨rfl, hb⟩; exact ⟨rfl, HSI.out W w' hW hb, hb⟩))
  have HTT : Hid ((getE es (lowB s) t).isSome = true → (theE es (lowB s) t).n = L.length ∧ AdsIn w (theE es (lowB s) t).a (theE es (lowB s) t).c L) := Lib.hid (fun hh => by
    obtain ⟨e, he⟩ := Option.isSome_iff_exists.1 hh
    have : theE es (lowB s) t = e := by unfold theE; rw [he]; rfl
    rw [this]
    exact hL e he)
  have HTRI : Hid (∀ e w', ((getE es (lowB s) t).isSome = false ∨ (theE es (lowB s) t).u ≤ now) → e = .returned (.tuple #[.slice none 0 0, .bool false]) → GotL (theE es (lowB s) t) (getE es (lowB s) t).isSome now L w.heap.size e w') := Lib.hid (fun e w' h1 h2 => .inl ⟨h1, h2⟩)
  have HTRJ : Hid (∀ v w', (getE es (lowB s) t).isSome = true → now < (theE es (lowB s) t).u → RowA w' w.heap.size v L → GotL (theE es (lowB s) t) (getE es (lowB s) t).isSome now L w.heap.size (.returned (.tuple #[v, .bool true])) w') := Lib.hid (fun v w' h1 h2 h3 => .inr ⟨h1, h2, v, rfl, h3⟩)
  obtain ⟨Q, hQ⟩ : ∃ Q, GotL (theE es (lowB s) t) (getE es (lowB s) t).isSome now L w.heap.size = Q := ⟨_, rfl⟩
  rw [hQ] at HTRI HTRJ ⊢
  clear h hS hL hQ
  have HOV := fun W => Lib.hid (over_any (theE es (lowB s) t) now W)
  generalize theE es (lowB s) t = E at *
  generalize (getE es (lowB s) t).isSome = hb at *
  generalize lowB s = x at *
  obtain ⟨es0, et, ea, en, ec, eu⟩ := E
  unfold entV keyV keyL at *
  go_enter Try.func30, Try.ntmps30
  go_upto_region 1 with fail
  refine wp_region_noPanic ?_
  refine wp_region_held_drew (S := S) (by kernel_rfl) HS0.out (fun hHeld => ?_)
  refine wpAnyH_take (i := 0) (v := ?_) rfl (by kernel_rfl) (by kernel_rfl) (by kernel_rfl) (fun _ _ _ h => h) (Or.inl ⟨by rfl, ?_⟩) (by assumption) ?_
  rotate_left
  · (intro w hSw; go_simp; try (with_reducible rfl))
  try simp only [Act.put, List.getElem_toArray, List.getElem_cons_zero, List.setIfInBounds_toArray, List.set_cons_zero, List.set_cons_succ]
  refine wpAnyH_take (i := 1) (v := ?_) rfl (by kernel_rfl) (by kernel_rfl) (by kernel_rfl) (fun _ _ _ h => h) (Or.inl ⟨by rfl, ?_⟩) (by assumption) ?_
  rotate_left
  · (intro w hSw; go_simp; try (with_reducible rfl))
  try simp only [Act.put, List.getElem_toArray, List.getElem_cons_zero, List.getElem_cons_succ, List.setIfInBounds_toArray, List.set_cons_zero, List.set_cons_succ]
  refine wpAnyH_take (i := 2) (v := ?_) rfl (by kernel_rfl) (by kernel_rfl) (by kernel_rfl) (fun _ _ _ h => h) (Or.inl ⟨by rfl, ?_⟩) (by assumption) ?_
  rotate_left
  · (intro w hSw; go_simp; try (with_reducible rfl))
  try simp only [Act.put, List.getElem_toArray, List.getElem_cons_zero, List.getElem_cons_succ, List.setIfInBounds_toArray, List.set_cons_zero, List.set_cons_succ]
  refine wpAnyH_take (i := 3) (v := ?_) rfl (by kernel_rfl) (by kernel_rfl) (by kernel_rfl) (fun _ _ _ h => h) (Or.inl ⟨by rfl, ?_⟩) (by assumption) ?_
  rotate_left
  · (intro w hSw; have hc0 := HM1.out w hSw; go_simp; try (with_reducible rfl))
  try simp only [Act.put, List.getElem_toArray, List.getElem_cons_zero, List.getElem_cons_succ, List.setIfInBounds_toArray, List.set_cons_zero, List.set_cons_succ]
  refine wpAnyH_take (i := 4) (v := ?_) rfl (by kernel_rfl) (by kernel_rfl) (by kernel_rfl) (fun _ _ _ h => h) (Or.inl ⟨by rfl, ?_⟩) (by assumption) ?_
  rotate_left
  · (intro w hSw; go_simp; try (with_reducible rfl))
  try simp only [Act.put, List.getElem_toArray, List.getElem_cons_zero, List.getElem_cons_succ, List.setIfInBounds_toArray, List.set_cons_zero, List.set_cons_succ]
  refine wpAnyH_take (i := 5) (v := ?_) rfl (by kernel_rfl) (by kernel_rfl) (by kernel_rfl) (fun _ _ _ h => h) (Or.inl ⟨by rfl, ?_⟩) (by assumption) ?_
  rotate_left
  · (intro w hSw; go_simp; try (with_reducible rfl))
  try simp only [Act.put, List.getElem_toArray, List.getElem_cons_zero, List.getElem_cons_succ, List.setIfInBounds_toArray, List.set_cons_zero, List.set_cons_succ]
  refine wpAnyH_ready (rs := [6, 11]) (by kernel_rfl) (by simp) ?_
  refine AllReadyH.cons rfl (fun K hK => ?_) (AllReadyH.cons rfl (fun K hK => ?_) AllReadyH.nil)
  · go_simp
    refine (HKO.out _ hHeld).mono ?_
    rintro e wr6 ⟨rfl, hS6, hb6⟩
    go_wp2_with fail
    refine hK.out _ _ hS6 (fun hHeld => ?_)
    clear hK K
    try simp only [Act.put, List.getElem_toArray, List.getElem_cons_zero, List.getElem_cons_succ, List.setIfInBounds_toArray, List.set_cons_zero, List.set_cons_succ]
    clear hb6
    refine wpAnyH_take (i := 7) (v := ?_) rfl (by kernel_rfl) (by kernel_rfl) (by kernel_rfl) (fun _ _ _ h => h) (Or.inl ⟨by rfl, ?_⟩) (by assumption) ?_
    rotate_left
    · (intro w hSw; have hc0 := HL.out w hSw; go_simp; try (with_reducible rfl))
    try simp only [Act.put, List.getElem_toArray, List.getElem_cons_zero, List.getElem_cons_succ, List.setIfInBounds_toArray, List.set_cons_zero, List.set_cons_succ]
    refine wpAnyH_take (i := 8) (v := ?_) rfl (by kernel_rfl) (by kernel_rfl) (by kernel_rfl) (fun _ _ _ h => h) (Or.inl ⟨by rfl, ?_⟩) (by assumption) ?_
    rotate_left
    · (intro w hSw; go_simp; try (with_reducible rfl))
    try simp only [Act.put, List.getElem_toArray, List.getElem_cons_zero, List.getElem_cons_succ, List.setIfInBounds_toArray, List.set_cons_zero, List.set_cons_succ]
    refine wpAnyH_take (i := 9) (v := ?_) rfl (by kernel_rfl) (by kernel_rfl) (by kernel_rfl) (fun _ _ _ h => h) (Or.inl ⟨by rfl, ?_⟩) (by assumption) ?_
    rotate_left
    · (intro w hSw; go_simp; try (with_reducible rfl))
    try simp only [Act.put, List.getElem_toArray, List.getElem_cons_zero, List.getElem_cons_succ, List.setIfInBounds_toArray, List.set_cons_zero, List.set_cons_succ]
    refine wpAnyH_take (i := 10) (v := ?_) rfl (by kernel_rfl) (by kernel_rfl) (by kernel_rfl) (fun _ _ _ h => h) (Or.inl ⟨by rfl, ?_⟩) (by assumption) ?_
    rotate_left
    · (intro w hSw; go_simp; try (with_reducible rfl))
    try simp only [Act.put, List.getElem_toArray, List.getElem_cons_zero, List.getElem_cons_succ, List.setIfInBounds_toArray, List.set_cons_zero, List.set_cons_succ]
    refine wpAnyH_ready (rs := [11]) (by kernel_rfl) (by simp) ?_
    refine AllReadyH.cons rfl (fun K hK => ?_) AllReadyH.nil
    go_simp
    go_wp2_with fail
    have HZ := Lib.hid (CellsAt.new (wr6) 100 [.slice none 0 0, .int .i64 0])
    have HSW : Hid (S ((wr6).alloc (.cells #[.slice none 0 0, .int .i64 0] 100))) := Lib.hid (HSI.out _ _ hHeld ((Below.refl _ _).alloc (Nat.le_refl _) _))
    have HBG : Hid (w.heap.size ≤ (wr6).heap.size) := Lib.hid (HSB.out _ hHeld).size
    refine hK.out _ _ HSW.out (fun hHeld => ?_)
    clear hK K HSW
    try simp only [Act.put, List.getElem_toArray, List.getElem_cons_zero, List.getElem_cons_succ, List.setIfInBounds_toArray, List.set_cons_zero, List.set_cons_succ]
    generalize wr6.alloc (.cells #[.slice none 0 0, .int .i64 0] 100) = W1 at *
    generalize wr6.heap.size = B at *
    refine wpAnyH_ready (rs := [12]) (by kernel_rfl) (by simp) ?_
    refine AllReadyH.one rfl rfl (fun K hK => ?_)
    refine wp_store_ent (e := ⟨es0, et, ea, en, ec, eu⟩) HZ rfl _ _ rfl rfl rfl (fun V HV HVC => ?_)
    have HSV : Hid (S V) := Lib.hid (by rw [HV.out]; exact HSI2.out _ _ _ hHeld HBG.out)
    go_wp2_with fail
    refine hK.out _ _ HSV.out (fun hHeld => ?_)
    clear hK K
    try simp only [Act.put]
    refine wpAnyH_take (i := 13) (v := ?_) rfl (by kernel_rfl) (by kernel_rfl) (by kernel_rfl) (fun _ _ _ h => h) (Or.inl ⟨by rfl, ?_⟩) (by assumption) ?_
    rotate_left
    · (intro w hSw; go_simp; try (with_reducible rfl))
    try simp only [Act.put, List.getElem_toArray, List.getElem_cons_zero, List.getElem_cons_succ, List.setIfInBounds_toArray, List.set_cons_zero, List.set_cons_succ]
    refine wpAnyH_done (by kernel_rfl) ?_ _
    refine NoPanic.normal ?_
    cases hb with
    | false =>
      go_wp2_with fail
      go_ret2
      exact ⟨HTRI.out _ _ (.inl (by simp)) rfl, HSB.out _ hHeld⟩
    | true =>
      obtain ⟨rfl, had⟩ := HTT.out rfl
      go_wp2_with (first | refine load_ent (e := ⟨es0, et, ea, L.length, ec, eu⟩) HVC _ rfl rfl rfl ?_)
      refine (HOV _).out.mono ?_
      rintro e w7 ⟨rfl, hb7⟩
      have HB7 := Lib.hid (HSI.out _ _ hHeld hb7)
      have HV7 := Lib.hid (HVC.out.below hb7)
      clear hb7
      by_cases hu : eu ≤ now
      · have hd : decide (eu ≤ now) = true := decide_eq_true hu
        go_wp2_with fail
        go_ret2
        exact ⟨HTRI.out _ _ (.inr hu) rfl, HSB.out _ HB7.out⟩
      · have hd : decide (eu ≤ now) = false := decide_eq_false hu
        have h7 := HV7.out.cell 0 _ rfl
        have HCL := Lib.hid (cloneA_any ea ec L w7 (had.below (HSB.out _ HB7.out)) hl)
        clear had
        go_wp2_with fail
        refine HCL.out.mono ?_
        rintro e w8 ⟨v, rfl, hr8, hb8⟩
        obtain ⟨a8, c8, rfl, _⟩ := hr8.ads
        have HR8 := Lib.hid (hr8.mono (HSB.out _ HB7.out).size)
        have HB8 := Lib.hid (chain (HSB.out _ HB7.out) hb8)
        clear hr8 hb8 HCL
        go_wp2_with fail
        go_ret2
        exact ⟨HTRJ.out _ _ (by simp) (by omega) HR8.out, HB8.out⟩
  · go_simp
    go_wp2_with fail
    have HZ := Lib.hid (CellsAt.new (w.drew) 100 [.slice none 0 0, .int .i64 0])
    have HSW : Hid (S ((w.drew).alloc (.cells #[.slice none 0 0, .int .i64 0] 100))) := Lib.hid (HSI.out _ _ hHeld ((Below.refl _ _).alloc (Nat.le_refl _) _))
    have HBG : Hid (w.heap.size ≤ (w.drew).heap.size) := Lib.hid (HSB.out _ hHeld).size
    refine hK.out _ _ HSW.out (fun hHeld => ?_)
    clear hK K HSW
    try simp only [Act.put, List.getElem_toArray, List.getElem_cons_zero, List.getElem_cons_succ, List.setIfInBounds_toArray, List.set_cons_zero, List.set_cons_succ]
    refine wpAnyH_ready (rs := [6]) (by kernel_rfl) (by simp) ?_
    refine AllReadyH.cons rfl (fun K hK => ?_) AllReadyH.nil
    go_simp
    refine (HKO.out _ hHeld).mono ?_
    rintro e wr6 ⟨rfl, hS6, hb6⟩
    go_wp2_with fail
    refine hK.out _ _ hS6 (fun hHeld => ?_)
    clear hK K
    try simp only [Act.put, List.getElem_toArray, List.getElem_cons_zero, List.getElem_cons_succ, List.setIfInBounds_toArray, List.set_cons_zero, List.set_cons_succ]
    have HZ6 : Hid (CellsAt wr6 w.heap.size [.slice none 0 0, .int .i64 0]) := Lib.hid (HZ.out.below hb6)
    clear hb6 HZ
    refine wpAnyH_take (i := 7) (v := ?_) rfl (by kernel_rfl) (by kernel_rfl) (by kernel_rfl) (fun _ _ _ h => h) (Or.inl ⟨by rfl, ?_⟩) (by assumption) ?_
    rotate_left
    · (intro w hSw; have hc0 := HL.out w hSw; go_simp; try (with_reducible rfl))
    try simp only [Act.put, List.getElem_toArray, List.getElem_cons_zero, List.getElem_cons_succ, List.setIfInBounds_toArray, List.set_cons_zero, List.set_cons_succ]
    refine wpAnyH_take (i := 8) (v := ?_) rfl (by kernel_rfl) (by kernel_rfl) (by kernel_rfl) (fun _ _ _ h => h) (Or.inl ⟨by rfl, ?_⟩) (by assumption) ?_
    rotate_left
    · (intro w hSw; go_simp; try (with_reducible rfl))
    try simp only [Act.put, List.getElem_toArray, List.getElem_cons_zero, List.getElem_cons_succ, List.setIfInBounds_toArray, List.set_cons_zero, List.set_cons_succ]
    refine wpAnyH_take (i := 9) (v := ?_) rfl (by kernel_rfl) (by kernel_rfl) (by kernel_rfl) (fun _ _ _ h => h) (Or.inl ⟨by rfl, ?_⟩) (by assumption) ?_
    rotate_left
    · (intro w hSw; go_simp; try (with_reducible rfl))
    try simp only [Act.put, List.getElem_toArray, List.getElem_cons_zero, List.getElem_cons_succ, List.setIfInBounds_toArray, List.set_cons_zero, List.set_cons_succ]
    refine wpAnyH_take (i := 10) (v := ?_) rfl (by kernel_rfl) (by kernel_rfl) (by kernel_rfl) (fun _ _ _ h => h) (Or.inl ⟨by rfl, ?_⟩) (by assumption) ?_
    rotate_left
    · (intro w hSw; go_simp; try (with_reducible rfl))
    try simp only [Act.put, List.getElem_toArray, List.getElem_cons_zero, List.getElem_cons_succ, List.setIfInBounds_toArray, List.set_cons_zero, List.set_cons_succ]
    refine wpAnyH_ready (rs := [12]) (by kernel_rfl) (by simp) ?_
    refine AllReadyH.one rfl rfl (fun K hK => ?_)
    refine wp_store_ent (e := ⟨es0, et, ea, en, ec, eu⟩) HZ6 rfl _ _ rfl rfl rfl (fun V HV HVC => ?_)
    have HSV : Hid (S V) := Lib.hid (by rw [HV.out]; exact HSI2.out _ _ _ hHeld HBG.out)
    go_wp2_with fail
    refine hK.out _ _ HSV.out (fun hHeld => ?_)
    clear hK K
    try simp only [Act.put]
    refine wpAnyH_take (i := 13) (v := ?_) rfl (by kernel_rfl) (by kernel_rfl) (by kernel_rfl) (fun _ _ _ h => h) (Or.inl ⟨by rfl, ?_⟩) (by assumption) ?_
    rotate_left
    · (intro w hSw; go_simp; try (with_reducible rfl))
    try simp only [Act.put, List.getElem_toArray, List.getElem_cons_zero, List.getElem_cons_succ, List.setIfInBounds_toArray, List.set_cons_zero, List.set_cons_succ]
    refine wpAnyH_done (by kernel_rfl) ?_ _
    refine NoPanic.normal ?_
    cases hb with
    | false =>
      go_wp2_with fail
      go_ret2
      exact ⟨HTRI.out _ _ (.inl (by simp)) rfl, HSB.out _ hHeld⟩
    | true =>
      obtain ⟨rfl, had⟩ := HTT.out rfl
      go_wp2_with (first | refine load_ent (e := ⟨es0, et, ea, L.length, ec, eu⟩) HVC _ rfl rfl rfl ?_)
      refine (HOV _).out.mono ?_
      rintro e w7 ⟨rfl, hb7⟩
      have HB7 := Lib.hid (HSI.out _ _ hHeld hb7)
      have HV7 := Lib.hid (HVC.out.below hb7)
      clear hb7
      by_cases hu : eu ≤ now
      · have hd : decide (eu ≤ now) = true := decide_eq_true hu
        go_wp2_with fail
        go_ret2
        exact ⟨HTRI.out _ _ (.inr hu) rfl, HSB.out _ HB7.out⟩
      · have hd : decide (eu ≤ now) = false := decide_eq_false hu
        have h7 := HV7.out.cell 0 _ rfl
        have HCL := Lib.hid (cloneA_any ea ec L w7 (had.below (HSB.out _ HB7.out)) hl)
        clear had
        go_wp2_with fail
        refine HCL.out.mono ?_
        rintro e w8 ⟨v, rfl, hr8, hb8⟩
        obtain ⟨a8, c8, rfl, _⟩ := hr8.ads
        have HR8 := Lib.hid (hr8.mono (HSB.out _ HB7.out).size)
        have HB8 := Lib.hid (chain (HSB.out _ HB7.out) hb8)
        clear hr8 hb8 HCL
        go_wp2_with fail
        go_ret2
        exact ⟨HTRJ.out _ _ (by simp) (by omega) HR8.out, HB8.out⟩
end Go.Proofs.Ytedmkdjijhflnaa
/- The pieces of a text, read off its bytes: what a text is cut into, whatever it was put together of. -/
namespace Go.Proofs.Ytedmkdjijhflnaa
open Go.RowKit
set_option linter.unusedVariables false
set_option maxRecDepth 20000

/-- Bytes, as a text. -/
def ofL (l : List UInt8) : ByteArray := ⟨l.toArray⟩
theorem ofL_data (l : List UInt8) : (ofL l).data.toList = l := by simp [ofL]
theorem ofL_size (l : List UInt8) : (ofL l).size = l.length := by simp [ofL, ByteArray.size]
theorem ofL_append (l m : List UInt8) : ofL l ++ ofL m = ofL (l ++ m) := bytes_ext (by rw [data_append, ofL_data, ofL_data, ofL_data])
theorem eq_ofL {s : ByteArray} {l : List UInt8} (h : s.data.toList = l) : s = ofL l := bytes_ext (by rw [h, ofL_data])

def cutL (sep : Nat) : List UInt8 → List (List UInt8)
  | [] => [[]]
  | c :: l => if c.toNat = sep then [] :: cutL sep l else
    match cutL sep l with
    | [] => [[c]]
    | x :: r => (c :: x) :: r
theorem cutL_none (sep : Nat) : ∀ l : List UInt8, (∀ c ∈ l, c.toNat ≠ sep) → cutL sep l = [l]
  | [], _ => rfl
  | c :: l, h => by
    rw [cutL, if_neg (h c (by simp)), cutL_none sep l (fun x hx => h x (by simp [hx]))]
theorem cutL_first (sep : Nat) (c : UInt8) (hc : c.toNat = sep) (r : List UInt8) : ∀ l : List UInt8, (∀ c ∈ l, c.toNat ≠ sep) → cutL sep (l ++ c :: r) = l :: cutL sep r
  | [], _ => by rw [List.nil_append, cutL, if_pos hc]
  | x :: l, h => by
    rw [List.cons_append, cutL, if_neg (h x (by simp)), cutL_first sep c hc r l (fun x hx => h x (by simp [hx]))]

theorem sp_cut (s : ByteArray) (sep : Nat) : ∀ k, k ≤ s.size →
    cutL sep s.data.toList = (sp s sep k).1.map (fun p => p.data.toList) ++ cutL sep (s.data.toList.drop (sp s sep k).2) ∧ ∀ j (hj : j < s.size), (sp s sep k).2 ≤ j → j < k → (s[j]).toNat ≠ sep
  | 0, _ => ⟨by simp [sp], fun j _ _ h => by omega⟩
  | k + 1, hk => by
    obtain ⟨h1, h2⟩ := sp_cut s sep k (by omega)
    have hle := sp_le s sep k
    have hkl : k < s.data.toList.length := by simp; omega
    by_cases hit : (s[k]).toNat = sep
    · rw [sp_hit s sep k (by omega) hit]
      refine ⟨?_, fun j _ h3 h4 => by simp at h3; omega⟩
      rw [h1]
      have e : s.data.toList.drop (sp s sep k).2 = (s.extract (sp s sep k).2 k).data.toList ++ s[k] :: s.data.toList.drop (k + 1) := by
        rw [data_extract]
        have e1 : s.data.toList.drop k = s[k] :: s.data.toList.drop (k + 1) := by
          rw [List.drop_eq_getElem_cons hkl]; rfl
        rw [← e1]
        have e2 : s.data.toList.drop k = (s.data.toList.drop (sp s sep k).2).drop (k - (sp s sep k).2) := by
          rw [List.drop_drop]; congr 1; omega
        rw [e2, List.take_append_drop]
      rw [e, cutL_first sep _ hit _ _ ?_]
      · simp
      · intro c hc
        rw [data_extract] at hc
        obtain ⟨i, hi, rfl⟩ := List.getElem_of_mem hc
        have hi2 : i < k - (sp s sep k).2 := by simp at hi; omega
        have := h2 ((sp s sep k).2 + i) (by omega) (by omega) (by omega)
        rw [getElem_data] at this
        simpa using this
    · rw [sp_miss s sep k (by omega) hit]
      refine ⟨h1, fun j hj h3 h4 => ?_⟩
      by_cases hjk : j = k
      · subst hjk; exact hit
      · exact h2 j hj h3 (by omega)
theorem pieces_cut (s : ByteArray) (sep : Nat) : pieces s sep = (cutL sep s.data.toList).map ofL := by
  obtain ⟨h1, h2⟩ := sp_cut s sep s.size (Nat.le_refl _)
  have hle := sp_le s sep s.size
  have e : (s.extract (sp s sep s.size).2 s.size).data.toList = s.data.toList.drop (sp s sep s.size).2 := by
    rw [data_extract]
    apply List.take_of_length_le
    simp
  have h3 : cutL sep (s.data.toList.drop (sp s sep s.size).2) = [s.data.toList.drop (sp s sep s.size).2] := by
    apply cutL_none
    intro c hc
    obtain ⟨i, hi, rfl⟩ := List.getElem_of_mem hc
    have hi2 : (sp s sep s.size).2 + i < s.size := by simp at hi; omega
    have := h2 ((sp s sep s.size).2 + i) hi2 (by omega) hi2
    rw [getElem_data] at this
    simpa using this
  rw [h1, h3, List.map_append, List.map_map]
  unfold pieces
  have e2 : (ofL ∘ fun p : ByteArray => p.data.toList) = id := by
    funext p
    simp [ofL]
  rw [e2, List.map_id]
  congr 1
  simp only [List.map_cons, List.map_nil]
  rw [← e, ← eq_ofL rfl]
theorem pieces_ofL (l : List UInt8) (sep : Nat) : pieces (ofL l) sep = (cutL sep l).map ofL := by rw [pieces_cut, ofL_data]
end Go.Proofs.Ytedmkdjijhflnaa
/- Names: their labels, the first one, what is left behind it. Plain facts. -/
namespace Go.Proofs.Ytedmkdjijhflnaa
open Go.RowKit
set_option linter.unusedVariables false
set_option maxRecDepth 20000

/-- Up to the first dot. -/
def headL : List UInt8 → List UInt8
  | [] => []
  | c :: l => if c.toNat = 46 then [] else c :: headL l
/-- Behind the first dot. -/
def tailL : List UInt8 → List UInt8
  | [] => []
  | c :: l => if c.toNat = 46 then l else tailL l
def firstB (s : ByteArray) : ByteArray := ofL (headL s.data.toList)
def parB (s : ByteArray) : ByteArray := ofL (tailL s.data.toList)
theorem u8_dot {c : UInt8} (h : c.toNat = 46) : c = 46 := UInt8.toNat_inj.1 h
theorem head_tail : ∀ l : List UInt8, ((∀ c ∈ l, c.toNat ≠ 46) ∧ headL l = l ∧ tailL l = []) ∨ (l = headL l ++ 46 :: tailL l ∧ ∀ c ∈ headL l, c.toNat ≠ 46)
  | [] => .inl ⟨by simp, rfl, rfl⟩
  | c :: l => by
    by_cases h : c.toNat = 46
    · right
      have hc := u8_dot h
      subst hc
      unfold headL tailL
      rw [if_pos h, if_pos h]
      exact ⟨rfl, by simp⟩
    · unfold headL tailL
      rw [if_neg h, if_neg h]
      rcases head_tail l with ⟨h1, h2, h3⟩ | ⟨h1, h2⟩
      · left
        refine ⟨fun x hx => ?_, by rw [h2], h3⟩
        rcases List.mem_cons.1 hx with rfl | hx
        · exact h
        · exact h1 x hx
      · right
        refine ⟨by rw [List.cons_append, ← h1], fun x hx => ?_⟩
        rcases List.mem_cons.1 hx with rfl | hx
        · exact h
        · exact h2 x hx
theorem data_size (s : ByteArray) : s.data.toList.length = s.size := Array.length_toList
theorem pieces_head (s : ByteArray) : (pieces s 46 = [s] ∧ firstB s = s ∧ parB s = ⟨#[]⟩) ∨ (pieces s 46 = firstB s :: pieces (parB s) 46 ∧ s.data.toList = (firstB s).data.toList ++ 46 :: (parB s).data.toList) := by
  rw [pieces_cut]
  rcases head_tail s.data.toList with ⟨h1, h2, h3⟩ | ⟨h1, h2⟩
  · left
    refine ⟨?_, ?_, ?_⟩
    · rw [cutL_none 46 _ h1]
      exact congrArg (· :: []) (eq_ofL rfl).symm
    · unfold firstB; rw [h2]; exact (eq_ofL rfl).symm
    · unfold parB; rw [h3]; rfl
  · right
    have e1 : (firstB s).data.toList = headL s.data.toList := ofL_data _
    have e2 : (parB s).data.toList = tailL s.data.toList := ofL_data _
    refine ⟨?_, by rw [e1, e2]; exact h1⟩
    rw [pieces_cut, e2]
    have := cutL_first 46 46 rfl (tailL s.data.toList) (headL s.data.toList) h2
    rw [← h1] at this
    rw [this]
    rfl
theorem par_lt (s : ByteArray) (h : 0 < s.size) : (parB s).size < s.size := by
  rcases pieces_head s with ⟨_, _, h3⟩ | ⟨_, h2⟩
  · rw [h3]; exact h
  · have := congrArg List.length h2
    rw [List.length_append, List.length_cons, data_size, data_size, data_size] at this
    omega
theorem par_le (s : ByteArray) : (parB s).size ≤ s.size := by
  rcases Nat.eq_zero_or_pos s.size with h | h
  · have : s.data.toList = [] := List.eq_nil_of_length_eq_zero (by rw [data_size]; exact h)
    unfold parB
    rw [this]
    exact Nat.zero_le _
  · exact Nat.le_of_lt (par_lt s h)
theorem first_le (s : ByteArray) : (firstB s).size ≤ s.size := by
  rcases pieces_head s with ⟨_, h2, _⟩ | ⟨_, h2⟩
  · rw [h2]; exact Nat.le_refl _
  · have := congrArg List.length h2
    rw [List.length_append, data_size, data_size] at this
    omega
theorem empty_of {s : ByteArray} (h : s.size = 0) : s = ⟨#[]⟩ := bytes_ext (List.eq_nil_of_length_eq_zero (by rw [data_size]; exact h))
theorem par_empty {s : ByteArray} (h : s.size = 0) : parB s = ⟨#[]⟩ := by rw [empty_of h]; rfl
theorem labels_empty {s : ByteArray} (h : s.size = 0) : labelsB s = [] := by unfold labelsB; rw [if_pos h]
theorem labels_pieces {s : ByteArray} (h : 0 < s.size) : labelsB s = pieces s 46 := by unfold labelsB; rw [if_neg (by omega)]
theorem pieces_empty : pieces ⟨#[]⟩ 46 = [⟨#[]⟩] := by kernel_rfl
theorem labels_nil_iff (s : ByteArray) : labelsB s = [] ↔ s.size = 0 := by
  constructor
  · intro h
    apply Classical.byContradiction
    intro hn
    rw [labels_pieces (by omega)] at h
    have := pieces_pos s 46
    rw [h] at this
    exact absurd this (by simp)
  · exact labels_empty
theorem joinB_one (p : ByteArray) : joinB [p] ⟨#[46]⟩ = p := bytes_ext (by simp [joinB, joinTo])
theorem rest_zero (s : ByteArray) : restB s 0 = s := by
  unfold restB
  rcases Nat.eq_zero_or_pos s.size with h | h
  · rw [labels_empty h, if_pos (by simp), empty_of h]
  · rw [labels_pieces h, if_neg (by have := pieces_pos s 46; omega), List.drop_zero]
    exact pieces_join s 46 (by decide)
theorem rest_succ (s : ByteArray) (k : Nat) : restB s (k + 1) = restB (parB s) k := by
  rcases Nat.eq_zero_or_pos s.size with h | h
  · rw [par_empty h]
    unfold restB
    rw [labels_empty h, labels_empty (show (⟨#[]⟩ : ByteArray).size = 0 from rfl), if_pos (by simp), if_pos (by simp)]
  · rcases pieces_head s with ⟨h1, _, h3⟩ | ⟨h1, _⟩
    · rw [h3]
      unfold restB
      rw [labels_pieces h, h1, labels_empty (show (⟨#[]⟩ : ByteArray).size = 0 from rfl), if_pos (by simp), if_pos (by simp)]
    · unfold restB
      rw [labels_pieces h, h1]
      rcases Nat.eq_zero_or_pos (parB s).size with hp | hp
      · rw [labels_empty hp, empty_of hp, pieces_empty]
        rw [if_pos (show ([] : List ByteArray).length ≤ k by simp)]
        rcases k with _ | k
        · rw [if_neg (by simp)]
          exact joinB_one _
        · rw [if_pos (by simp)]
      · rw [labels_pieces hp]
        by_cases hk : (pieces (parB s) 46).length ≤ k
        · rw [if_pos hk, if_pos (by simp; omega)]
        · rw [if_neg hk, if_neg (by simp; omega), List.drop_succ_cons]
theorem rest_par : ∀ (k : Nat) (s : ByteArray), restB s (k + 1) = parB (restB s k)
  | 0, s => by rw [rest_succ, rest_zero, rest_zero]
  | k + 1, s => by rw [rest_succ, rest_par k (parB s), ← rest_succ]
theorem rest_le (s : ByteArray) : ∀ k, (restB s k).size ≤ s.size
  | 0 => by rw [rest_zero]; exact Nat.le_refl _
  | k + 1 => by rw [rest_par]; exact Nat.le_trans (par_le _) (rest_le s k)
theorem rest_out (s : ByteArray) (k : Nat) (h : (labelsB s).length ≤ k) : restB s k = ⟨#[]⟩ := by unfold restB; rw [if_pos h]
theorem rest_stay (s : ByteArray) (k : Nat) (h : (restB s k).size = 0) : ∀ m, restB s (k + m) = ⟨#[]⟩
  | 0 => empty_of h
  | m + 1 => by rw [← Nat.add_assoc, rest_par, rest_stay s k h m]; rfl
/-- No label is empty. -/
def Full (s : ByteArray) : Prop := ∀ p ∈ labelsB s, 0 < p.size
theorem labels_cons {s : ByteArray} (hf : Full s) (h : 0 < s.size) : labelsB s = firstB s :: labelsB (parB s) := by
  rcases pieces_head s with ⟨h1, h2, h3⟩ | ⟨h1, _⟩
  · rw [h3, h2, labels_pieces h, h1, labels_empty (show (⟨#[]⟩ : ByteArray).size = 0 from rfl)]
  · rcases Nat.eq_zero_or_pos (parB s).size with hp | hp
    · exfalso
      unfold Full at hf
      rw [labels_pieces h, h1, empty_of hp, pieces_empty] at hf
      exact absurd (hf ⟨#[]⟩ (by simp)) (by decide)
    · rw [labels_pieces h, h1, labels_pieces hp]
theorem Full.par {s : ByteArray} (hf : Full s) : Full (parB s) := by
  rcases Nat.eq_zero_or_pos s.size with h | h
  · rw [par_empty h]
    unfold Full
    rw [labels_empty (show (⟨#[]⟩ : ByteArray).size = 0 from rfl)]
    intro p hp
    cases hp
  · intro p hp
    exact hf p (by rw [labels_cons hf h]; exact List.mem_cons_of_mem _ hp)
theorem Full.rest {s : ByteArray} (hf : Full s) : ∀ k, Full (restB s k)
  | 0 => by rw [rest_zero]; exact hf
  | k + 1 => by rw [rest_par]; exact (hf.rest k).par
theorem labels_rest : ∀ (k : Nat) {s : ByteArray}, Full s → labelsB (restB s k) = (labelsB s).drop k
  | 0, s, _ => by rw [rest_zero, List.drop_zero]
  | k + 1, s, hf => by
    rw [rest_succ, labels_rest k hf.par]
    rcases Nat.eq_zero_or_pos s.size with h | h
    · rw [par_empty h, labels_empty h, labels_empty (show (⟨#[]⟩ : ByteArray).size = 0 from rfl), List.drop_nil, List.drop_nil]
    · rw [labels_cons hf h, List.drop_succ_cons]
theorem rest_pos {s : ByteArray} (hf : Full s) (k : Nat) : 0 < (restB s k).size ↔ k < (labelsB s).length := by
  have h1 := labels_rest k hf
  have h2 := labels_nil_iff (restB s k)
  rw [h1, List.drop_eq_nil_iff] at h2
  omega
theorem label_first {s : ByteArray} (hf : Full s) (k : Nat) (h : k < (labelsB s).length) : (labelsB s).getD k ⟨#[]⟩ = firstB (restB s k) := by
  have h1 := labels_rest k hf
  rw [labels_cons (hf.rest k) ((rest_pos hf k).2 h), List.drop_eq_getElem_cons h] at h1
  rw [List.getD_eq_getElem?_getD, List.getElem?_eq_getElem h]
  exact (List.cons.inj h1).1.symm
/-- How many bytes a name has. -/
theorem joinTo_size2 (l : List ByteArray) : ∀ k, (joinTo l ⟨#[46]⟩ k).size + (if k = 0 then 1 else 2) = sizeTo l k
  | 0 => rfl
  | k + 1 => by
    have h := joinTo_size2 l k
    have e : (joinTo l ⟨#[46]⟩ (k + 1)).size = (if 0 < k then (joinTo l ⟨#[46]⟩ k).size + 1 else (joinTo l ⟨#[46]⟩ k).size) + (l.getD k ⟨#[]⟩).size := by
      rw [joinTo, ByteArray.size_append]
      split
      · rw [ByteArray.size_append]; rfl
      · rfl
    have e2 : sizeTo l (k + 1) = sizeTo l k + 1 + (l.getD k ⟨#[]⟩).size := rfl
    rw [e, e2, if_neg (Nat.succ_ne_zero k)]
    split at h <;> split <;> omega
theorem size_labels (s : ByteArray) : sizeL (labelsB s) = if s.size = 0 then 1 else s.size + 2 := by
  by_cases h : s.size = 0
  · rw [if_pos h, labels_empty h]; rfl
  · rw [if_neg h, labels_pieces (by omega)]
    have h1 := joinTo_size2 (pieces s 46) (pieces s 46).length
    have h2 := pieces_join s 46 (by decide)
    have h3 := pieces_pos s 46
    unfold joinB at h2
    rw [if_neg (by omega)] at h1
    have h4 : (joinTo (pieces s 46) ⟨#[46]⟩ (pieces s 46).length).size = s.size := by
      have := congrArg ByteArray.size h2
      exact this
    unfold sizeL
    omega
theorem may_is (s : ByteArray) : mayN s = decide (s.size ≤ 253 ∧ ∀ k, k < (labelsB s).length → 1 ≤ ((labelsB s).getD k ⟨#[]⟩).size ∧ ((labelsB s).getD k ⟨#[]⟩).size ≤ 63) := by
  unfold mayN
  apply decide_eq_decide.2
  unfold MayL
  rw [size_labels]
  constructor
  · rintro ⟨h1, h2⟩
    refine ⟨?_, h1⟩
    split at h2 <;> omega
  · rintro ⟨h1, h2⟩
    refine ⟨h2, ?_⟩
    split <;> omega
theorem may_full {s : ByteArray} (h : mayN s = true) : Full s := by
  intro p hp
  obtain ⟨k, hk, rfl⟩ := List.getElem_of_mem hp
  have := ((of_decide_eq_true h : MayL _).1 k hk).1
  rw [List.getD_eq_getElem?_getD, List.getElem?_eq_getElem hk] at this
  exact this
theorem may_small {s : ByteArray} (h : mayN s = true) : s.size ≤ 253 := by
  rw [may_is] at h
  exact (of_decide_eq_true h).1
theorem may_label {s : ByteArray} (h : mayN s = true) : ∀ p ∈ labelsB s, 1 ≤ p.size ∧ p.size ≤ 63 := by
  intro p hp
  obtain ⟨k, hk, rfl⟩ := List.getElem_of_mem hp
  have := ((of_decide_eq_true h : MayL _).1 k hk)
  rw [List.getD_eq_getElem?_getD, List.getElem?_eq_getElem hk] at this
  exact this
theorem may_of {s : ByteArray} (h1 : s.size ≤ 253) (h2 : ∀ p ∈ labelsB s, 1 ≤ p.size ∧ p.size ≤ 63) : mayN s = true := by
  rw [may_is]
  refine decide_eq_true ⟨h1, fun k hk => ?_⟩
  rw [List.getD_eq_getElem?_getD, List.getElem?_eq_getElem hk]
  exact h2 _ (List.getElem_mem hk)
theorem may_rest {s : ByteArray} (h : mayN s = true) (k : Nat) : mayN (restB s k) = true := by
  refine may_of (Nat.le_trans (rest_le s k) (may_small h)) (fun p hp => may_label h p ?_)
  rw [labels_rest k (may_full h)] at hp
  exact List.mem_of_mem_drop hp
/-- The pieces have no dot. -/
theorem cutL_free : ∀ (l : List UInt8), ∀ p ∈ cutL 46 l, ∀ c ∈ p, c.toNat ≠ 46
  | [] => by simp [cutL]
  | x :: l => by
    have ih := cutL_free l
    unfold cutL
    split
    · intro p hp
      rcases List.mem_cons.1 hp with rfl | hp
      · simp
      · exact ih p hp
    · rename_i hx
      split
      · intro p hp c hc
        rw [List.mem_singleton.1 hp] at hc
        rw [List.mem_singleton.1 hc]
        exact hx
      · rename_i y r he
        rw [he] at ih
        intro p hp
        rcases List.mem_cons.1 hp with rfl | hp
        · intro c hc
          rcases List.mem_cons.1 hc with rfl | hc
          · exact hx
          · exact ih y (by simp) c hc
        · exact ih p (List.mem_cons_of_mem _ hp)
def NoDot (p : ByteArray) : Prop := ∀ c ∈ p.data.toList, c.toNat ≠ 46
theorem labels_free (s : ByteArray) : ∀ p ∈ labelsB s, NoDot p := by
  intro p hp
  unfold labelsB at hp
  split at hp
  · cases hp
  · rw [pieces_cut] at hp
    obtain ⟨q, hq, rfl⟩ := List.mem_map.1 hp
    unfold NoDot
    rw [ofL_data]
    exact cutL_free _ q hq
/-- Joined labels. -/
theorem joinTo_data (l : List ByteArray) : ∀ k, k ≤ l.length → (joinTo l ⟨#[46]⟩ k).data.toList = Lib.join ((l.take k).map (·.data.toList)) [46]
  | 0, _ => by rw [List.take_zero]; rfl
  | k + 1, h => by
    have ih := joinTo_data l k (by omega)
    have hk : k < l.length := h
    rw [List.take_succ_eq_append_getElem hk, List.map_append, joinTo, data_append]
    have e : l.getD k ⟨#[]⟩ = l[k] := by rw [List.getD_eq_getElem?_getD, List.getElem?_eq_getElem hk]; rfl
    rw [e]
    by_cases h0 : 0 < k
    · rw [if_pos h0, data_append, ih]
      obtain ⟨x, r, hx⟩ : ∃ x r, (l.take k).map (·.data.toList) = x :: r := by
        cases hh : (l.take k).map (·.data.toList) with
        | nil =>
          have := congrArg List.length hh
          rw [List.length_map, List.length_take, List.length_nil] at this
          omega
        | cons a t => exact ⟨a, t, rfl⟩
      rw [hx, List.cons_append, Lib.join_cons, Lib.join_cons]
      simp [Lib.joinTail]
    · obtain rfl : k = 0 := by omega
      rw [if_neg h0, ih]
      simp [Lib.join_one, Lib.join_nil]
theorem joinB_data (l : List ByteArray) : (joinB l ⟨#[46]⟩).data.toList = Lib.join (l.map (·.data.toList)) [46] := by
  have := joinTo_data l l.length (Nat.le_refl _)
  rw [List.take_of_length_le (Nat.le_refl _)] at this
  exact this
theorem cut_join : ∀ (r : List (List UInt8)) (x : List UInt8), (∀ c ∈ x, c.toNat ≠ 46) → (∀ p ∈ r, ∀ c ∈ p, c.toNat ≠ 46) → cutL 46 (x ++ Lib.joinTail [46] r) = x :: r
  | [], x, hx, _ => by simp only [Lib.joinTail, List.map_nil, List.flatten_nil, List.append_nil]; exact cutL_none 46 x hx
  | y :: r, x, hx, hr => by
    have e : Lib.joinTail [46] (y :: r) = 46 :: (y ++ Lib.joinTail [46] r) := by simp [Lib.joinTail]
    rw [e, cutL_first 46 46 rfl _ x hx, cut_join r y (hr y (by simp)) (fun p hp => hr p (List.mem_cons_of_mem _ hp))]
theorem labels_join (l : List ByteArray) (h1 : ∀ p ∈ l, 0 < p.size) (h2 : ∀ p ∈ l, NoDot p) : labelsB (joinB l ⟨#[46]⟩) = l := by
  cases l with
  | nil => exact labels_empty rfl
  | cons x r =>
    have hd := joinB_data (x :: r)
    rw [List.map_cons, Lib.join_cons] at hd
    have hs : 0 < (joinB (x :: r) ⟨#[46]⟩).size := by
      rw [← data_size, hd, List.length_append, data_size]
      have := h1 x (by simp)
      omega
    rw [labels_pieces hs, pieces_cut, hd, cut_join _ _ (h2 x (by simp)) (fun p hp => by
      obtain ⟨q, hq, rfl⟩ := List.mem_map.1 hp
      exact h2 q (List.mem_cons_of_mem _ hq)), List.map_cons, List.map_map]
    have e2 : (ofL ∘ fun p : ByteArray => p.data.toList) = id := by funext p; simp [ofL]
    rw [e2, List.map_id]
    exact congrArg (· :: r) (eq_ofL rfl).symm
/-- A dot in a text. -/
theorem hasTo_free {s : ByteArray} : ∀ k, k ≤ s.size → (hasTo s 46 k = false ↔ ∀ j, j < k → (s.data.toList.getD j 0).toNat ≠ 46)
  | 0, _ => ⟨fun _ j hj => absurd hj (by omega), fun _ => rfl⟩
  | k + 1, h => by
    have ih := hasTo_free (s := s) k (by omega)
    rw [hasTo, Bool.or_eq_false_iff, ih, decide_eq_false_iff_not]
    constructor
    · rintro ⟨h1, h2⟩ j hj
      by_cases hjk : j < k
      · exact h1 j hjk
      · obtain rfl : j = k := by omega
        exact h2
    · intro h1
      exact ⟨fun j hj => h1 j (by omega), h1 k (by omega)⟩
theorem has_free (s : ByteArray) : has8 s 46 = false ↔ NoDot s := by
  unfold has8
  rw [hasTo_free s.size (Nat.le_refl _)]
  constructor
  · intro h c hc
    obtain ⟨j, hj, rfl⟩ := List.getElem_of_mem hc
    have := h j (by rw [← data_size]; exact hj)
    rw [List.getD_eq_getElem?_getD, List.getElem?_eq_getElem hj] at this
    exact this
  · intro h j hj
    have hj2 : j < s.data.toList.length := by rw [data_size]; exact hj
    rw [List.getD_eq_getElem?_getD, List.getElem?_eq_getElem hj2]
    exact h _ (List.getElem_mem hj2)
theorem index_dot : ∀ l : List UInt8, (Lib.indexByte l 46 = -1 ∧ (∀ c ∈ l, c.toNat ≠ 46) ∧ headL l = l ∧ tailL l = []) ∨ (∃ i : Nat, Lib.indexByte l 46 = i ∧ i < l.length ∧ headL l = l.take i ∧ tailL l = l.drop (i + 1) ∧ ∃ c ∈ l, c.toNat = 46)
  | [] => .inl ⟨rfl, by simp, rfl, rfl⟩
  | x :: l => by
    unfold Lib.indexByte headL tailL
    by_cases hx : x.toNat = 46
    · have := u8_dot hx
      subst this
      right
      refine ⟨0, by simp, by simp, by simp, by simp, 46, by simp, rfl⟩
    · have hne : (x == 46) = false := by rw [beq_eq_false_iff_ne]; intro h; exact hx (by rw [h]; rfl)
      rw [hne, if_neg hx, if_neg hx]
      rcases index_dot l with ⟨h1, h2, h3, h4⟩ | ⟨i, h1, h2, h3, h4, c, h5, h6⟩
      · left
        rw [h1]
        refine ⟨rfl, fun c hc => ?_, by rw [h3], h4⟩
        rcases List.mem_cons.1 hc with rfl | hc
        · exact hx
        · exact h2 c hc
      · right
        rw [h1]
        refine ⟨i + 1, ?_, by simp; omega, by rw [h3]; rfl, by rw [h4]; rfl, c, List.mem_cons_of_mem _ h5, h6⟩
        have : ((i : Int) == -1) = false := by rw [beq_eq_false_iff_ne]; omega
        rw [this]
        simp
theorem contains_dot (s : ByteArray) : decide (0 ≤ Lib.indexByte s.data.toList 46) = has8 s 46 := by
  rcases index_dot s.data.toList with ⟨h1, h2, _, _⟩ | ⟨i, h1, _, _, _, c, h5, h6⟩
  · rw [h1, (has_free s).2 h2]; rfl
  · rw [h1]
    have : has8 s 46 ≠ false := fun h => (has_free s).1 h c h5 h6
    rw [Bool.of_not_eq_false this]
    exact decide_eq_true (by omega)
/-- Under, as a loop over parents asks it. -/
theorem like_empty (t : ByteArray) : likeB ⟨#[]⟩ t = decide (t.size = 0) := by
  by_cases h : t.size = 0
  · rw [decide_eq_true h, empty_of h]; exact (likeB_iff _ _).2 rfl
  · rw [decide_eq_false h]; exact likeB_size (fun e => h e.symm)
theorem under_hit {s t : ByteArray} {k : Nat} (hk : 0 < (restB s k).size) (h : likeB (restB s k) t = true) : underB s t = true := by
  refine decide_eq_true ⟨k, ?_, h⟩
  apply Classical.byContradiction
  intro hn
  rw [rest_out s k (by omega)] at hk
  exact absurd hk (by decide)
theorem under_end {s t : ByteArray} {k : Nat} (hk : (restB s k).size = 0) (h : ∀ j, j < k → likeB (restB s j) t = false) : underB s t = decide (t.size = 0) := by
  by_cases ht : t.size = 0
  · rw [decide_eq_true ht]
    refine decide_eq_true ⟨(labelsB s).length, by omega, ?_⟩
    rw [rest_out s _ (Nat.le_refl _), like_empty]
    exact decide_eq_true ht
  · rw [decide_eq_false ht]
    refine decide_eq_false (fun ⟨j, _, hj⟩ => ?_)
    by_cases hjk : j < k
    · rw [h j hjk] at hj; cases hj
    · have := rest_stay s k hk (j - k)
      rw [show k + (j - k) = j by omega] at this
      rw [this, like_empty, decide_eq_false ht] at hj
      cases hj
theorem like_self (t : ByteArray) : likeB t t = true := (likeB_iff t t).2 rfl
theorem under_self (s : ByteArray) : underB s s = true := decide_eq_true ⟨0, by omega, by rw [rest_zero]; exact like_self s⟩
theorem under_none (s : ByteArray) : underB s ⟨#[]⟩ = true := decide_eq_true ⟨(labelsB s).length, by omega, by rw [rest_out s _ (Nat.le_refl _)]; exact like_self _⟩
theorem under_rest (s : ByteArray) (k : Nat) : underB s (restB s k) = true := by
  by_cases h : k < (labelsB s).length + 1
  · exact decide_eq_true ⟨k, h, like_self _⟩
  · rw [rest_out s k (by omega)]; exact under_none s
theorem under_longer {s t : ByteArray} (h : s.size < t.size) : underB s t = false := by
  refine decide_eq_false (fun ⟨j, _, hj⟩ => ?_)
  have h1 := rest_le s j
  rw [likeB_size (by omega)] at hj
  cases hj
end Go.Proofs.Ytedmkdjijhflnaa
/- Contracts of the landed label: Labels, May; placeOf; few of the laws. -/
namespace Go.Proofs.Ytedmkdjijhflnaa
open Go.RowKit
set_option linter.unusedVariables false
set_option maxRecDepth 20000

set_option maxRecDepth 100000 in
theorem labels_any (s : ByteArray) (w : World) (hs : s.size ≤ 2000000) :
    Calls Try.prog 40 #[.string s] w fun e w' => ∃ a c, e = .returned (.slice a (labelsB s).length c) ∧ RowS w' a c (labelsB s) ∧ Below w.heap.size w w' := by
  by_cases h0 : s.size = 0
  · have he := isEmpty_true s h0
    have HE : Hid (labelsB s = []) := Lib.hid (by unfold labelsB; rw [if_pos h0])
    rw [HE.out]
    clear hs h0
    go_enter Try.func40, Try.ntmps40
    go_wp2_with fail
    go_ret
    exact ⟨none, 0, rfl, .inl ⟨rfl, rfl, rfl⟩, Below.refl _ _⟩
  · have he := isEmpty_false s (by omega)
    have HE : Hid (labelsB s = pieces s 46) := Lib.hid (by unfold labelsB; rw [if_neg h0])
    have HSP := Lib.hid (split_row s 46 w hs)
    rw [HE.out]
    generalize pieces s 46 = l at *
    clear hs h0 HE
    go_enter Try.func40, Try.ntmps40
    go_wp2_with fail
    refine HSP.out.mono ?_
    rintro e w1 ⟨g, c, rfl, hg, hr, hb⟩
    have HR := Lib.hid hr
    have HB := Lib.hid hb
    clear hr hb hg HSP
    go_wp2_with fail
    go_ret
    exact ⟨_, _, rfl, .inr ⟨g, rfl, HR.out⟩, HB.out⟩
set_option maxRecDepth 100000 in
set_option maxHeartbeats 2000000 in
theorem may_any (s : ByteArray) (w : World) (hs : s.size ≤ 2000000) :
    Calls Try.prog 28 #[.string s] w fun e w' => e = .returned (.bool (mayN s)) ∧ Below w.heap.size w w' := by
  have HM := Lib.hid (may_is s)
  have HLA := Lib.hid (labels_any s w hs)
  have hsm : ∀ p ∈ labelsB s, p.size ≤ 2000000 := fun p hp => Nat.le_trans (labels_small s p hp) (by omega)
  have hln := labels_len s
  generalize mayN s = m at *
  generalize labelsB s = l at *
  by_cases h253 : 253 < s.size
  · have hd0 : decide (253 < (s.size : Int)) = true := decide_eq_true (by omega)
    have hd0n : decide (253 < s.size) = true := decide_eq_true h253
    have EM : m = false := by rw [HM.out]; exact decide_eq_false (fun h => by omega)
    subst EM
    clear HLA hsm HM
    go_enter Try.func28, Try.ntmps28
    go_wp2_with fail
    go_ret
    exact ⟨rfl, Below.refl _ _⟩
  · have hd0 : decide (253 < (s.size : Int)) = false := decide_eq_false (by omega)
    have hd0n : decide (253 < s.size) = false := decide_eq_false h253
    have HM2 : Hid (m = decide (∀ k, k < l.length → 1 ≤ (l.getD k ⟨#[]⟩).size ∧ (l.getD k ⟨#[]⟩).size ≤ 63)) := Lib.hid (by
      rw [HM.out]
      exact decide_eq_decide.2 ⟨fun h => h.2, fun h => ⟨by omega, h⟩⟩)
    have HSM := Lib.hid hsm
    clear hsm HM
    obtain ⟨N, hN⟩ : ∃ N, l.length = N := ⟨_, rfl⟩
    have HN := Lib.hid hN
    rw [hN] at hln HLA HM2
    clear hN
    go_enter Try.func28, Try.ntmps28
    go_wp2_with fail
    refine HLA.out.mono ?_
    rintro e w1 ⟨a, c, rfl, hr, hb⟩
    have HR := Lib.hid hr
    have HB := Lib.hid hb
    clear hr hb HLA
    go_wp2_with fail
    go_loop [11] (fun i => ∃ k : Nat, k ≤ N ∧ i = .int .i64 (k : Int) ∧ Hid (∀ j, j < k → 1 ≤ (l.getD j ⟨#[]⟩).size ∧ (l.getD j ⟨#[]⟩).size ≤ 63)) (fun i => N - (intOf i).toNat)
    case atStart => exact ⟨0, Nat.zero_le _, rfl, Lib.hid (fun j hj => absurd hj (by omega))⟩
    case round =>
      obtain ⟨k, hk, rfl, HO⟩ := hrel
      by_cases hkN : k < N
      · have hd : decide ((k : Int) < (N : Int)) = true := decide_eq_true (by omega)
        have hdn : decide (k < N) = true := decide_eq_true (by omega)
        rcases HR.out with ⟨_, _, h0⟩ | ⟨g, rfl, h⟩
        · have := HN.out; rw [h0] at this; simp at this; omega
        have hc := h.cells k (by rw [HN.out]; exact hkN)
        have hz := getD_small HSM.out k
        have HO2 : Hid (1 ≤ (l.getD k ⟨#[]⟩).size ∧ (l.getD k ⟨#[]⟩).size ≤ 63 → ∀ j, j < k + 1 → 1 ≤ (l.getD j ⟨#[]⟩).size ∧ (l.getD j ⟨#[]⟩).size ≤ 63) := Lib.hid (fun hp j hj => by
          by_cases h : j < k
          · exact HO.out j h
          · obtain rfl : j = k := by omega
            exact hp)
        have HF : Hid (¬ (1 ≤ (l.getD k ⟨#[]⟩).size ∧ (l.getD k ⟨#[]⟩).size ≤ 63) → m = false) := Lib.hid (fun hp => by
          rw [HM2.out]
          exact decide_eq_false (fun h => hp (h k hkN)))
        generalize l.getD k ⟨#[]⟩ = p at *
        have hb1 : (0 : Int) ≤ (k : Int) := by omega
        have hb2 : (k : Int) < (N : Int) := by omega
        clear h
        by_cases h1 : p.size < 1
        · have hd1 : decide ((p.size : Int) < 1) = true := decide_eq_true (by omega)
          have hd1n : decide (p.size < 1) = true := decide_eq_true (by omega)
          have ES := HF.out (fun h => absurd h.1 (by omega))
          subst ES
          clear HO2 HF HM2
          go_wp2_with fail
          go_ret
          exact ⟨rfl, HB.out⟩
        · have hd1 : decide ((p.size : Int) < 1) = false := decide_eq_false (by omega)
          have hd1n : decide (p.size < 1) = false := decide_eq_false (by omega)
          by_cases h2 : 63 < p.size
          · have hd2 : decide (63 < (p.size : Int)) = true := decide_eq_true (by omega)
            have hd2n : decide (63 < p.size) = true := decide_eq_true (by omega)
            have ES := HF.out (fun h => absurd h.2 (by omega))
            subst ES
            clear HO2 HF HM2
            go_wp2_with fail
            go_ret
            exact ⟨rfl, HB.out⟩
          · have hd2 : decide (63 < (p.size : Int)) = false := decide_eq_false (by omega)
            have hd2n : decide (63 < p.size) = false := decide_eq_false (by omega)
            have HO3 := Lib.hid (HO2.out (by omega))
            clear HO2 HF HO
            go_wp2_with fail
            go_round
            case rel => exact ⟨k + 1, by omega, by go_num, HO3⟩
            case measure => simp [intOf]; omega
      · obtain rfl : k = N := by omega
        have hd : decide ((k : Int) < (k : Int)) = false := by simp
        have EM : m = true := by rw [HM2.out]; exact decide_eq_true HO.out
        subst EM
        clear HM2
        go_wp2_with fail
        go_ret
        exact ⟨rfl, HB.out⟩
end Go.Proofs.Ytedmkdjijhflnaa
/- The landed solver: Start. -/
namespace Go.Proofs.Ytedmkdjijhflnaa
open Go.RowKit Go.Sort Go.Shelf Go.Maps
set_option linter.unusedVariables false
set_option maxRecDepth 20000
set_option linter.unusedSimpArgs false

/-- May a lookup of it begin? -/
def askOk (nm : ByteArray) (kd : Int) : Bool := !nm.toList.isEmpty && (mayN nm && (decide (kd = 1) || decide (kd = 28)))
/-- A lookup that begins, its query sent. -/
def newLk (c : Cfg) (n : Int) (nm : ByteArray) (kd draw now : Int) : Lk := sendL c ⟨n, nm, ⟨0, nm, kd, 0⟩, 0, 0, 0, 604800⟩ draw now
/-- What Start leaves, and tells. -/
def StRet (w : World) (G cp : Nat) (c : Cfg) (n : Int) (v : Value) (A : List PL) (nm : ByteArray) (kd draw now : Int) (E : Ce) (hb : Bool) (L : List Ad) (e : Ending) (w' : World) : Prop :=
  ∃ ev v' A', e = .returned (.tuple #[.int .i64 n, evV ev]) ∧ SolO w' G cp c (n + 1) v' A' ∧ Foot (fpO G v A) (fpO G v' A') w w' ∧
    ((askOk nm kd = false ∧ ev = evF n 1 ∧ v' = v ∧ A' = A) ∨
     (askOk nm kd = true ∧ hb = true ∧ now < E.u ∧ v' = v ∧ A' = A ∧ ∃ a c, ev = evD n a L.length c ∧ RowA w' w.heap.size (.slice a L.length c) L) ∨
     (askOk nm kd = true ∧ (hb = false ∨ E.u ≤ now) ∧ A.length = 16 ∧ ev = evF n 6 ∧ v' = v ∧ A' = A) ∨
     (askOk nm kd = true ∧ (hb = false ∨ E.u ≤ now) ∧ A.length ≠ 16 ∧ ev = evS (newLk c n nm kd draw now) ∧ ∃ g, w.heap.size ≤ g ∧ A' = A ++ [(g, newLk c n nm kd draw now)]))
theorem SolO.begun {w : World} {G cp : Nat} {c : Cfg} {n m : Int} {v : Value} {A : List PL} (h : SolO w G cp c n v A) : SolO (w.setCell ⟨G, 5, none⟩ (.int .i64 m)) G cp c m v A := by
  have hf : Foot [G] [G] w (w.setCell ⟨G, 5, none⟩ (.int .i64 m)) := foot_cells G 5 [.int .i64 m]
  refine ⟨?_, h.row.foot hf (fun g hg => by simpa using (h.vb g hg).1), fun p hp => ⟨(h.lk p hp).1.foot hf (by simpa using h.gp p hp), (h.lk p hp).2.foot hf (by simpa using h.gp p hp)⟩, h.nd, h.gp, h.vb, h.ok, h.cf⟩
  have := h.cs.set 5 (.int .i64 m) (show 5 < 7 by decide)
  simpa [solL] using this
theorem fpO_lt {w : World} {G cp : Nat} {c : Cfg} {n : Int} {v : Value} {A : List PL} (h : SolO w G cp c n v A) : ∀ k ∈ fpO G v A, k < w.heap.size := fun k hk => by
  rcases List.mem_cons.1 hk with rfl | hk
  · exact h.cs.lt
  rcases List.mem_append.1 hk with hk | hk
  · exact (h.row.lt k (by simpa using hk)).2
  · obtain ⟨q, hq, rfl⟩ := List.mem_map.1 hk
    exact (h.lk q hq).1.lt
/-- A new lookup behind the others. -/
theorem SolO.grow {W6 V6 : World} {G cp g : Nat} {c : Cfg} {n : Int} {v v' : Value} {A : List PL} {l : Lk} (h : SolO W6 G cp c n v A) (hc : CellsAt W6 g (lkL l)) (hk : Blk W6 g) (hg : ∀ k ∈ fpO G v A, k ≠ g) (ho : l.Ok c) (hr : RowP V6 0 v' (A.map Prod.fst ++ [g])) (hf : Foot v.ownBlock.toList v'.ownBlock.toList W6 V6) :
    SolO (V6.setCell ⟨G, 6, none⟩ v') G cp c n v' (A ++ [(g, l)]) ∧ Foot (g :: fpO G v A) (fpO G v' (A ++ [(g, l)])) W6 (V6.setCell ⟨G, 6, none⟩ v') := by
  have hGv : G ∉ v.ownBlock.toList := by simp; exact fun e => (h.vb G e).1 rfl
  have hGg : G ≠ g := hg G (by simp [fpO])
  have hvg : ∀ b, v.ownBlock = some b → b ≠ g := fun b e => hg b (by simp [fpO, e])
  have hAg : ∀ p ∈ A, p.1 ≠ g := fun p hp => hg _ (mem_fpO hp)
  have hgv : g ∉ v.ownBlock.toList := by simp; exact fun e => hvg g e rfl
  have hvA : ∀ p ∈ A, p.1 ∉ v.ownBlock.toList := fun p hp => by simp; exact fun e => (h.vb _ e).2 p hp rfl
  have hf2 : Foot [G] [G] V6 (V6.setCell ⟨G, 6, none⟩ v') := foot_cells G 6 [v']
  have hlt := fpO_lt h
  have hv' : ∀ b, v'.ownBlock = some b → v.ownBlock = some b ∨ W6.heap.size ≤ b := fun b e => by
    rcases hf.new b (by simp [e]) with e2 | e2
    · exact .inl (by simpa using e2)
    · exact .inr e2
  have hvb : ∀ b, v'.ownBlock = some b → b ≠ G ∧ b ≠ g ∧ ∀ p ∈ A, p.1 ≠ b := fun b e => by
    rcases hv' b e with e2 | e2
    · exact ⟨(h.vb b e2).1, hvg b e2, (h.vb b e2).2⟩
    · refine ⟨?_, ?_, fun p hp => ?_⟩
      · have := hlt G (by simp [fpO]); omega
      · have := hk.lt; omega
      · have := hlt p.1 (mem_fpO hp); omega
  refine ⟨⟨?_, ?_, fun p hp => ?_, ?_, fun p hp => ?_, fun b e => ⟨(hvb b e).1, fun p hp => ?_⟩, fun p hp => ?_, h.cf⟩, ?_⟩
  · have := (h.cs.foot hf hGv).set 6 v' (show 6 < 7 by decide)
    simpa [solL] using this
  · rw [List.map_append]
    exact hr.foot hf2 (fun b e => by simpa using (hvb b e).1)
  · rcases List.mem_append.1 hp with hp | hp
    · exact ⟨((h.lk p hp).1.foot hf (hvA p hp)).foot hf2 (by simpa using h.gp p hp), ((h.lk p hp).2.foot hf (hvA p hp)).foot hf2 (by simpa using h.gp p hp)⟩
    · rw [List.mem_singleton.1 hp]
      exact ⟨(hc.foot hf hgv).foot hf2 (by simpa using hGg.symm), (hk.foot hf hgv).foot hf2 (by simpa using hGg.symm)⟩
  · rw [List.map_append, List.nodup_append]
    refine ⟨h.nd, by simp, fun a ha b hb => ?_⟩
    obtain ⟨p, hp, rfl⟩ := List.mem_map.1 ha
    have : b = g := by simpa using hb
    rw [this]
    exact hAg p hp
  · rcases List.mem_append.1 hp with hp | hp
    · exact h.gp p hp
    · rw [List.mem_singleton.1 hp]; exact hGg.symm
  · rcases List.mem_append.1 hp with hp | hp
    · exact (hvb b e).2.2 p hp
    · rw [List.mem_singleton.1 hp]; exact (hvb b e).2.1.symm
  · rcases List.mem_append.1 hp with hp | hp
    · exact h.ok p hp
    · rw [List.mem_singleton.1 hp]; exact ho
  · refine ⟨hf2.os.trans hf.os, hf2.tape.trans hf.tape, hf2.output.trans hf.output, Nat.le_trans hf.size hf2.size, fun k hk2 hn => ?_, fun k hk2 => ?_⟩
    · have n1 : k ∉ v.ownBlock.toList := fun e => hn (List.mem_cons_of_mem _ (List.mem_cons_of_mem _ (List.mem_append_left _ e)))
      have n2 : k ∉ [G] := fun e => hn (by rw [List.mem_singleton.1 e]; simp [fpO])
      exact (hf2.keep k (Nat.lt_of_lt_of_le hk2 hf.size) n2).trans (hf.keep k hk2 n1)
    · rcases List.mem_cons.1 hk2 with rfl | hk2
      · exact .inl (by simp [fpO])
      rcases List.mem_append.1 hk2 with hk2 | hk2
      · rcases hv' k (by simpa using hk2) with e2 | e2
        · exact .inl (by simp [fpO, e2])
        · exact .inr e2
      · rw [List.map_append] at hk2
        rcases List.mem_append.1 hk2 with hk2 | hk2
        · exact .inl (List.mem_cons_of_mem _ (List.mem_cons_of_mem _ (List.mem_append_right _ hk2)))
        · exact .inl (by simp at hk2; simp [hk2])
theorem setA_last {A : List PL} {g : Nat} {l l' : Lk} (h : ∀ p ∈ A, p.1 ≠ g) : setA (A ++ [(g, l)]) g l' = A ++ [(g, l')] := by
  unfold setA
  rw [List.map_append]
  congr 1
  · conv => rhs; rw [← List.map_id A]
    exact List.map_congr_left (fun q hq => by rw [if_neg (h q hq)]; rfl)
  · simp
theorem newLk_ok {c : Cfg} (hc : c.Ok) {n : Int} {nm : ByteArray} {kd tt : Int} (h0 : 0 ≤ n) (h1 : n ≤ 999999) (hn : nm.size ≤ 2000000) (hk : kd = 1 ∨ kd = 28) (ht : tt ≤ 604800) (hw : (Lit.int .i64 tt).wf = true) : Lk.Ok c ⟨n, nm, ⟨0, nm, kd, 0⟩, 0, 0, 0, tt⟩ :=
  ⟨Int.le_refl _, by have := hc.t1; show 0 ≤ c.tr; omega, Int.le_refl _, by have := hc.s1; show 0 < c.sv; omega, h0, by show n ≤ 1000000; omega, Int.le_refl _, by show (0 : Int) ≤ 2199023256552; decide, Int.le_refl _, by show (0 : Int) ≤ 8; decide, hw, ht, hk, Int.le_refl _, by show (0 : Int) < 65536; decide, hn, hn⟩
theorem lk_new (w : World) (t : TypeId) (n : Int) (nm : ByteArray) (kd tt : Int) : CellsAt (w.alloc (.cells #[.int .i64 n, .string nm, .int .i64 0, .string nm, .int .i64 kd, .int .i64 0, .int .i64 0, .int .i64 0, .int .i64 0, .int .i64 tt] t)) w.heap.size (lkL ⟨n, nm, ⟨0, nm, kd, 0⟩, 0, 0, 0, tt⟩) := CellsAt.new w t (lkL ⟨n, nm, ⟨0, nm, kd, 0⟩, 0, 0, 0, tt⟩)
theorem built_q (nm : ByteArray) (kd : Int) : Try.prog.built 23 [(1, .string nm), (2, .int .i64 kd)] = some #[.int .i64 0, .string nm, .int .i64 kd, .int .i64 0] := rfl
theorem built_lk (n : Int) (nm : ByteArray) (kd tt : Int) : Try.prog.built 84 [(0, .int .i64 n), (1, .string nm), (2, .agg #[.int .i64 0, .string nm, .int .i64 kd, .int .i64 0]), (6, .int .i64 tt)] = some #[.int .i64 n, .string nm, .int .i64 0, .string nm, .int .i64 kd, .int .i64 0, .int .i64 0, .int .i64 0, .int .i64 0, .int .i64 tt] := by kernel_rfl
theorem build_of {ops : Array Oper} {rest : List Oper} {op : Oper} {a : Act} {w : World} {Q : Exit → Act → World → Prop} {t : TypeId} {parts : Array (Nat × Operand)} {vals : List (Nat × Value)} {cs : Array Value} (hg : op.guard = none) (ho : op.op = .build t parts) (hb : Try.prog.built t vals = some cs) (hv : (parts.map fun (i, x) => (i, a.eval x)).toList = vals) (h : wpList Try.prog ops Q rest (a.put op.dst (.agg cs)) w) : wpList Try.prog ops Q (op :: rest) a w := by
  refine wpList_build hg t _ ho (by rw [hv, hb]; rfl) ?_
  rw [hv, hb]
  exact h
theorem results_te {w : World} {fn : Func} {a t : Tmp} {tmps : Array Value} {R : Nat} {ty : TypeId} {d : TypeDesc} {vs : List Value} (h : fn.results = #[.tmp t, .cell a ty]) (ha : tmps.getD a undef = .pointer (some ⟨R, 0, none⟩)) (hA : CellsAt w R vs) (hu : Try.prog.underlying ty = some d) (hd : d.isRow = true) (hl : (Try.prog.info? ty).map (·.size) = some vs.length) : (results fn tmps).run Try.prog w = .ok (.tuple #[tmps.getD t undef, .agg vs.toArray]) w := by
  rw [Array.getD_eq_getD_getElem?] at ha
  have := run_loadVar_mid w R 0 ty vs _ hA.range hu hd hl
  simp [results, h, ha, asAddr, this]
set_option maxRecDepth 100000 in
set_option maxHeartbeats 4000000 in
theorem start_any (G cp b : Nat) (rm : Int) (es : List Ce) (nm : ByteArray) (kd draw now : Int) (L : List Ad) (c : Cfg) (n : Int) (v : Value) (A : List PL) (w : World) (h : SolO w G cp c n v A)
    (hca : ∀ W, Foot (fpO G v A) (fpO G v A) w W → CacAt W cp b rm es) (hL : ∀ W, Foot (fpO G v A) (fpO G v A) w W → ∀ e, getE es (lowB nm) kd = some e → e.n = L.length ∧ AdsIn W e.a e.c L) (hl : L.length ≤ 1000)
    (hn : nm.size ≤ 2000000) (hk : (Lit.int .i64 kd).wf = true) (hd : (Lit.int .i64 draw).wf = true) (h0 : 0 ≤ now) (h1 : now ≤ 2199023255552) (hn0 : 0 ≤ n) (hn1 : n ≤ 999999) (hA : A.length ≤ 16) :
    Calls Try.prog 16 #[.pointer (some ⟨G, 0, none⟩), .string nm, .int .i64 kd, .int .i64 draw, .int .i64 now] w (StRet w G cp c n v A nm kd draw now (theE es (lowB nm) kd) (getE es (lowB nm) kd).isSome L) := by
  obtain ⟨ao, co, hv⟩ := h.row.slice
  rw [List.length_map] at hv
  have HVV := Lib.hid hv
  clear hv
  have HZ := Lib.hid (zeroEv w 56)
  obtain ⟨W, hW⟩ : ∃ W, w.alloc (.cells #[.int .i64 0, .int .i64 0, .int .i64 0, .string ⟨#[]⟩, .int .i64 0, .int .i64 0, .slice none 0 0, .int .i64 0] 56) = W := ⟨_, rfl⟩
  have hb : Below w.heap.size w W := by rw [← hW]; exact (Below.refl _ _).alloc (Nat.le_refl _) _
  have hRW : w.heap.size < W.heap.size := by rw [← hW]; simp
  rw [hW] at HZ
  obtain ⟨R, hR⟩ : ∃ R, w.heap.size = R := ⟨_, rfl⟩
  rw [hR] at HZ hRW
  have HRR := Lib.hid hR
  have HFW : Hid (Foot (fpO G v A) (fpO G v A) w W) := Lib.hid (Foot.ofBelow _ hb)
  have HIN : Hid (∀ k ∈ fpO G v A, k < R) := Lib.hid (by rw [← hR]; exact fpO_lt h)
  have HS := Lib.hid (h.below hb)
  have HNM := Lib.hid hn
  have HGET := fun W (hf : Foot (fpO G v A) (fpO G v A) w W) => Lib.hid (get_any cp b rm es nm kd now W (hca W hf) hn hk L (hL W hf) hl)
  obtain ⟨E, hE⟩ : ∃ E, theE es (lowB nm) kd = E := ⟨_, rfl⟩
  obtain ⟨hbv, hhb⟩ : ∃ hbv, (getE es (lowB nm) kd).isSome = hbv := ⟨_, rfl⟩
  simp only [hE, hhb] at HGET
  rw [hE, hhb]
  clear hE hhb
  have HDW := Lib.hid hd
  have HN0 := Lib.hid h0
  have HN1 := Lib.hid h1
  have HB0 := Lib.hid hn0
  have HB1 := Lib.hid hn1
  have HAL := Lib.hid hA
  have HMAY := fun W => Lib.hid (may_any nm W hn)
  have hw5 : IntKind.i64.wrap (n + 1) = n + 1 := by rw [IntKind.wrap_i64]; omega
  have hGR : G < R := HIN.out G (by simp [fpO])
  clear h hb hca hL hl hn hk hd h0 h1 hn0 hn1 hA hRW
  go_enter Try.func16, Try.ntmps16
  go_upto_region 1 with fail
  try rw [hW]
  try rw [hR]
  clear hW hR
  have hc5 := HS.out.cs.cell 5 _ rfl
  have hf5 := HS.out.cs.live 5 (show 5 < 7 by decide)
  go_upto_region 3 with fail
  have HS2 := Lib.hid (HS.out.begun (m := n + 1))
  have hfG : Foot [G] [G] W (W.setCell ⟨G, 5, none⟩ (.int .i64 (n + 1))) := foot_cells G 5 [.int .i64 (n + 1)]
  have HF2 : Hid (Foot (fpO G v A) (fpO G v A) w (W.setCell ⟨G, 5, none⟩ (.int .i64 (n + 1)))) := Lib.hid (HFW.out.trans (foot_sub hfG (fun k hk => by rw [List.mem_singleton.1 hk]; simp [fpO])))
  have HZ2 := Lib.hid (HZ.out.foot hfG (by simp; omega))
  clear hc5 hf5 hfG HS HFW HZ
  generalize W.setCell ⟨G, 5, none⟩ (.int .i64 (n + 1)) = W2 at *
  have FIN : Hid (∀ W3 U A' v' vs, SolO W3 G cp c (n + 1) v' A' → Foot (fpO G v A) (fpO G v' A') w W3 → (∀ k ∈ fpO G v' A', k < R) → U = W3.setCells R 0 vs → SolO U G cp c (n + 1) v' A' ∧ Foot (fpO G v A) (fpO G v' A') w U) := Lib.hid (fun W3 U A' v' vs hs hf hk hU => by
    refine ⟨hs.foot (by rw [hU]; exact foot_cells R 0 vs) (fun k hk2 => ?_), by rw [hU]; exact foot_new hf (by have := HRR.out; omega)⟩
    have := hk k hk2
    simp
    omega)
  have HFL := fun x W => Lib.hid (failed_any n x W)
  have HRW : Hid (R < W2.heap.size) := Lib.hid HZ2.out.lt
  by_cases he : nm.toList = []
  · have heb : nm.toList.isEmpty = true := by rw [he]; rfl
    have HAK : Hid (askOk nm kd = false) := Lib.hid (by unfold askOk; rw [heb]; rfl)
    clear HMAY
    go_wp2_with fail
    refine (HFL 1 _).out.mono ?_
    rintro e w9 ⟨rfl, hb9⟩
    have HZ9 := Lib.hid (HZ2.out.below hb9)
    have HS9 := Lib.hid (HS2.out.below hb9)
    have HF9 := Lib.hid (HF2.out.trans (Foot.ofBelow _ hb9))
    clear hb9 HFL
    unfold evV
    go_wp2_with (refine store_of HZ9 rfl ev_size _ _ rfl rfl rfl (vs := evL (evF n 1)) rfl rfl rfl (fun U HU HUC => ?_))
    have HX := FIN.out w9 U A v (evL (evF n 1)) HS9.out HF9.out (fun k hk => HIN.out k hk) HU.out
    exact bodyPost_ret (results_te Try.results16 rfl HUC.out Try.underlying56 rfl ev_size) rfl ⟨evF n 1, v, A, rfl, HX.1, HX.2, .inl ⟨HAK.out, rfl, rfl, rfl⟩⟩
  · have heb : nm.toList.isEmpty = false := by
      cases h : nm.toList.isEmpty with
      | false => rfl
      | true => exact absurd (by simpa using h) he
    have HEB := Lib.hid heb
    go_wp2_with fail
    refine (HMAY _).out.mono ?_
    rintro e w3 ⟨rfl, hb3⟩
    have HZ3 := Lib.hid (HZ2.out.below hb3)
    have HS3 := Lib.hid (HS2.out.below hb3)
    have HF3 := Lib.hid (HF2.out.trans (Foot.ofBelow _ hb3))
    have HRW3 : Hid (R < w3.heap.size) := Lib.hid (Nat.lt_of_lt_of_le HRW.out hb3.size)
    clear hb3 HMAY HZ2 HS2 HF2 HRW
    cases hm : mayN nm with
    | false =>
      have HAK : Hid (askOk nm kd = false) := Lib.hid (by unfold askOk; rw [hm]; simp)
      go_wp2_with fail
      refine (HFL 1 _).out.mono ?_
      rintro e w9 ⟨rfl, hb9⟩
      have HZ9 := Lib.hid (HZ3.out.below hb9)
      have HS9 := Lib.hid (HS3.out.below hb9)
      have HF9 := Lib.hid (HF3.out.trans (Foot.ofBelow _ hb9))
      clear hb9 HFL
      unfold evV
      go_wp2_with (refine store_of HZ9 rfl ev_size _ _ rfl rfl rfl (vs := evL (evF n 1)) rfl rfl rfl (fun U HU HUC => ?_))
      have HX := FIN.out w9 U A v (evL (evF n 1)) HS9.out HF9.out (fun k hk => HIN.out k hk) HU.out
      exact bodyPost_ret (results_te Try.results16 rfl HUC.out Try.underlying56 rfl ev_size) rfl ⟨evF n 1, v, A, rfl, HX.1, HX.2, .inl ⟨HAK.out, rfl, rfl, rfl⟩⟩
    | true =>
      by_cases hk : kd = 1 ∨ kd = 28
      · rcases hk with rfl | rfl
        · have HAK : Hid (askOk nm 1 = true) := Lib.hid (by unfold askOk; rw [hm, HEB.out]; rfl)
          have HG := HGET w3 HF3.out
          have hc0 := HS3.out.cs.cell 0 _ rfl
          unfold ptV at hc0
          clear hm HEB HGET
          go_wp2_with fail
          refine HG.out.mono ?_
          rintro e w4 ⟨hgot, hb4⟩
          have HZ4 := Lib.hid (HZ3.out.below hb4)
          have HS4 := Lib.hid (HS3.out.below hb4)
          have HF4 := Lib.hid (HF3.out.trans (Foot.ofBelow _ hb4))
          have HRW4 : Hid (R < w4.heap.size) := Lib.hid (Nat.lt_of_lt_of_le HRW3.out hb4.size)
          have HB34 := Lib.hid hb4
          clear hb4 HG hc0 HZ3 HS3 HF3
          rcases hgot with ⟨hno, rfl⟩ | ⟨hyes, hnow, vv, rfl, hrow⟩
          · have HNO := Lib.hid hno
            have hc6 := HS4.out.cs.cell 6 _ rfl
            rw [HVV.out] at hc6
            clear hno
            by_cases h16 : A.length = 16
            · have hl16 : ((A.length : Int) == 16) = true := by simp; omega
              have H16 := Lib.hid h16
              clear h16
              go_wp2_with fail
              refine (HFL 6 _).out.mono ?_
              rintro e w9 ⟨rfl, hb9⟩
              have HZ9 := Lib.hid (HZ4.out.below hb9)
              have HS9 := Lib.hid (HS4.out.below hb9)
              have HF9 := Lib.hid (HF4.out.trans (Foot.ofBelow _ hb9))
              clear hb9 HFL
              unfold evV
              go_wp2_with (refine store_of HZ9 rfl ev_size _ _ rfl rfl rfl (vs := evL (evF n 6)) rfl rfl rfl (fun U HU HUC => ?_))
              have HX := FIN.out w9 U A v (evL (evF n 6)) HS9.out HF9.out (fun k hk => HIN.out k hk) HU.out
              exact bodyPost_ret (results_te Try.results16 rfl HUC.out Try.underlying56 rfl ev_size) rfl ⟨evF n 6, v, A, rfl, HX.1, HX.2, .inr (.inr (.inl ⟨HAK.out, HNO.out, H16.out, rfl, rfl, rfl⟩))⟩
            · have hl16 : ((A.length : Int) == 16) = false := by simp; omega
              have H16 := Lib.hid h16
              clear h16
              obtain ⟨g, hg⟩ : ∃ g, w4.heap.size = g := ⟨_, rfl⟩
              obtain ⟨W5, hW5⟩ : ∃ W5, w4.alloc (.cells #[.int .i64 n, .string nm, .int .i64 0, .string nm, .int .i64 1, .int .i64 0, .int .i64 0, .int .i64 0, .int .i64 0, .int .i64 604800] 84) = W5 := ⟨_, rfl⟩
              have hb5 : Below w4.heap.size w4 W5 := by rw [← hW5]; exact (Below.refl _ _).alloc (Nat.le_refl _) _
              have HC5 : Hid (CellsAt W5 g (lkL ⟨n, nm, ⟨0, nm, 1, 0⟩, 0, 0, 0, 604800⟩)) := Lib.hid (by rw [← hW5, ← hg]; exact lk_new w4 _ n nm 1 604800)
              have HK5 : Hid (Blk W5 g) := Lib.hid (by rw [← hW5, ← hg]; exact Blk.new w4 _ _)
              have HGN : Hid (∀ k ∈ fpO G v A, k ≠ g) := Lib.hid (fun k hk e => by have := fpO_lt HS4.out k hk; omega)
              have HGR : Hid (R < g) := Lib.hid (by have := HRW4.out; omega)
              have HS5 := Lib.hid (HS4.out.below hb5)
              have HZ5 := Lib.hid (HZ4.out.below hb5)
              have HF5 := Lib.hid (HF4.out.trans (Foot.ofBelow _ hb5))
              go_upto_region 10 with fail
              go_upto_region 11 with (first | exact build_of rfl rfl (built_q nm 1) (by simp only [List.map_toArray, List.map_cons, List.map_nil]; rfl) | exact build_of rfl rfl (built_lk n nm 1 604800) (by simp only [List.map_toArray, List.map_cons, List.map_nil]; rfl))
              try rw [hW5]
              try rw [hg]
              clear hW5 hg hb5 hc6 hl16 HS4 HZ4 HF4 HRW4 HB34
              have hc6 := HS5.out.cs.cell 6 _ rfl
              rw [HVV.out] at hc6
              go_upto_region 12 with (first
                | (refine build_stepPt1 rfl _ rfl rfl (fun W6 HW6 => ?_); have hb6 : Below W5.heap.size W5 W6 := (by rw [HW6.out]; exact (Below.refl _ _).alloc (Nat.le_refl _) _); have HM6 : Hid (W6.cell? ⟨W5.heap.size, 0, none⟩ = some (ptV g)) := Lib.hid (by rw [HW6.out]; exact (CellsAt.new W5 82 [ptV g]).cell 0 _ rfl); have HS6 := Lib.hid (HS5.out.below hb6); have HZ6 := Lib.hid (HZ5.out.below hb6); have HF6 := Lib.hid (HF5.out.trans (Foot.ofBelow _ hb6)); have HC6 := Lib.hid (HC5.out.below hb6); have HK6 := Lib.hid (HK5.out.below hb6); have HR6 : Hid (RowP W6 0 v (A.map Prod.fst)) := Lib.hid HS6.out.row; have HN6 : Hid ((A.map Prod.fst).length ≤ 900 ∧ 0 ≤ W6.heap.size) := Lib.hid ⟨by rw [List.length_map]; have := HAL.out; omega, Nat.zero_le _⟩; have HRG6 : Hid (R < W6.heap.size) := Lib.hid HZ6.out.lt; clear hb6 hc6 HS5 HZ5 HF5 HC5 HK5)
                | (at_builtin; refine wpList_plain rfl (fun K hK => wp_append_pt HR6 HM6 HN6 _ _ rfl HVV.out.symm rfl (fun v6 V6 h1 h2 h3 => hK _ _ ?_)); obtain ⟨a6, m6, c6, hv6⟩ : ∃ a m c, v6 = .slice a m c := (by obtain ⟨a, c, e⟩ := h1.out.slice; exact ⟨a, _, c, e⟩); subst hv6; have hcs := HS6.out.cs.foot h3.out (by simp; exact fun e => (HS6.out.vb G e).1 rfl); have hcc := hcs.cell 6 _ rfl; have hcf := hcs.live 6 (show 6 < 7 by decide); rw [HVV.out] at hcc; clear hcs))
              have HGR8 := SolO.grow HS6.out HC6.out HK6.out HGN.out (newLk_ok HS6.out.cf HB0.out HB1.out HNM.out (by decide) (by decide) (by decide)) h1.out h3.out
              have HS8 := Lib.hid HGR8.1
              have HF8 : Hid (Foot (fpO G v A) (fpO G (.slice a6 m6 c6) (A ++ [(g, ⟨n, nm, ⟨0, nm, 1, 0⟩, 0, 0, 0, 604800⟩)])) w (V6.setCell ⟨G, 6, none⟩ (.slice a6 m6 c6))) := Lib.hid (by
                have f1 := HF6.out
                have f2 := HGR8.2
                have hgw : w.heap.size ≤ g := by have := HRR.out; have := HGR.out; omega
                refine ⟨f2.os.trans f1.os, f2.tape.trans f1.tape, f2.output.trans f1.output, Nat.le_trans f1.size f2.size, fun k hk hn => (f2.keep k (Nat.lt_of_lt_of_le hk f1.size) (fun e => ?_)).trans (f1.keep k hk hn), fun k hk => ?_⟩
                · rcases List.mem_cons.1 e with rfl | e
                  · omega
                  · exact hn e
                · rcases f2.new k hk with e | e
                  · rcases List.mem_cons.1 e with rfl | e
                    · exact .inr hgw
                    · exact .inl e
                  · exact .inr (Nat.le_trans f1.size e))
              have HZ8 : Hid (CellsAt (V6.setCell ⟨G, 6, none⟩ (.slice a6 m6 c6)) R evZ) := Lib.hid (HZ6.out.foot HGR8.2 (fun e => by
                rcases List.mem_cons.1 e with rfl | e
                · have := HGR.out; omega
                · have := HIN.out R e; omega))
              have HM8 : (g, (⟨n, nm, ⟨0, nm, 1, 0⟩, 0, 0, 0, 604800⟩ : Lk)) ∈ A ++ [(g, ⟨n, nm, ⟨0, nm, 1, 0⟩, 0, 0, 0, 604800⟩)] := by simp
              have HAg : Hid (∀ p ∈ A, p.1 ≠ g) := Lib.hid (fun p hp => HGN.out _ (mem_fpO hp))
              have HV8 : Hid (∀ k ∈ fpO G (.slice a6 m6 c6) (A ++ [(g, ⟨n, nm, ⟨0, nm, 1, 0⟩, 0, 0, 0, 604800⟩)]), k ≠ R) := Lib.hid (fun k hk e => by
                subst e
                rcases HGR8.2.new k hk with e | e
                · rcases List.mem_cons.1 e with e | e
                  · have := HGR.out; omega
                  · have := HIN.out k e; omega
                · have := HRG6.out; omega)
              clear HGR8 h1 h2 h3 hcc hcf HS6 HZ6 HF6 HC6 HK6 HR6 HN6 HM6 HRG6 HFL
              generalize V6.setCell ⟨G, 6, none⟩ (.slice a6 m6 c6) = W8 at *
              have HSN := Lib.hid (send_any G g c ⟨n, nm, ⟨0, nm, 1, 0⟩, 0, 0, 0, 604800⟩ draw now W8 (HS8.out.cs.cell 3 _ rfl) HS8.out.cs.lt (HS8.out.lk _ HM8).1 (HS8.out.lk _ HM8).2 (by have := HS8.out.gp _ HM8; exact fun e => this e.symm) HDW.out HN0.out HN1.out HS8.out.cf)
              have HOK9 := Lib.hid (sendL_ok HS8.out.cf (HS8.out.ok _ HM8) draw now HN0.out HN1.out)
              have HGW : Hid (w.heap.size ≤ g) := Lib.hid (by have := HRR.out; have := HGR.out; omega)
              have HEQ : Hid (newLk c n nm 1 draw now = sendL c ⟨n, nm, ⟨0, nm, 1, 0⟩, 0, 0, 0, 604800⟩ draw now) := Lib.hid rfl
              obtain ⟨l9, hl9⟩ : ∃ l9, sendL c ⟨n, nm, ⟨0, nm, 1, 0⟩, 0, 0, 0, 604800⟩ draw now = l9 := ⟨_, rfl⟩
              rw [hl9] at HOK9 HEQ
              simp only [hl9] at HSN
              clear hl9
              go_wp2_with fail
              refine HSN.out.mono ?_
              rintro e w9 ⟨rfl, hc9, hk9, hf9⟩
              have HS9 := Lib.hid (HS8.out.put HM8 hc9 hk9 HOK9.out hf9)
              rw [setA_last HAg.out] at HS9
              have HZ9 := Lib.hid (HZ8.out.foot hf9 (by have := HGR.out; simp; omega))
              have HFP : Hid (fpO G (.slice a6 m6 c6) (A ++ [(g, ⟨n, nm, ⟨0, nm, 1, 0⟩, 0, 0, 0, 604800⟩)]) = fpO G (.slice a6 m6 c6) (A ++ [(g, l9)])) := Lib.hid (by unfold fpO; rw [List.map_append, List.map_append]; rfl)
              rw [HFP.out] at HF8 HV8
              have HF9 := Lib.hid (HF8.out.trans (foot_sub hf9 (fun k hk => by rw [List.mem_singleton.1 hk]; exact mem_fpO (p := (g, l9)) (by simp))))
              clear hc9 hk9 hf9 HSN HS8 HZ8 HF8 HFP HM8
              unfold evV
              go_wp2_with (refine store_of HZ9 rfl ev_size _ _ rfl rfl rfl (vs := evL (evS l9)) rfl rfl rfl (fun U HU HUC => ?_))
              have HX1 : SolO U G cp c (n + 1) (.slice a6 m6 c6) (A ++ [(g, l9)]) := HS9.out.foot (by rw [HU.out]; exact foot_cells R 0 _) (fun k hk => by have := HV8.out k hk; simpa using this)
              have HX2 : Foot (fpO G v A) (fpO G (.slice a6 m6 c6) (A ++ [(g, l9)])) w U := by rw [HU.out]; exact foot_new HF9.out (by have := HRR.out; omega)
              exact bodyPost_ret (results_te Try.results16 rfl HUC.out Try.underlying56 rfl ev_size) rfl ⟨evS l9, .slice a6 m6 c6, A ++ [(g, l9)], rfl, HX1, HX2, .inr (.inr (.inr ⟨HAK.out, HNO.out, H16.out, by rw [HEQ.out], g, HGW.out, by rw [HEQ.out]⟩))⟩
          · have HYES := Lib.hid hyes
            have HNOW := Lib.hid hnow
            have hrow2 := hrow.mono (Nat.le_of_lt HRW3.out)
            obtain ⟨a5, c5, e5, _⟩ := hrow.ads
            subst e5
            have HROW := Lib.hid hrow
            clear hyes hnow hrow hrow2
            go_wp2_with fail
            refine (done_any n a5 L.length c5 _).mono ?_
            rintro e w9 ⟨rfl, hb9⟩
            have HZ9 := Lib.hid (HZ4.out.below hb9)
            have HS9 := Lib.hid (HS4.out.below hb9)
            have HF9 := Lib.hid (HF4.out.trans (Foot.ofBelow _ hb9))
            have HR9 := Lib.hid (HROW.out.below hb9)
            clear hb9 HFL HROW HZ4 HS4 HF4
            unfold evV
            go_wp2_with (refine store_of HZ9 rfl ev_size _ _ rfl rfl rfl (vs := evL (evD n a5 L.length c5)) rfl rfl rfl (fun U HU HUC => ?_))
            have HX := FIN.out w9 U A v (evL (evD n a5 L.length c5)) HS9.out HF9.out (fun k hk => HIN.out k hk) HU.out
            have HRU : RowA U w.heap.size (.slice a5 L.length c5) L := (HR9.out.kept2 (fun g hg => by rw [HU.out]; exact heap_setCells_other _ _ _ _ _ (by have := HR9.out.lt g hg; have := HRW3.out; omega))).mono (by have := HRR.out; have := HRW3.out; omega)
            exact bodyPost_ret (results_te Try.results16 rfl HUC.out Try.underlying56 rfl ev_size) rfl ⟨evD n a5 L.length c5, v, A, rfl, HX.1, HX.2, .inr (.inl ⟨HAK.out, HYES.out, HNOW.out, rfl, rfl, a5, c5, rfl, HRU⟩)⟩
        · have HAK : Hid (askOk nm 28 = true) := Lib.hid (by unfold askOk; rw [hm, HEB.out]; rfl)
          have HG := HGET w3 HF3.out
          have hc0 := HS3.out.cs.cell 0 _ rfl
          unfold ptV at hc0
          clear hm HEB HGET
          go_wp2_with fail
          refine HG.out.mono ?_
          rintro e w4 ⟨hgot, hb4⟩
          have HZ4 := Lib.hid (HZ3.out.below hb4)
          have HS4 := Lib.hid (HS3.out.below hb4)
          have HF4 := Lib.hid (HF3.out.trans (Foot.ofBelow _ hb4))
          have HRW4 : Hid (R < w4.heap.size) := Lib.hid (Nat.lt_of_lt_of_le HRW3.out hb4.size)
          have HB34 := Lib.hid hb4
          clear hb4 HG hc0 HZ3 HS3 HF3
          rcases hgot with ⟨hno, rfl⟩ | ⟨hyes, hnow, vv, rfl, hrow⟩
          · have HNO := Lib.hid hno
            have hc6 := HS4.out.cs.cell 6 _ rfl
            rw [HVV.out] at hc6
            clear hno
            by_cases h16 : A.length = 16
            · have hl16 : ((A.length : Int) == 16) = true := by simp; omega
              have H16 := Lib.hid h16
              clear h16
              go_wp2_with fail
              refine (HFL 6 _).out.mono ?_
              rintro e w9 ⟨rfl, hb9⟩
              have HZ9 := Lib.hid (HZ4.out.below hb9)
              have HS9 := Lib.hid (HS4.out.below hb9)
              have HF9 := Lib.hid (HF4.out.trans (Foot.ofBelow _ hb9))
              clear hb9 HFL
              unfold evV
              go_wp2_with (refine store_of HZ9 rfl ev_size _ _ rfl rfl rfl (vs := evL (evF n 6)) rfl rfl rfl (fun U HU HUC => ?_))
              have HX := FIN.out w9 U A v (evL (evF n 6)) HS9.out HF9.out (fun k hk => HIN.out k hk) HU.out
              exact bodyPost_ret (results_te Try.results16 rfl HUC.out Try.underlying56 rfl ev_size) rfl ⟨evF n 6, v, A, rfl, HX.1, HX.2, .inr (.inr (.inl ⟨HAK.out, HNO.out, H16.out, rfl, rfl, rfl⟩))⟩
            · have hl16 : ((A.length : Int) == 16) = false := by simp; omega
              have H16 := Lib.hid h16
              clear h16
              obtain ⟨g, hg⟩ : ∃ g, w4.heap.size = g := ⟨_, rfl⟩
              obtain ⟨W5, hW5⟩ : ∃ W5, w4.alloc (.cells #[.int .i64 n, .string nm, .int .i64 0, .string nm, .int .i64 28, .int .i64 0, .int .i64 0, .int .i64 0, .int .i64 0, .int .i64 604800] 84) = W5 := ⟨_, rfl⟩
              have hb5 : Below w4.heap.size w4 W5 := by rw [← hW5]; exact (Below.refl _ _).alloc (Nat.le_refl _) _
              have HC5 : Hid (CellsAt W5 g (lkL ⟨n, nm, ⟨0, nm, 28, 0⟩, 0, 0, 0, 604800⟩)) := Lib.hid (by rw [← hW5, ← hg]; exact lk_new w4 _ n nm 28 604800)
              have HK5 : Hid (Blk W5 g) := Lib.hid (by rw [← hW5, ← hg]; exact Blk.new w4 _ _)
              have HGN : Hid (∀ k ∈ fpO G v A, k ≠ g) := Lib.hid (fun k hk e => by have := fpO_lt HS4.out k hk; omega)
              have HGR : Hid (R < g) := Lib.hid (by have := HRW4.out; omega)
              have HS5 := Lib.hid (HS4.out.below hb5)
              have HZ5 := Lib.hid (HZ4.out.below hb5)
              have HF5 := Lib.hid (HF4.out.trans (Foot.ofBelow _ hb5))
              go_upto_region 10 with fail
              go_upto_region 11 with (first | exact build_of rfl rfl (built_q nm 28) (by simp only [List.map_toArray, List.map_cons, List.map_nil]; rfl) | exact build_of rfl rfl (built_lk n nm 28 604800) (by simp only [List.map_toArray, List.map_cons, List.map_nil]; rfl))
              try rw [hW5]
              try rw [hg]
              clear hW5 hg hb5 hc6 hl16 HS4 HZ4 HF4 HRW4 HB34
              have hc6 := HS5.out.cs.cell 6 _ rfl
              rw [HVV.out] at hc6
              go_upto_region 12 with (first
                | (refine build_stepPt1 rfl _ rfl rfl (fun W6 HW6 => ?_); have hb6 : Below W5.heap.size W5 W6 := (by rw [HW6.out]; exact (Below.refl _ _).alloc (Nat.le_refl _) _); have HM6 : Hid (W6.cell? ⟨W5.heap.size, 0, none⟩ = some (ptV g)) := Lib.hid (by rw [HW6.out]; exact (CellsAt.new W5 82 [ptV g]).cell 0 _ rfl); have HS6 := Lib.hid (HS5.out.below hb6); have HZ6 := Lib.hid (HZ5.out.below hb6); have HF6 := Lib.hid (HF5.out.trans (Foot.ofBelow _ hb6)); have HC6 := Lib.hid (HC5.out.below hb6); have HK6 := Lib.hid (HK5.out.below hb6); have HR6 : Hid (RowP W6 0 v (A.map Prod.fst)) := Lib.hid HS6.out.row; have HN6 : Hid ((A.map Prod.fst).length ≤ 900 ∧ 0 ≤ W6.heap.size) := Lib.hid ⟨by rw [List.length_map]; have := HAL.out; omega, Nat.zero_le _⟩; have HRG6 : Hid (R < W6.heap.size) := Lib.hid HZ6.out.lt; clear hb6 hc6 HS5 HZ5 HF5 HC5 HK5)
                | (at_builtin; refine wpList_plain rfl (fun K hK => wp_append_pt HR6 HM6 HN6 _ _ rfl HVV.out.symm rfl (fun v6 V6 h1 h2 h3 => hK _ _ ?_)); obtain ⟨a6, m6, c6, hv6⟩ : ∃ a m c, v6 = .slice a m c := (by obtain ⟨a, c, e⟩ := h1.out.slice; exact ⟨a, _, c, e⟩); subst hv6; have hcs := HS6.out.cs.foot h3.out (by simp; exact fun e => (HS6.out.vb G e).1 rfl); have hcc := hcs.cell 6 _ rfl; have hcf := hcs.live 6 (show 6 < 7 by decide); rw [HVV.out] at hcc; clear hcs))
              have HGR8 := SolO.grow HS6.out HC6.out HK6.out HGN.out (newLk_ok HS6.out.cf HB0.out HB1.out HNM.out (by decide) (by decide) (by decide)) h1.out h3.out
              have HS8 := Lib.hid HGR8.1
              have HF8 : Hid (Foot (fpO G v A) (fpO G (.slice a6 m6 c6) (A ++ [(g, ⟨n, nm, ⟨0, nm, 28, 0⟩, 0, 0, 0, 604800⟩)])) w (V6.setCell ⟨G, 6, none⟩ (.slice a6 m6 c6))) := Lib.hid (by
                have f1 := HF6.out
                have f2 := HGR8.2
                have hgw : w.heap.size ≤ g := by have := HRR.out; have := HGR.out; omega
                refine ⟨f2.os.trans f1.os, f2.tape.trans f1.tape, f2.output.trans f1.output, Nat.le_trans f1.size f2.size, fun k hk hn => (f2.keep k (Nat.lt_of_lt_of_le hk f1.size) (fun e => ?_)).trans (f1.keep k hk hn), fun k hk => ?_⟩
                · rcases List.mem_cons.1 e with rfl | e
                  · omega
                  · exact hn e
                · rcases f2.new k hk with e | e
                  · rcases List.mem_cons.1 e with rfl | e
                    · exact .inr hgw
                    · exact .inl e
                  · exact .inr (Nat.le_trans f1.size e))
              have HZ8 : Hid (CellsAt (V6.setCell ⟨G, 6, none⟩ (.slice a6 m6 c6)) R evZ) := Lib.hid (HZ6.out.foot HGR8.2 (fun e => by
                rcases List.mem_cons.1 e with rfl | e
                · have := HGR.out; omega
                · have := HIN.out R e; omega))
              have HM8 : (g, (⟨n, nm, ⟨0, nm, 28, 0⟩, 0, 0, 0, 604800⟩ : Lk)) ∈ A ++ [(g, ⟨n, nm, ⟨0, nm, 28, 0⟩, 0, 0, 0, 604800⟩)] := by simp
              have HAg : Hid (∀ p ∈ A, p.1 ≠ g) := Lib.hid (fun p hp => HGN.out _ (mem_fpO hp))
              have HV8 : Hid (∀ k ∈ fpO G (.slice a6 m6 c6) (A ++ [(g, ⟨n, nm, ⟨0, nm, 28, 0⟩, 0, 0, 0, 604800⟩)]), k ≠ R) := Lib.hid (fun k hk e => by
                subst e
                rcases HGR8.2.new k hk with e | e
                · rcases List.mem_cons.1 e with e | e
                  · have := HGR.out; omega
                  · have := HIN.out k e; omega
                · have := HRG6.out; omega)
              clear HGR8 h1 h2 h3 hcc hcf HS6 HZ6 HF6 HC6 HK6 HR6 HN6 HM6 HRG6 HFL
              generalize V6.setCell ⟨G, 6, none⟩ (.slice a6 m6 c6) = W8 at *
              have HSN := Lib.hid (send_any G g c ⟨n, nm, ⟨0, nm, 28, 0⟩, 0, 0, 0, 604800⟩ draw now W8 (HS8.out.cs.cell 3 _ rfl) HS8.out.cs.lt (HS8.out.lk _ HM8).1 (HS8.out.lk _ HM8).2 (by have := HS8.out.gp _ HM8; exact fun e => this e.symm) HDW.out HN0.out HN1.out HS8.out.cf)
              have HOK9 := Lib.hid (sendL_ok HS8.out.cf (HS8.out.ok _ HM8) draw now HN0.out HN1.out)
              have HGW : Hid (w.heap.size ≤ g) := Lib.hid (by have := HRR.out; have := HGR.out; omega)
              have HEQ : Hid (newLk c n nm 28 draw now = sendL c ⟨n, nm, ⟨0, nm, 28, 0⟩, 0, 0, 0, 604800⟩ draw now) := Lib.hid rfl
              obtain ⟨l9, hl9⟩ : ∃ l9, sendL c ⟨n, nm, ⟨0, nm, 28, 0⟩, 0, 0, 0, 604800⟩ draw now = l9 := ⟨_, rfl⟩
              rw [hl9] at HOK9 HEQ
              simp only [hl9] at HSN
              clear hl9
              go_wp2_with fail
              refine HSN.out.mono ?_
              rintro e w9 ⟨rfl, hc9, hk9, hf9⟩
              have HS9 := Lib.hid (HS8.out.put HM8 hc9 hk9 HOK9.out hf9)
              rw [setA_last HAg.out] at HS9
              have HZ9 := Lib.hid (HZ8.out.foot hf9 (by have := HGR.out; simp; omega))
              have HFP : Hid (fpO G (.slice a6 m6 c6) (A ++ [(g, ⟨n, nm, ⟨0, nm, 28, 0⟩, 0, 0, 0, 604800⟩)]) = fpO G (.slice a6 m6 c6) (A ++ [(g, l9)])) := Lib.hid (by unfold fpO; rw [List.map_append, List.map_append]; rfl)
              rw [HFP.out] at HF8 HV8
              have HF9 := Lib.hid (HF8.out.trans (foot_sub hf9 (fun k hk => by rw [List.mem_singleton.1 hk]; exact mem_fpO (p := (g, l9)) (by simp))))
              clear hc9 hk9 hf9 HSN HS8 HZ8 HF8 HFP HM8
              unfold evV
              go_wp2_with (refine store_of HZ9 rfl ev_size _ _ rfl rfl rfl (vs := evL (evS l9)) rfl rfl rfl (fun U HU HUC => ?_))
              have HX1 : SolO U G cp c (n + 1) (.slice a6 m6 c6) (A ++ [(g, l9)]) := HS9.out.foot (by rw [HU.out]; exact foot_cells R 0 _) (fun k hk => by have := HV8.out k hk; simpa using this)
              have HX2 : Foot (fpO G v A) (fpO G (.slice a6 m6 c6) (A ++ [(g, l9)])) w U := by rw [HU.out]; exact foot_new HF9.out (by have := HRR.out; omega)
              exact bodyPost_ret (results_te Try.results16 rfl HUC.out Try.underlying56 rfl ev_size) rfl ⟨evS l9, .slice a6 m6 c6, A ++ [(g, l9)], rfl, HX1, HX2, .inr (.inr (.inr ⟨HAK.out, HNO.out, H16.out, by rw [HEQ.out], g, HGW.out, by rw [HEQ.out]⟩))⟩
          · have HYES := Lib.hid hyes
            have HNOW := Lib.hid hnow
            have hrow2 := hrow.mono (Nat.le_of_lt HRW3.out)
            obtain ⟨a5, c5, e5, _⟩ := hrow.ads
            subst e5
            have HROW := Lib.hid hrow
            clear hyes hnow hrow hrow2
            go_wp2_with fail
            refine (done_any n a5 L.length c5 _).mono ?_
            rintro e w9 ⟨rfl, hb9⟩
            have HZ9 := Lib.hid (HZ4.out.below hb9)
            have HS9 := Lib.hid (HS4.out.below hb9)
            have HF9 := Lib.hid (HF4.out.trans (Foot.ofBelow _ hb9))
            have HR9 := Lib.hid (HROW.out.below hb9)
            clear hb9 HFL HROW HZ4 HS4 HF4
            unfold evV
            go_wp2_with (refine store_of HZ9 rfl ev_size _ _ rfl rfl rfl (vs := evL (evD n a5 L.length c5)) rfl rfl rfl (fun U HU HUC => ?_))
            have HX := FIN.out w9 U A v (evL (evD n a5 L.length c5)) HS9.out HF9.out (fun k hk => HIN.out k hk) HU.out
            have HRU : RowA U w.heap.size (.slice a5 L.length c5) L := (HR9.out.kept2 (fun g hg => by rw [HU.out]; exact heap_setCells_other _ _ _ _ _ (by have := HR9.out.lt g hg; have := HRW3.out; omega))).mono (by have := HRR.out; have := HRW3.out; omega)
            exact bodyPost_ret (results_te Try.results16 rfl HUC.out Try.underlying56 rfl ev_size) rfl ⟨evD n a5 L.length c5, v, A, rfl, HX.1, HX.2, .inr (.inl ⟨HAK.out, HYES.out, HNOW.out, rfl, rfl, a5, c5, rfl, HRU⟩)⟩
      · have HAK : Hid (askOk nm kd = false) := Lib.hid (by unfold askOk; rw [hm]; simp; omega)
        have hk1 : (kd != 1) = true := by simp; omega
        have hk28 : (kd != 28) = true := by simp; omega
        go_wp2_with fail
        refine (HFL 1 _).out.mono ?_
        rintro e w9 ⟨rfl, hb9⟩
        have HZ9 := Lib.hid (HZ3.out.below hb9)
        have HS9 := Lib.hid (HS3.out.below hb9)
        have HF9 := Lib.hid (HF3.out.trans (Foot.ofBelow _ hb9))
        clear hb9 HFL
        unfold evV
        go_wp2_with (refine store_of HZ9 rfl ev_size _ _ rfl rfl rfl (vs := evL (evF n 1)) rfl rfl rfl (fun U HU HUC => ?_))
        have HX := FIN.out w9 U A v (evL (evF n 1)) HS9.out HF9.out (fun k hk => HIN.out k hk) HU.out
        exact bodyPost_ret (results_te Try.results16 rfl HUC.out Try.underlying56 rfl ev_size) rfl ⟨evF n 1, v, A, rfl, HX.1, HX.2, .inl ⟨HAK.out, rfl, rfl, rfl⟩⟩
end Go.Proofs.Ytedmkdjijhflnaa
/- The landed solver: New, Config and Open. -/
namespace Go.Proofs.Ytedmkdjijhflnaa
open Go.RowKit Go.Sort Go.Shelf Go.Maps
set_option linter.unusedVariables false
set_option maxRecDepth 20000
set_option linter.unusedSimpArgs false

theorem within_any (n m : Int) (w : World) : Calls Try.prog 26 #[.int .i64 n, .int .i64 m] w fun e w' => e = .returned (.int .i64 (min (max n 1) m)) ∧ w' = w := by
  obtain ⟨r, hr⟩ : ∃ r, min (max n 1) m = r := ⟨_, rfl⟩
  go_enter Try.func26, Try.ntmps26
  go_wp2_with fail
  go_ret
  exact ⟨by rw [hr]; rfl, rfl⟩
/-- The limits that are told, as they are kept. -/
def cfgL (s t u r : Int) : List Value := [.int .i64 s, .int .i64 t, .int .i64 u, .int .i64 r]
def cfgP (s t u r : Int) : Cfg := ⟨min (max s 1) 4, min (max t 1) 5, min (max u 1) 1000, min (max r 1) 64⟩
theorem cfgP_ok (s t u r : Int) : (cfgP s t u r).Ok := ⟨by simp only [cfgP]; omega, by simp only [cfgP]; omega, by simp only [cfgP]; omega, by simp only [cfgP]; omega, by simp only [cfgP]; omega, by simp only [cfgP]; omega⟩
theorem cf_size : (Try.prog.info? 53).map (·.size) = some 4 := by kernel_rfl
theorem so_size : (Try.prog.info? 76).map (·.size) = some 7 := by kernel_rfl
theorem built_cf (s t u r : Int) : Try.prog.built 53 [(0, .int .i64 s), (1, .int .i64 t), (2, .int .i64 u), (3, .int .i64 r)] = some #[.int .i64 s, .int .i64 t, .int .i64 u, .int .i64 r] := by kernel_rfl
theorem built_so (cp : Nat) (s t u r : Int) : Try.prog.built 76 [(0, .pointer (some ⟨cp, 0, none⟩)), (1, .agg #[.int .i64 s, .int .i64 t, .int .i64 u, .int .i64 r])] = some #[.pointer (some ⟨cp, 0, none⟩), .int .i64 s, .int .i64 t, .int .i64 u, .int .i64 r, .int .i64 0, .slice none 0 0] := by kernel_rfl
theorem solO_new (w : World) (t : TypeId) (cp : Nat) {s u r x : Int} (h : Cfg.Ok ⟨s, u, r, x⟩) : SolO (w.alloc (.cells #[.pointer (some ⟨cp, 0, none⟩), .int .i64 s, .int .i64 u, .int .i64 r, .int .i64 x, .int .i64 0, .slice none 0 0] t)) w.heap.size cp ⟨s, u, r, x⟩ 0 (.slice none 0 0) [] :=
  ⟨CellsAt.new w t (solL cp ⟨s, u, r, x⟩ 0 (.slice none 0 0)), RowP.nil _ _, (fun p hp => by cases hp), List.nodup_nil, (fun p hp => by cases hp), (fun g hg => by cases hg), (fun p hp => by cases hp), h⟩
set_option maxRecDepth 100000 in
set_option maxHeartbeats 2000000 in
theorem new12_any (s t u r : Int) (w : World) :
    Calls Try.prog 14 #[.agg #[.int .i64 s, .int .i64 t, .int .i64 u, .int .i64 r]] w fun e w' => ∃ G cp b, e = .returned (.pointer (some ⟨G, 0, none⟩)) ∧ SolO w' G cp (cfgP s t u r) 0 (.slice none 0 0) [] ∧ CacAt w' cp b (cfgP s t u r).rm [] ∧ w.heap.size ≤ G ∧ w.heap.size ≤ cp ∧ w.heap.size ≤ b ∧ G ≠ cp ∧ G ≠ b ∧ Below w.heap.size w w' := by
  obtain ⟨W, hW⟩ : ∃ W, w.alloc (.cells #[.int .i64 s, .int .i64 t, .int .i64 u, .int .i64 r] 53) = W := ⟨_, rfl⟩
  have hb : Below w.heap.size w W := by rw [← hW]; exact (Below.refl _ _).alloc (Nat.le_refl _) _
  have HC : Hid (CellsAt W w.heap.size [.int .i64 s, .int .i64 t, .int .i64 u, .int .i64 r]) := Lib.hid (by rw [← hW]; exact CellsAt.new w _ [.int .i64 s, .int .i64 t, .int .i64 u, .int .i64 r])
  have HB := Lib.hid hb
  have HW0 : Hid (w.heap.size ≤ W.heap.size) := Lib.hid hb.size
  obtain ⟨R, hR⟩ : ∃ R, w.heap.size = R := ⟨_, rfl⟩
  have HRR := Lib.hid hR
  rw [hR] at HC
  have HNW := Lib.hid (new_any r W)
  have HOK := Lib.hid (cfgP_ok s t u r)
  obtain ⟨c, hc⟩ : ∃ c, cfgP s t u r = c := ⟨_, rfl⟩
  have HW1 := fun V => Lib.hid (within_any s 4 V)
  have HW2 := fun V => Lib.hid (within_any t 5 V)
  have HW3 := fun V => Lib.hid (within_any u 1000 V)
  obtain ⟨s', hs'⟩ : ∃ s', min (max s 1) 4 = s' := ⟨_, rfl⟩
  obtain ⟨t', ht'⟩ : ∃ t', min (max t 1) 5 = t' := ⟨_, rfl⟩
  obtain ⟨u', hu'⟩ : ∃ u', min (max u 1) 1000 = u' := ⟨_, rfl⟩
  obtain ⟨r', hr'⟩ : ∃ r', min (max r 1) 64 = r' := ⟨_, rfl⟩
  have hcc : c = ⟨s', t', u', r'⟩ := by rw [← hc, ← hs', ← ht', ← hu', ← hr']; rfl
  rw [hs'] at HW1
  rw [ht'] at HW2
  rw [hu'] at HW3
  rw [hr'] at HNW
  rw [hc, hcc] at HOK
  rw [hc, hcc]
  clear hb hc hcc hs' ht' hu' hr'
  go_enter Try.func14, Try.ntmps14
  go_upto_region 1 with fail
  try rw [hW]
  try rw [hR]
  clear hW hR
  have h3 := HC.out.cell 3 _ rfl
  go_wp2_with fail
  refine HNW.out.mono ?_
  rintro e w1 ⟨cp, b, rfl, hca, hcp, hbb, hb1⟩
  have HC1 := Lib.hid (HC.out.below hb1)
  have HB1 := Lib.hid (chain HB.out hb1)
  have HCA := Lib.hid hca
  have HCP := Lib.hid hcp
  have HBB := Lib.hid hbb
  have HWS : Hid (W.heap.size ≤ w1.heap.size) := Lib.hid hb1.size
  clear hca hcp hbb hb1 h3 HNW HC HB
  go_upto_region 2 with fail
  obtain ⟨S, hS⟩ : ∃ S : World → Prop, (fun V => Below w1.heap.size w1 V) = S := ⟨_, rfl⟩
  have HSB : Hid (∀ V, S V → Below w1.heap.size w1 V) := Lib.hid (fun V h => by rw [← hS] at h; exact h)
  have HSC : Hid (∀ V, S V → CellsAt V R [.int .i64 s, .int .i64 t, .int .i64 u, .int .i64 r]) := Lib.hid (fun V h => HC1.out.below (HSB.out V h))
  have C0 : Hid (∀ V, S V → V.cell? ⟨R, 0, none⟩ = some (.int .i64 s)) := Lib.hid (fun V h => (HSC.out V h).cell 0 _ rfl)
  have C1 : Hid (∀ V, S V → V.cell? ⟨R, 1, none⟩ = some (.int .i64 t)) := Lib.hid (fun V h => (HSC.out V h).cell 1 _ rfl)
  have C2 : Hid (∀ V, S V → V.cell? ⟨R, 2, none⟩ = some (.int .i64 u)) := Lib.hid (fun V h => (HSC.out V h).cell 2 _ rfl)
  have K1 : ∀ V, S V → Hid (Calls Try.prog 26 #[.int .i64 s, .int .i64 4] V fun e w' => e = .returned (.int .i64 s') ∧ S w') := fun V h => Lib.hid ((HW1 V).out.mono (by rintro e w' ⟨rfl, rfl⟩; exact ⟨rfl, h⟩))
  have K2 : ∀ V, S V → Hid (Calls Try.prog 26 #[.int .i64 t, .int .i64 5] V fun e w' => e = .returned (.int .i64 t') ∧ S w') := fun V h => Lib.hid ((HW2 V).out.mono (by rintro e w' ⟨rfl, rfl⟩; exact ⟨rfl, h⟩))
  have K3 : ∀ V, S V → Hid (Calls Try.prog 26 #[.int .i64 u, .int .i64 1000] V fun e w' => e = .returned (.int .i64 u') ∧ S w') := fun V h => Lib.hid ((HW3 V).out.mono (by rintro e w' ⟨rfl, rfl⟩; exact ⟨rfl, h⟩))
  have K4 : ∀ V, S V → Hid (Calls Try.prog 27 #[.pointer (some ⟨cp, 0, none⟩)] V fun e w' => e = .returned (.int .i64 r') ∧ S w') := fun V h => Lib.hid ((room_any cp b r' [] V (HCA.out.below (HSB.out V h))).mono (by rintro e w' ⟨rfl, rfl⟩; exact ⟨rfl, h⟩))
  have HS0 : Hid (S w1.drew) := Lib.hid (by rw [← hS]; exact (Below.refl _ _).drew)
  have HSA : Hid (∀ V (o : Obj), S V → S (V.alloc o)) := Lib.hid (fun V o h => by rw [← hS] at h ⊢; exact h.alloc h.size _)
  clear hS
  refine wp_region_noPanic ?_
  refine wp_region_held_drew (S := S) (by kernel_rfl) HS0.out (fun hHeld => ?_)
  generalize w1.drew = V at *
  refine wpAnyH_take (i := 0) (v := ?_) rfl (by kernel_rfl) (by kernel_rfl) (by kernel_rfl) (fun _ _ _ h => h) (Or.inl ⟨by rfl, ?_⟩) (by assumption) ?_
  rotate_left
  · (intro w hSw; go_simp; try (with_reducible rfl))
  try simp only [Act.put, List.getElem_toArray, List.getElem_cons_zero, List.setIfInBounds_toArray, List.set_cons_zero, List.set_cons_succ]
  refine wpAnyH_take (i := 1) (v := ?_) rfl (by kernel_rfl) (by kernel_rfl) (by kernel_rfl) (fun _ _ _ h => h) (Or.inl ⟨by rfl, ?_⟩) (by assumption) ?_
  rotate_left
  · (intro w hSw; go_simp; try (with_reducible rfl))
  try simp only [Act.put, List.getElem_toArray, List.getElem_cons_zero, List.getElem_cons_succ, List.setIfInBounds_toArray, List.set_cons_zero, List.set_cons_succ]
  refine wpAnyH_take (i := 2) (v := ?_) rfl (by kernel_rfl) (by kernel_rfl) (by kernel_rfl) (fun _ _ _ h => h) (Or.inl ⟨by rfl, ?_⟩) (by assumption) ?_
  rotate_left
  · (intro w hSw; have hc0 := C0.out w hSw; go_simp; try (with_reducible rfl))
  try simp only [Act.put, List.getElem_toArray, List.getElem_cons_zero, List.getElem_cons_succ, List.setIfInBounds_toArray, List.set_cons_zero, List.set_cons_succ]
  refine wpAnyH_take (i := 4) (v := ?_) rfl (by kernel_rfl) (by kernel_rfl) (by kernel_rfl) (fun _ _ _ h => h) (Or.inl ⟨by rfl, ?_⟩) (by assumption) ?_
  rotate_left
  · (intro w hSw; go_simp; try (with_reducible rfl))
  try simp only [Act.put, List.getElem_toArray, List.getElem_cons_zero, List.getElem_cons_succ, List.setIfInBounds_toArray, List.set_cons_zero, List.set_cons_succ]
  refine wpAnyH_take (i := 5) (v := ?_) rfl (by kernel_rfl) (by kernel_rfl) (by kernel_rfl) (fun _ _ _ h => h) (Or.inl ⟨by rfl, ?_⟩) (by assumption) ?_
  rotate_left
  · (intro w hSw; have hc0 := C1.out w hSw; go_simp; try (with_reducible rfl))
  try simp only [Act.put, List.getElem_toArray, List.getElem_cons_zero, List.getElem_cons_succ, List.setIfInBounds_toArray, List.set_cons_zero, List.set_cons_succ]
  refine wpAnyH_take (i := 7) (v := ?_) rfl (by kernel_rfl) (by kernel_rfl) (by kernel_rfl) (fun _ _ _ h => h) (Or.inl ⟨by rfl, ?_⟩) (by assumption) ?_
  rotate_left
  · (intro w hSw; go_simp; try (with_reducible rfl))
  try simp only [Act.put, List.getElem_toArray, List.getElem_cons_zero, List.getElem_cons_succ, List.setIfInBounds_toArray, List.set_cons_zero, List.set_cons_succ]
  refine wpAnyH_take (i := 8) (v := ?_) rfl (by kernel_rfl) (by kernel_rfl) (by kernel_rfl) (fun _ _ _ h => h) (Or.inl ⟨by rfl, ?_⟩) (by assumption) ?_
  rotate_left
  · (intro w hSw; have hc0 := C2.out w hSw; go_simp; try (with_reducible rfl))
  try simp only [Act.put, List.getElem_toArray, List.getElem_cons_zero, List.getElem_cons_succ, List.setIfInBounds_toArray, List.set_cons_zero, List.set_cons_succ]
  refine wpAnyH_take (i := 10) (v := ?_) rfl (by kernel_rfl) (by kernel_rfl) (by kernel_rfl) (fun _ _ _ h => h) (Or.inl ⟨by rfl, ?_⟩) (by assumption) ?_
  rotate_left
  · (intro w hSw; go_simp; try (with_reducible rfl))
  try simp only [Act.put, List.getElem_toArray, List.getElem_cons_zero, List.getElem_cons_succ, List.setIfInBounds_toArray, List.set_cons_zero, List.set_cons_succ]
  refine wpAnyH_ready (rs := [3]) (by kernel_rfl) (by simp) ?_
  refine AllReadyH.cons rfl (fun K hK => ?_) AllReadyH.nil
  go_simp
  refine (K1 _ (by assumption)).out.mono ?_
  rintro e wr3 ⟨rfl, hS3⟩
  go_wp2_with fail
  refine hK.out _ _ hS3 (fun hHeld => ?_)
  clear hK K
  try simp only [Act.put, List.getElem_toArray, List.getElem_cons_zero, List.getElem_cons_succ, List.setIfInBounds_toArray, List.set_cons_zero, List.set_cons_succ]
  refine wpAnyH_ready (rs := [6]) (by kernel_rfl) (by simp) ?_
  refine AllReadyH.cons rfl (fun K hK => ?_) AllReadyH.nil
  go_simp
  refine (K2 _ (by assumption)).out.mono ?_
  rintro e wr6 ⟨rfl, hS6⟩
  go_wp2_with fail
  refine hK.out _ _ hS6 (fun hHeld => ?_)
  clear hK K
  try simp only [Act.put, List.getElem_toArray, List.getElem_cons_zero, List.getElem_cons_succ, List.setIfInBounds_toArray, List.set_cons_zero, List.set_cons_succ]
  refine wpAnyH_ready (rs := [9]) (by kernel_rfl) (by simp) ?_
  refine AllReadyH.cons rfl (fun K hK => ?_) AllReadyH.nil
  go_simp
  refine (K3 _ (by assumption)).out.mono ?_
  rintro e wr9 ⟨rfl, hS9⟩
  go_wp2_with fail
  refine hK.out _ _ hS9 (fun hHeld => ?_)
  clear hK K
  try simp only [Act.put, List.getElem_toArray, List.getElem_cons_zero, List.getElem_cons_succ, List.setIfInBounds_toArray, List.set_cons_zero, List.set_cons_succ]
  refine wpAnyH_ready (rs := [11]) (by kernel_rfl) (by simp) ?_
  refine AllReadyH.cons rfl (fun K hK => ?_) AllReadyH.nil
  go_simp
  refine (K4 _ (by assumption)).out.mono ?_
  rintro e wr11 ⟨rfl, hS11⟩
  go_wp2_with fail
  refine hK.out _ _ hS11 (fun hHeld => ?_)
  clear hK K
  try simp only [Act.put, List.getElem_toArray, List.getElem_cons_zero, List.getElem_cons_succ, List.setIfInBounds_toArray, List.set_cons_zero, List.set_cons_succ]
  refine wpAnyH_take (i := 12) rfl (by kernel_rfl) (by kernel_rfl) (by kernel_rfl) (fun _ _ _ h => h) (yields_build (by rfl) rfl (built_cf s' t' u' r') (by simp only [List.map_toArray, List.map_cons, List.map_nil]; rfl)) (by assumption) ?_
  try simp only [Act.put, List.getElem_toArray, List.getElem_cons_zero, List.getElem_cons_succ, List.setIfInBounds_toArray, List.set_cons_zero, List.set_cons_succ]
  refine wpAnyH_take (i := 13) rfl (by kernel_rfl) (by kernel_rfl) (by kernel_rfl) (fun _ _ _ h => h) (yields_build (by rfl) rfl (built_so cp s' t' u' r') (by simp only [List.map_toArray, List.map_cons, List.map_nil]; rfl)) (by assumption) ?_
  try simp only [Act.put, List.getElem_toArray, List.getElem_cons_zero, List.getElem_cons_succ, List.setIfInBounds_toArray, List.set_cons_zero, List.set_cons_succ]
  refine wpAnyH_ready (rs := [14]) (by kernel_rfl) (by simp) ?_
  refine AllReadyH.one rfl rfl (fun K hK => ?_)
  go_wp2_with fail
  have HV := Lib.hid (HSB.out _ hHeld)
  refine hK.out _ _ (HSA.out _ _ hHeld) (fun hHeld2 => ?_)
  clear hK K
  try simp only [Act.put, List.getElem_toArray, List.getElem_cons_zero, List.getElem_cons_succ, List.setIfInBounds_toArray, List.set_cons_zero, List.set_cons_succ]
  refine wpAnyH_take (i := 15) (v := ?_) rfl (by kernel_rfl) (by kernel_rfl) (by kernel_rfl) (fun _ _ _ h => h) (Or.inl ⟨by rfl, ?_⟩) (by assumption) ?_
  rotate_left
  · (intro w hSw; go_simp; try (with_reducible rfl))
  try simp only [Act.put, List.getElem_toArray, List.getElem_cons_zero, List.getElem_cons_succ, List.setIfInBounds_toArray, List.set_cons_zero, List.set_cons_succ]
  refine wpAnyH_done (by kernel_rfl) ?_ _
  refine NoPanic.normal ?_
  have HSN := Lib.hid (solO_new wr11 76 cp HOK.out)
  clear hHeld hHeld2
  go_wp2_with fail
  go_ret
  have hv := HV.out
  have hws := HWS.out
  have hrr := HRR.out
  have hbs := HB1.out.size
  have hcl := HCA.out.lt
  have hvs := hv.size
  refine ⟨wr11.heap.size, cp, b, rfl, HSN.out, (HCA.out.below hv).below ((Below.refl _ _).alloc (Nat.le_refl _) _), by omega, ?_, ?_, by omega, by omega, (chain HB1.out hv).alloc (by omega) _⟩
  · exact Nat.le_trans HW0.out HCP.out
  · exact Nat.le_trans HW0.out HBB.out
set_option maxRecDepth 100000 in
theorem config_any (G cp : Nat) (c : Cfg) (n : Int) (v : Value) (w : World) (h : CellsAt w G (solL cp c n v)) :
    Calls Try.prog 15 #[.pointer (some ⟨G, 0, none⟩)] w fun e w' => e = .returned (.agg (cfgL c.sv c.tr c.wt c.rm).toArray) ∧ Below w.heap.size w w' := by
  have HR : Hid (w.rangeAt G 1 (cfgL c.sv c.tr c.wt c.rm)) := Lib.hid (fun j u hu => by
    have hj : j < 4 := by
      apply Classical.byContradiction
      intro h2
      rw [List.getElem?_eq_none (by show 4 ≤ j; omega)] at hu
      cases hu
    have : j = 0 ∨ j = 1 ∨ j = 2 ∨ j = 3 := by omega
    rcases this with rfl | rfl | rfl | rfl <;> exact h.cell _ u hu)
  obtain ⟨W, hW⟩ : ∃ W, w.alloc (.cells #[.int .i64 0, .int .i64 0, .int .i64 0, .int .i64 0] 53) = W := ⟨_, rfl⟩
  have hb : Below w.heap.size w W := by rw [← hW]; exact (Below.refl _ _).alloc (Nat.le_refl _) _
  have HZ : Hid (CellsAt W w.heap.size [.int .i64 0, .int .i64 0, .int .i64 0, .int .i64 0]) := Lib.hid (by rw [← hW]; exact CellsAt.new w _ [.int .i64 0, .int .i64 0, .int .i64 0, .int .i64 0])
  have HR1 : Hid (W.rangeAt G 1 (cfgL c.sv c.tr c.wt c.rm)) := Lib.hid (fun j u hu => (hb.cell (p := ⟨G, 1 + j, none⟩) h.lt).trans (HR.out j u hu))
  have HB := Lib.hid hb
  clear HR hb h
  obtain ⟨s, t, u, r⟩ := c
  simp only [cfgL] at *
  go_enter Try.func15, Try.ntmps15
  go_upto_region 1 with fail
  try rw [hW]
  clear hW
  go_wp2_with (first
    | (refine wpList_load_row rfl 53 _ rfl G 1 rfl _ _ HR1.out Try.underlying53 rfl cf_size ?_)
    | (refine store_of HZ rfl cf_size _ _ rfl rfl rfl (vs := [.int .i64 s, .int .i64 t, .int .i64 u, .int .i64 r]) rfl rfl rfl (fun U HU HUC => ?_)))
  refine bodyPost_ret (results_of Try.results15 rfl HUC.out Try.underlying53 rfl cf_size) rfl ⟨rfl, ?_⟩
  rw [HU.out]
  exact below_cells (Nat.le_refl _) _ _ _ HB.out
/-- Rows of numbers of one's own. -/
def intsV (D : List Int) : List Value := D.map (Value.int .i64)
theorem infoInt12 : (Try.prog.info? 3).map (fun i => (i.zero, i.size, i.bytes)) = some (some (.int .i64 0), 1, 8) := by kernel_rfl
theorem wp_append_int {op : Oper} {a : Act} {w : World} {K : Act → World → Prop} {Q : Exit → Act → World → Prop} {B G c : Nat} {v : Value} {l : List Int} {p : Int} (hown : Hid (w.ownsRow B 3 1 v l.length (intsV l))) (hm : Hid (w.cell? ⟨G, 0, none⟩ = some (.int .i64 p))) (hn : Hid (l.length ≤ 900 ∧ B ≤ w.heap.size)) (sl x : Operand)
    (ho : op.op = .call { callee := .builtin .append, args := #[sl, x], argTypes := #[49, 49] }) (hs : a.eval sl = v) (hx : a.eval x = .slice (some ⟨G, 0, none⟩) 1 c)
    (h : ∀ v' w', Hid (w'.ownsRow B 3 1 v' (l ++ [p]).length (intsV (l ++ [p]))) → Hid (w.grownBy w' v.ownBlock) → K (a.put op.dst v') w') : op.wp Try.prog a w K Q := by
  obtain ⟨i0, hi0, hz0, hz1, hz2⟩ := info_parts infoInt12
  obtain ⟨hn1, hn2⟩ := hn.out
  obtain ⟨v', w', hr, h2, h3, _, h5⟩ := run_append_own_at (P := Try.prog) w B 49 op.type 3 i0 _ 1 8 Try.underlying49 hi0 hz0 hz1 hz2 rfl (by decide) v l.length (intsV l) hown.out ⟨G, 0, none⟩ 1 c [.int .i64 p] rfl (fun j u hu => by
      match j, hu with
      | 0, hu => rw [add_none, hm.out]; exact hu
      | j + 1, hu => simp at hu) (fun u hu => by rw [List.mem_singleton.1 hu]; rfl) (by unfold maxLen; omega) (by omega) hn2
  unfold Oper.wp execOp
  simp only [ho, resolve, invoke, builtin, Sem.run_bind, Sem.run_pure, Result.andThen_ok, List.map_toArray, List.map_cons, List.map_nil, hs, hx, hr]
  refine h v' w' (Lib.hid ?_) (Lib.hid h3)
  simpa [intsV] using h2
theorem own_below12 {w w' : World} {B : Nat} {t : TypeId} {s : Nat} {v : Value} {n : Nat} {xs : List Value} (h : w.ownsRow B t s v n xs) (hb : Below w.heap.size w w') : w'.ownsRow B t s v n xs := by
  obtain ⟨h1, h2⟩ := h
  refine ⟨h1, ?_⟩
  rcases h2 with h2 | ⟨g, cap, cur, e1, e2, e3, e4⟩
  · exact .inl h2
  · refine .inr ⟨g, cap, cur, e1, e2, ?_, e4⟩
    have hlt : g < w.heap.size := (Array.getElem?_eq_some_iff.1 e3).1
    rw [hb.block g hlt]
    exact e3
set_option maxRecDepth 100000 in
set_option maxHeartbeats 1000000 in
theorem open12_any (G cp : Nat) (c : Cfg) (n : Int) (v : Value) (A : List PL) (w : World) (h : SolO w G cp c n v A) (hl : A.length ≤ 100) :
    Calls Try.prog 19 #[.pointer (some ⟨G, 0, none⟩)] w fun e w' => ∃ vo, e = .returned vo ∧ w'.ownsRow w.heap.size 3 1 vo A.length (intsV (A.map (fun p => p.2.n))) ∧ Below w.heap.size w w' := by
  have hrow := h.row.form
  have hc6 := h.cs.cell 6 _ rfl
  have HS := Lib.hid h
  have HL := Lib.hid hl
  obtain ⟨N, hN⟩ : ∃ N, A.length = N := ⟨_, rfl⟩
  obtain ⟨ao, co, gc, hv, hgc⟩ : ∃ ao co gc, v = .slice ao N co ∧ (A ≠ [] → ao = some ⟨gc, 0, none⟩ ∧ gc < w.heap.size ∧ w.rangeAt gc 0 (ptsV (A.map Prod.fst))) := by
    rcases hrow with ⟨e1, e2⟩ | ⟨g, cap, e1, e2, e3, e4, e5, e6⟩
    · have e3 : A = [] := by simpa using e2
      exact ⟨none, 0, 0, by rw [e1, ← hN, e3]; rfl, fun e => absurd e3 e⟩
    · exact ⟨_, cap, g, by rw [e1, List.length_map, hN], fun _ => ⟨rfl, e3, e6⟩⟩
  have HGC := Lib.hid hgc
  have HNN := Lib.hid hN
  have hn100 : N ≤ 100 := by rw [← hN]; exact hl
  rw [hv] at hc6
  rw [hN]
  have HR0 : Hid (w.ownsRow w.heap.size 3 1 (.slice none 0 0) ((A.take 0).map (fun p : PL => p.2.n)).length (intsV ((A.take 0).map (fun p : PL => p.2.n)))) := Lib.hid (World.ownsRow_nil _ _ _ _)
  have HB0 : Hid (Below w.heap.size w w) := Lib.hid (Below.refl _ _)
  clear h hrow hl hN hgc
  go_enter Try.func19, Try.ntmps19
  go_wp2_with fail
  go_loopw [3, 5, 11] (fun s3 _ s11 wr => ∃ k : Nat, k ≤ N ∧ s11 = .int .i64 (k : Int) ∧ Hid (wr.ownsRow w.heap.size 3 1 s3 ((A.take k).map (fun p : PL => p.2.n)).length (intsV ((A.take k).map (fun p : PL => p.2.n)))) ∧ Hid (Below w.heap.size w wr)) (fun _ _ i _ => N - (intOf i).toNat)
  case atStart => exact ⟨0, Nat.zero_le _, rfl, HR0, HB0⟩
  case round =>
    clear HR0 HB0
    obtain ⟨k, hk, rfl, HR, HB⟩ := hrel
    by_cases hkN : k < N
    · have hd : decide ((k : Int) < (N : Int)) = true := decide_eq_true (by omega)
      have hdn : decide (k < N) = true := decide_eq_true hkN
      have hk0 : k < A.length := by rw [HNN.out]; exact hkN
      have hne : A ≠ [] := fun e => by rw [e] at hk0; cases hk0
      obtain ⟨hac, hgl, hrg⟩ := HGC.out hne
      obtain ⟨g, l, hgl2⟩ : ∃ g l, A[k] = (g, l) := ⟨_, _, rfl⟩
      have hmem : (g, l) ∈ A := by rw [← hgl2]; exact List.getElem_mem hk0
      have hcell : wr.cell? ⟨gc, k, none⟩ = some (.pointer (some ⟨g, 0, none⟩)) := by
        have := hrg k (ptV g) (by rw [ptsV_at (by simpa using hk0)]; simp [hgl2])
        rw [Nat.zero_add] at this
        exact (HB.out.cell (p := ⟨gc, k, none⟩) hgl).trans this
      have hn0 : wr.cell? ⟨g, 0, none⟩ = some (.int .i64 l.n) := (((HS.out.lk _ hmem).1).below HB.out).cell 0 _ rfl
      have htk : (A.take (k + 1)).map (fun p : PL => p.2.n) = (A.take k).map (fun p : PL => p.2.n) ++ [l.n] := by rw [List.take_succ_eq_append_getElem hk0, List.map_append, hgl2]; rfl
      have HTK := Lib.hid htk
      have hlen : ((A.take k).map (fun p : PL => p.2.n)).length = k := by rw [List.length_map, List.length_take]; omega
      generalize hD : (A.take k).map (fun p : PL => p.2.n) = D at *
      have HNL : Hid (D.length ≤ 900 ∧ w.heap.size ≤ (wr.alloc (.cells #[.int .i64 l.n] 3)).heap.size) := Lib.hid ⟨by omega, by have := HB.out.size; simp; omega⟩
      have hb5 : Below wr.heap.size wr (wr.alloc (.cells #[.int .i64 l.n] 3)) := (Below.refl _ _).alloc (Nat.le_refl _) _
      have HR5 := Lib.hid (own_below12 HR.out hb5)
      have HM5 : Hid ((wr.alloc (.cells #[.int .i64 l.n] 3)).cell? ⟨wr.heap.size, 0, none⟩ = some (.int .i64 l.n)) := Lib.hid (by rw [World.cell?_alloc_new]; rfl)
      have HB5 := Lib.hid (chain HB.out hb5)
      subst hac
      clear hk0 hne hgl hrg hgl2 hmem htk hlen hD hb5
      generalize l.n = ln at *
      go_wp2_with (at_builtin; refine wpList_plain rfl (fun K hK => wp_append_int HR5 HM5 HNL _ _ rfl rfl rfl (fun v6 V6 h1 h2 => hK _ _ ?_)))
      go_roundw
      case rel => exact ⟨k + 1, by omega, by go_num, by rw [HTK.out]; exact h1, Lib.hid (HB5.out.grown h2.out HNL.out.2 (fun j hj => (HR5.out.lt j hj).1))⟩
      case measure => simp [intOf]; omega
    · obtain rfl : k = N := by omega
      have hd : decide ((k : Int) < (k : Int)) = false := by simp
      have hdn : decide (k < k) = false := by simp
      have htk : A.take k = A := List.take_of_length_le (by rw [HNN.out]; exact Nat.le_refl _)
      have h1 := HR.out
      rw [htk, List.length_map, HNN.out] at h1
      have H1 := Lib.hid h1
      clear HR h1 htk
      go_wp2_with fail
      go_ret
      exact ⟨_, rfl, H1.out, HB.out⟩
end Go.Proofs.Ytedmkdjijhflnaa
/- The landed solver with an empty cache, all its blocks above a bound: New, Start, Tick, Open. -/
namespace Go.Proofs.Ytedmkdjijhflnaa
open Go.RowKit Go.Sort Go.Shelf Go.Maps
set_option linter.unusedVariables false
set_option maxRecDepth 20000
set_option linter.unusedSimpArgs false

structure SolQ (w : World) (B G cp b : Nat) (c : Cfg) (n : Int) (v : Value) (A : List PL) : Prop where
  so : SolO w G cp c n v A
  ca : CacAt w cp b c.rm []
  na : cp ∉ fpO G v A ∧ b ∉ fpO G v A
  bs : ∀ k ∈ fpO G v A, B ≤ k
  lt : B ≤ w.heap.size
section
variable {w w' : World} {B G cp b : Nat} {c : Cfg} {n m : Int} {v v' : Value} {A A' : List PL}
theorem SolQ.below (h : SolQ w B G cp b c n v A) (hb : Below w.heap.size w w') : SolQ w' B G cp b c n v A :=
  ⟨h.so.below hb, h.ca.below hb, h.na, h.bs, Nat.le_trans h.lt hb.size⟩
theorem SolQ.next (h : SolQ w B G cp b c n v A) (hs : SolO w' G cp c m v' A') (hf : Foot (fpO G v A) (fpO G v' A') w w') : SolQ w' B G cp b c m v' A' ∧ Below B w w' := by
  have h1 := h.ca.lt
  refine ⟨⟨hs, h.ca.kept hf.size (hf.keep cp h1.1 h.na.1) (hf.keep b h1.2 h.na.2), ⟨hf.out h1.1 h.na.1, hf.out h1.2 h.na.2⟩, fun k hk => ?_, Nat.le_trans h.lt hf.size⟩, hf.below h.bs h.lt⟩
  rcases hf.new k hk with e | e
  · exact h.bs k e
  · exact Nat.le_trans h.lt e
end
theorem newQ_any (s t u r : Int) (w : World) :
    Calls Try.prog 14 #[.agg #[.int .i64 s, .int .i64 t, .int .i64 u, .int .i64 r]] w fun e w' => ∃ G cp b, e = .returned (.pointer (some ⟨G, 0, none⟩)) ∧ SolQ w' w.heap.size G cp b (cfgP s t u r) 0 (.slice none 0 0) [] ∧ Below w.heap.size w w' := by
  refine (new12_any s t u r w).mono ?_
  rintro e w' ⟨G, cp, b, rfl, h1, h2, h3, h4, h5, h6, h7, h8⟩
  refine ⟨G, cp, b, rfl, ⟨h1, h2, ⟨?_, ?_⟩, fun k hk => ?_, h8.size⟩, h8⟩
  · simp [fpO, Value.ownBlock]; omega
  · simp [fpO, Value.ownBlock]; omega
  · simp [fpO, Value.ownBlock] at hk; omega
theorem startQ_any (B G cp b : Nat) (nm : ByteArray) (kd draw now : Int) (c : Cfg) (n : Int) (v : Value) (A : List PL) (w : World) (h : SolQ w B G cp b c n v A) (hask : askOk nm kd = true)
    (hn : nm.size ≤ 2000000) (hk : (Lit.int .i64 kd).wf = true) (hd : (Lit.int .i64 draw).wf = true) (h0 : 0 ≤ now) (h1 : now ≤ 2199023255552) (hn0 : 0 ≤ n) (hn1 : n ≤ 999999) (hA : A.length ≤ 16) :
    Calls Try.prog 16 #[.pointer (some ⟨G, 0, none⟩), .string nm, .int .i64 kd, .int .i64 draw, .int .i64 now] w fun e w' => ∃ ev v' A', e = .returned (.tuple #[.int .i64 n, evV ev]) ∧ SolQ w' B G cp b c (n + 1) v' A' ∧ Below B w w' ∧ Foot (fpO G v A) (fpO G v' A') w w' ∧
      ((A.length = 16 ∧ ev = evF n 6 ∧ A' = A) ∨ (A.length ≠ 16 ∧ ev = evS (newLk c n nm kd draw now) ∧ ∃ g, A' = A ++ [(g, newLk c n nm kd draw now)])) := by
  have hl := h.ca.lt
  refine (start_any G cp b c.rm [] nm kd draw now [] c n v A w h.so (fun W hf => h.ca.kept hf.size (hf.keep cp hl.1 h.na.1) (hf.keep b hl.2 h.na.2)) (fun W _ e he => by cases he) (by decide) hn hk hd h0 h1 hn0 hn1 hA).mono ?_
  rintro e w' ⟨ev, v', A', rfl, hs, hf, hd⟩
  have hq := h.next hs hf
  refine ⟨ev, v', A', rfl, hq.1, hq.2, hf, ?_⟩
  have hg : (getE ([] : List Ce) (lowB nm) kd).isSome = false := rfl
  rw [hg, hask] at hd
  rcases hd with ⟨h, _⟩ | ⟨_, h, _⟩ | ⟨_, _, h, h2, _, h3⟩ | ⟨_, _, h, h2, g, _, h3⟩
  · cases h
  · cases h
  · exact .inl ⟨h, h2, h3⟩
  · exact .inr ⟨h, h2, g, h3⟩
theorem tickQ_any (B G cp b : Nat) (draw now : Int) (c : Cfg) (n : Int) (v : Value) (A : List PL) (w : World) (h : SolQ w B G cp b c n v A) (hal : ∀ p ∈ A, p.2.se < c.tr) (hd : (Lit.int .i64 draw).wf = true) (h0 : 0 ≤ now) (h1 : now ≤ 2199023255552) (hl : A.length ≤ 100) :
    Calls Try.prog 17 #[.pointer (some ⟨G, 0, none⟩), .int .i64 now, .int .i64 draw] w fun e w' => ∃ v' ve, e = .returned ve ∧ RowEv w' w.heap.size ve (tickE c now draw 0 A) ∧ SolQ w' B G cp b c n v' (tickA c now draw 0 A) ∧ Below B w w' ∧ Foot (fpO G v A) (fpO G v' (tickA c now draw 0 A)) w w' ∧ (∀ k ∈ fpO G v' (tickA c now draw 0 A), k < w.heap.size) := by
  refine (tick_any G cp draw now c n v A w h.so hal hd h0 h1 hl).mono ?_
  rintro e w' ⟨v', ve, rfl, hr, hv, hs, hf⟩
  have hsub : ∀ k ∈ fpO G v' (tickA c now draw 0 A), k ∈ fpO G v A := fun k hk => by
    rcases List.mem_cons.1 hk with rfl | hk
    · simp [fpO]
    rcases List.mem_append.1 hk with hk | hk
    · rw [hv] at hk
      exact List.mem_cons_of_mem _ (List.mem_append_left _ hk)
    · obtain ⟨q, hq, rfl⟩ := List.mem_map.1 hk
      exact List.mem_cons_of_mem _ (List.mem_append_right _ (tickA_sub _ _ q hq))
  have hq := h.next hs (⟨hf.os, hf.tape, hf.output, hf.size, hf.keep, fun k hk => .inl (hsub k hk)⟩)
  exact ⟨v', ve, rfl, hr, hq.1, hq.2, (⟨hf.os, hf.tape, hf.output, hf.size, hf.keep, fun k hk => .inl (hsub k hk)⟩), fun k hk => fpO_lt h.so k (hsub k hk)⟩
theorem openQ_any (B G cp b : Nat) (c : Cfg) (n : Int) (v : Value) (A : List PL) (w : World) (h : SolQ w B G cp b c n v A) (hl : A.length ≤ 100) :
    Calls Try.prog 19 #[.pointer (some ⟨G, 0, none⟩)] w fun e w' => ∃ vo a m, e = .returned vo ∧ vo = .slice a A.length m ∧ Below w.heap.size w w' := by
  refine (open12_any G cp c n v A w h.so hl).mono ?_
  rintro e w' ⟨vo, rfl, hr, hb⟩
  rcases hr.2 with ⟨e1, e2⟩ | ⟨g, cap, cur, e1, _⟩
  · exact ⟨_, none, 0, rfl, by rw [e1, e2], hb⟩
  · exact ⟨_, _, cap, rfl, e1, hb⟩
/-- The document's example of layer 12. -/
def cfg12 : Cfg := ⟨2, 2, 5, 1⟩
def nmA : ByteArray := ⟨#[97]⟩
def lv1 : Lk := ⟨0, nmA, ⟨7, nmA, 1, 0⟩, 0, 5, 0, 604800⟩
def lv2 : Lk := ⟨0, nmA, ⟨8, nmA, 1, 1⟩, 1, 10, 0, 604800⟩
theorem lv_ask : askOk nmA 1 = true := by kernel_rfl
theorem lv_new : newLk cfg12 0 nmA 1 7 0 = lv1 := by kernel_rfl
theorem lv_t1 (g : Nat) : tickA cfg12 5 8 0 [(g, lv1)] = [(g, lv2)] := by kernel_rfl
theorem lv_e1 (g : Nat) : tickE cfg12 5 8 0 [(g, lv1)] = [evS lv2] := by kernel_rfl
theorem lv_t2 (g : Nat) : tickA cfg12 10 9 0 [(g, lv2)] = [] := by kernel_rfl
theorem lv_e2 (g : Nat) : tickE cfg12 10 9 0 [(g, lv2)] = [evF 0 9] := by kernel_rfl
/-- One event in a row. -/
theorem RowEv.one {w : World} {B : Nat} {v : Value} {e : Ev} (h : RowEv w B v [e]) : ∃ g c, v = .slice (some ⟨g, 0, none⟩) 1 c ∧ B ≤ g ∧ g < w.heap.size ∧ w.rangeAt g 0 (evL e) := by
  rcases h.form with ⟨_, e2⟩ | ⟨g, cap, e1, h1, h2, _, _, h3⟩
  · cases e2
  · exact ⟨g, cap, e1, h1, h2, by simpa [flatEv] using h3⟩
end Go.Proofs.Ytedmkdjijhflnaa
